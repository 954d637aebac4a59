/-
  Regions: their operations in whatever order their edges allow come to one state, where none writes what another one, unordered to it, reads or writes.
-/
import Derived.Test.YtlmnhbobgfpanaaTrM
namespace Go.Proofs.Ytlmnhbobgfpanaa
open Go.RowKit

structure RO where
  dst : Option Nat
  guard : Option (Nat × Bool)
  op : AOp

def AOp.ops : AOp → List Operand
  | .bad => []
  | .mkmap _ _ _ r => r.toList
  | .mlook _ _ _ _ _ x i => [x, i]
  | .mset _ _ _ m i x => [m, i, x]
  | .ment _ _ _ _ m i => [m, i]
  | .mest _ _ m s x => [m, s, x]
  | .mlen x => [x]
  | .pure _ xs => xs
  | .s2b _ x => [x]
  | .mov x => [x]
  | .pick c x y => [c, x, y]
  | .alloc .. => []
  | .box _ _ x => [x]
  | .build _ _ ps => ps.map (·.2.2)
  | .bslice _ _ _ _ ps => ps.map (·.2)
  | .cslice _ _ ps => ps.map (·.2)
  | .load _ _ x => [x]
  | .store _ a x => [a, x]
  | .faddr _ x => [x]
  | .iaddr _ x i => [x, i]
  | .bin _ x y => [x, y]
  | .beq _ x y => [x, y]
  | .seq _ _ x y => [x, y]
  | .not x => [x]
  | .conv _ x => [x]
  | .fld _ _ _ x => [x]
  | .slc _ x lo hi => x :: (lo.toList ++ hi.toList)
  | .make _ _ _ _ _ l c => [l, c]
  | .mm _ x y => [x, y]
  | .slc3 _ x lo hi mx => x :: (lo.toList ++ hi.toList ++ mx.toList)
  | .b2s x => [x]
  | .b2b x => [x]
  | .copy _ d s => [d, s]
  | .clr _ _ x => [x]
  | .appz _ _ _ _ s n => [s, n]
  | .len _ x => [x]
  | .app _ _ _ _ s x => [s, x]
  | .apps _ s x => [s, x]
  | .ext x _ => [x]
  | .ifc _ x => [x]
  | .fn _ f c => f ++ c
  | .call _ as => as
  | .callv f as => f :: as

def tmpsOf (l : List Operand) : List Nat := l.filterMap fun | .tmp t => some t | _ => none

def gsem (σ : St) (fr : Nat) (r : RO) : AM :=
  match r.guard with
  | none => asem σ fr r.op
  | some (t, want) => match σ.get t with
    | .im (.val (.bool b)) => .ite (b == want) (asem σ fr r.op) (.done (.im (.val undef)) [])
    | .im (.val (.tuple _)) => .done (.im (.val undef)) []
    | _ => .fail

structure Ef where
  fr : Nat
  rd : List Nat
  dst : Option Nat
  v : V
  ups : List (Nat × Ob)

def Ef.wr (e : Ef) : List Nat := (e.dst.toList.map (2 * ·)) ++ e.ups.map fun p => 2 * p.1 + 1
def RO.rdT (r : RO) : List Nat := (tmpsOf r.op.ops).map (2 * ·) ++ r.guard.toList.map fun p => 2 * p.1

def regWp (P : Program) (base : Nat) : List RO → Nat → St → (St → List Ef → Prop) → Prop
  | [], _, σ, K => K σ []
  | r :: rs, i, σ, K => (gsem σ (base + 16 * i) r).wp P σ.O (base + 16 * i) fun rd v ups =>
      regWp P base rs (i + 1) (σ.upd r.dst v ups) fun σ' efs => K σ' (⟨base + 16 * i, r.rdT ++ rd.map (fun k => 2 * k + 1), r.dst, v, ups⟩ :: efs)

section
variable {P : Program} {E : Env} {ρ ρ' ρc : Pl} {O O' Oc : Ow} {σ σ' : St} {a : Act} {w w' : World} {o : Oper} {fr : Nat} {K : Act → World → Prop} {Q : Exit → Act → World → Prop} {b b' : Sees} {r : Nat → Nat}

theorem aev_congr {x : Operand} (h : ∀ t, x = .tmp t → σ.get t = σ'.get t) : aev σ x = aev σ' x := by
  cases x with
  | tmp t => exact h t rfl
  | _ => rfl
theorem bnd_congr {d : Nat} {x : Option Operand} {k : Nat → AM} (h : ∀ y, x = some y → aev σ y = aev σ' y) : bnd σ d x k = bnd σ' d x k := by
  cases x with
  | none => rfl
  | some y => simp only [bnd, h y rfl]

theorem asem_congr {ao : AOp} (h : ∀ x ∈ ao.ops, aev σ x = aev σ' x) : asem σ fr ao = asem σ' fr ao := by
  cases ao with
  | build sz z ps =>
    have e : ∀ p ∈ ps, aev σ p.2.2 = aev σ' p.2.2 := fun p hp => h _ (List.mem_map_of_mem hp)
    have e1 : (∀ p ∈ ps, (aev σ p.2.2).ncell = p.2.1) = (∀ p ∈ ps, (aev σ' p.2.2).ncell = p.2.1) := by
      apply propext
      exact ⟨fun k p hp => by rw [← e p hp]; exact k p hp, fun k p hp => by rw [e p hp]; exact k p hp⟩
    simp only [asem, e1]
    rw [List.map_congr_left fun p hp => by rw [e p hp]]
  | cslice el len ps =>
    have e : ∀ p ∈ ps, aev σ p.2 = aev σ' p.2 := fun p hp => h _ (List.mem_map_of_mem hp)
    have e1 : (∀ p ∈ ps, (aev σ p.2).ncell = 1) = (∀ p ∈ ps, (aev σ' p.2).ncell = 1) := by
      apply propext
      exact ⟨fun k p hp => by rw [← e p hp]; exact k p hp, fun k p hp => by rw [e p hp]; exact k p hp⟩
    have e2 : (fun j => (aev σ (ps.getD j (0, .const undef)).2).cell 0) = fun j => (aev σ' (ps.getD j (0, .const undef)).2).cell 0 := by
      funext j
      by_cases hj : j < ps.length
      · rw [List.getD_eq_getElem?_getD, List.getElem?_eq_getElem hj]
        exact congrArg (fun v => V.cell v 0) (e _ (List.getElem_mem hj))
      · rw [List.getD_eq_getElem?_getD, List.getElem?_eq_none (by omega)]
        rfl
    simp only [asem, e1, e2]
  | bslice el sz len z ps =>
    have e : ∀ p ∈ ps, aev σ p.2 = aev σ' p.2 := fun p hp => h _ (List.mem_map_of_mem hp)
    have e1 : (∀ p ∈ ps, (aev σ p.2).ncell = sz) = (∀ p ∈ ps, (aev σ' p.2).ncell = sz) := by
      apply propext
      exact ⟨fun k p hp => by rw [← e p hp]; exact k p hp, fun k p hp => by rw [e p hp]; exact k p hp⟩
    simp only [asem, e1]
    have e2 : (ps.flatMap fun p => cellsOf sz (aev σ p.2)) = ps.flatMap fun p => cellsOf sz (aev σ' p.2) := by
      rw [List.flatMap_def, List.flatMap_def, List.map_congr_left fun p hp => by rw [e p hp]]
    rw [e2]
  | slc sz x lo hi =>
    have e0 : aev σ x = aev σ' x := h x (by simp [AOp.ops])
    have e1 : ∀ y, lo = some y → aev σ y = aev σ' y := fun y hy => h y (by simp [AOp.ops, hy])
    have e2 : ∀ y, hi = some y → aev σ y = aev σ' y := fun y hy => h y (by simp [AOp.ops, hy])
    simp only [asem, e0]
    have f1 : ∀ d k, bnd σ d lo k = bnd σ' d lo k := fun d k => bnd_congr e1
    have f2 : ∀ d k, bnd σ d hi k = bnd σ' d hi k := fun d k => bnd_congr e2
    simp only [f1, f2]
  | fn f fi ca =>
    have e1 : fi.map (aev σ) = fi.map (aev σ') := List.map_congr_left fun x hx => h x (by simp [AOp.ops, hx])
    have e2 : ca.map (aev σ) = ca.map (aev σ') := List.map_congr_left fun x hx => h x (by simp [AOp.ops, hx])
    simp only [asem, e1, e2]
  | call f as =>
    have e1 : as.map (aev σ) = as.map (aev σ') := List.map_congr_left fun x hx => h x hx
    simp only [asem, e1]
  | callv f as =>
    have e0 : aev σ f = aev σ' f := h f (by simp [AOp.ops])
    have e1 : as.map (aev σ) = as.map (aev σ') := List.map_congr_left fun x hx => h x (by simp [AOp.ops, hx])
    simp only [asem, e0, e1]
  | alloc => rfl
  | bad => rfl
  | mkmap t agg sz r =>
    have e1 : ∀ x, r = some x → aev σ x = aev σ' x := fun x hx => h x (by simp [AOp.ops, hx])
    have e2 : (∀ x, r = some x → ∃ k n, aev σ x = .im (.val (.int k n))) = (∀ x, r = some x → ∃ k n, aev σ' x = .im (.val (.int k n))) := by
      apply propext
      exact ⟨fun k x hx => by rw [← e1 x hx]; exact k x hx, fun k x hx => by rw [e1 x hx]; exact k x hx⟩
    simp only [asem, e2]
  | mlook kc ok agg sz z x i => simp only [asem, h x (by simp [AOp.ops]), h i (by simp [AOp.ops])]
  | mset kc agg sz m i x => simp only [asem, h m (by simp [AOp.ops]), h i (by simp [AOp.ops]), h x (by simp [AOp.ops])]
  | ment kc agg sz z m i => simp only [asem, h m (by simp [AOp.ops]), h i (by simp [AOp.ops])]
  | mest agg sz m s x => simp only [asem, h m (by simp [AOp.ops]), h s (by simp [AOp.ops]), h x (by simp [AOp.ops])]
  | mlen x => simp only [asem, h x (by simp [AOp.ops])]
  | pure p xs =>
    have e1 : xs.map (aev σ) = xs.map (aev σ') := List.map_congr_left fun x hx => h x hx
    simp only [asem, e1]
  | s2b e x => simp only [asem, h x (by simp [AOp.ops])]
  | mov x => simp only [asem, h x (by simp [AOp.ops])]
  | pick c x y => simp only [asem, h c (by simp [AOp.ops]), h x (by simp [AOp.ops]), h y (by simp [AOp.ops])]
  | box e sz x => simp only [asem, h x (by simp [AOp.ops])]
  | load g sz x => simp only [asem, h x (by simp [AOp.ops])]
  | store sz y x => simp only [asem, h x (by simp [AOp.ops]), h y (by simp [AOp.ops])]
  | faddr off x => simp only [asem, h x (by simp [AOp.ops])]
  | iaddr sz x i => simp only [asem, h x (by simp [AOp.ops]), h i (by simp [AOp.ops])]
  | bin op x y => simp only [asem, h x (by simp [AOp.ops]), h y (by simp [AOp.ops])]
  | beq n x y => simp only [asem, h x (by simp [AOp.ops]), h y (by simp [AOp.ops])]
  | seq n ks x y => simp only [asem, h x (by simp [AOp.ops]), h y (by simp [AOp.ops])]
  | not x => simp only [asem, h x (by simp [AOp.ops])]
  | conv q x => simp only [asem, h x (by simp [AOp.ops])]
  | fld g off sz x => simp only [asem, h x (by simp [AOp.ops])]
  | mm big x y => simp only [asem, h x (by simp [AOp.ops]), h y (by simp [AOp.ops])]
  | b2s x => simp only [asem, h x (by simp [AOp.ops])]
  | b2b x => simp only [asem, h x (by simp [AOp.ops])]
  | appz e sz z by' s n => simp only [asem, h s (by simp [AOp.ops]), h n (by simp [AOp.ops])]
  | clr sz z x => simp only [asem, h x (by simp [AOp.ops])]
  | copy sz d s => simp only [asem, h d (by simp [AOp.ops]), h s (by simp [AOp.ops])]
  | slc3 sz x lo hi mx =>
    have e0 : aev σ x = aev σ' x := h x (by simp [AOp.ops])
    have e1 : ∀ y, lo = some y → aev σ y = aev σ' y := fun y hy => h y (by simp [AOp.ops, hy])
    have e2 : ∀ y, hi = some y → aev σ y = aev σ' y := fun y hy => h y (by simp [AOp.ops, hy])
    have e3 : ∀ y, mx = some y → aev σ y = aev σ' y := fun y hy => h y (by simp [AOp.ops, hy])
    simp only [asem, e0]
    have f1 : ∀ d k, bnd σ d lo k = bnd σ' d lo k := fun d k => bnd_congr e1
    have f2 : ∀ d k, bnd σ d hi k = bnd σ' d hi k := fun d k => bnd_congr e2
    have f3 : ∀ d k, bnd σ d mx k = bnd σ' d mx k := fun d k => bnd_congr e3
    simp only [f1, f2, f3]
  | make rm e sz z by' l c => simp only [asem, h l (by simp [AOp.ops]), h c (by simp [AOp.ops])]
  | len s x => simp only [asem, h x (by simp [AOp.ops])]
  | app e sz z by' s x => simp only [asem, h s (by simp [AOp.ops]), h x (by simp [AOp.ops])]
  | apps e s x => simp only [asem, h s (by simp [AOp.ops]), h x (by simp [AOp.ops])]
  | ext x i => simp only [asem, h x (by simp [AOp.ops])]
  | ifc t x => simp only [asem, h x (by simp [AOp.ops])]

theorem wp_local : ∀ {m : AM} {rd : List Nat} {v : V} {ups : List (Nat × Ob)}, m.wp P O fr (fun a b c => a = rd ∧ b = v ∧ c = ups) → (∀ id ∈ rd, O' id = O id) → m.wp P O' fr fun a b c => a = rd ∧ b = v ∧ c = ups
  | .done _ _, _, _, _, h, _ => h
  | .get id k, rd, v, ups, ⟨o, ho, h⟩, hr => by
    obtain ⟨rd', v', ups', ⟨rfl, rfl, rfl⟩, h2⟩ := AM.wp_one h
    refine ⟨o, by rw [hr id (by simp)]; exact ho, AM.wp_mono ?_ (wp_local h2 fun q hq => hr q (by simp [hq]))⟩
    rintro a b c ⟨rfl, rfl, rfl⟩
    exact ⟨rfl, rfl, rfl⟩
  | .req _ _, _, _, _, ⟨p, h⟩, hr => ⟨p, wp_local h hr⟩
  | .ite _ _ _, _, _, _, ⟨h1, h2⟩, hr => ⟨fun e => wp_local (h1 e) hr, fun e => wp_local (h2 e) hr⟩
  | .call f evs, _, _, _, ⟨c, ⟨O2, p1, p2, hc⟩, rfl, rfl, rfl⟩, hr => by
    have hids : ∀ id ∈ c.ids, O' id = O id := fun id hid => hr id (List.mem_append_left _ hid)
    have hvw : ∀ id ∈ c.vw, O' id = O id := fun id hid => hr id (List.mem_append_right _ hid)
    have hups : c.ups O' fr = c.ups O fr := by
      unfold CallInfo.ups
      congr 1
      split
      · rfl
      · exact List.map_congr_left fun id hid => by rw [hvw id hid]
    have n1 : ∀ id ∈ c.ids, (if id ∈ c.ids then O2 id else O' id) = O2 id := fun id hid => if_pos hid
    have n2 : ∀ id ∈ c.vw, (if id ∈ c.ids then O2 id else O' id) = O2 id := fun id hid => by
      have h1 := (hc.vw id hid).1
      rw [if_neg h1, hvw id hid, p2 id h1]
    refine ⟨c, ⟨fun id => if id ∈ c.ids then O2 id else O' id, fun id => ?_, fun id hid => if_neg hid, ⟨hc.fc, hc.len, fun j e v he hv => ?_, hc.lt, hc.nd, hc.osl, hc.rl, fun k o ho => ?_, fun id hid => ?_, hc.kept, hc.small⟩⟩, rfl, rfl, hups⟩
    · by_cases hid : id ∈ c.ids
      · simp only [if_pos hid, hids id hid]; exact p1 id
      · simp only [if_neg hid]; exact PLe.refl _
    · have := hc.args j e v he hv
      clear he hv
      induction this with
      | same v => exact .same v
      | im t t' h => exact .im t t' h
      | le u v h => exact .le u v h
      | look id j size e f g ho h3 _ ih => exact .look id j size e f g (by rw [n2 id h3]; exact ho) h3 ih
      | view id ver off len e size n f t' ho h3 h => exact .view id ver off len e size n f t' (by rw [n2 id h3]; exact ho) h3 h
      | agg n f f' _ ih => exact .agg n f f' fun j hj => ih j hj
    · obtain ⟨h1, h2⟩ := hc.os k o ho
      refine ⟨?_, h2⟩
      have hk : k < c.ids.length := by
        have := (List.getElem?_eq_some_iff.1 ho).1
        rw [hc.osl] at this
        exact this
      exact (n1 (c.ids.getD k 0) (by rw [List.getD_eq_getElem?_getD, List.getElem?_eq_getElem hk]; exact List.getElem_mem _)).trans h1
    · have := hc.vw id hid
      rw [← n2 id hid] at this
      exact this

def St.at' (σ : St) (l : Nat) : V × Option Ob := if l % 2 = 0 then (σ.get (l / 2), none) else (.dead, σ.O (l / 2))

theorem at_tmp (t : Nat) : σ.at' (2 * t) = (σ.get t, none) := by
  unfold St.at'
  rw [if_pos (by omega), show 2 * t / 2 = t by omega]
theorem at_obj (k : Nat) : σ.at' (2 * k + 1) = (.dead, σ.O k) := by
  unfold St.at'
  rw [if_neg (by omega), show (2 * k + 1) / 2 = k by omega]

theorem upd_get (d : Option Nat) (v : V) (ups : List (Nat × Ob)) (t : Nat) : (σ.upd d v ups).get t = if d = some t then v else σ.get t := by
  cases d with
  | none => rfl
  | some d =>
    show lk ((d, v) :: σ.tm) t = _
    simp only [lk, Option.some.injEq]
    rfl
theorem upd_O (d : Option Nat) (v : V) (ups : List (Nat × Ob)) (k : Nat) : (σ.upd d v ups).O k = (lo ups k).or (σ.O k) := lo_append _ _ _

theorem lo_mem {l : List (Nat × Ob)} {k : Nat} (h : k ∈ l.map (·.1)) : ∃ o, lo l k = some o := by
  induction l with
  | nil => cases h
  | cons p l ih =>
    obtain ⟨q, o⟩ := p
    simp only [lo]
    split
    · exact ⟨o, rfl⟩
    · rename_i hne
      exact ih (by simpa [Ne.symm hne] using h)

theorem upd_out {e : Ef} {l : Nat} (h : l ∉ e.wr) : (σ.upd e.dst e.v e.ups).at' l = σ.at' l := by
  rcases Nat.mod_two_eq_zero_or_one l with hl | hl
  · obtain ⟨t, rfl⟩ : ∃ t, l = 2 * t := ⟨l / 2, by omega⟩
    rw [at_tmp, at_tmp, upd_get, if_neg]
    intro hd
    exact h (by simp [Ef.wr, hd])
  · obtain ⟨k, rfl⟩ : ∃ k, l = 2 * k + 1 := ⟨l / 2, by omega⟩
    rw [at_obj, at_obj, upd_O, lo_none, Option.none_or]
    intro p hp hk
    exact h (by
      unfold Ef.wr
      exact List.mem_append_right _ (List.mem_map.2 ⟨p, hp, by rw [hk]⟩))
theorem upd_in {e : Ef} {l : Nat} (h : l ∈ e.wr) : (σ.upd e.dst e.v e.ups).at' l = (σ'.upd e.dst e.v e.ups).at' l := by
  unfold Ef.wr at h
  rcases List.mem_append.1 h with h | h
  · obtain ⟨t, ht, rfl⟩ := List.mem_map.1 h
    have ht' : e.dst = some t := by simpa using ht
    rw [at_tmp, at_tmp, upd_get, upd_get, if_pos ht', if_pos ht']
  · obtain ⟨p, hp, rfl⟩ := List.mem_map.1 h
    obtain ⟨o, ho⟩ := lo_mem (List.mem_map_of_mem (f := (·.1)) hp)
    rw [at_obj, at_obj, upd_O, upd_O, ho]
    rfl

theorem Rel.congr (h : Rel E ρ σ a w) (ht : ∀ t, σ'.get t = σ.get t) (hO : ∀ id, σ'.O id = σ.O id) (hn : σ'.next = σ.next) (hN : σ'.N = σ.N) : Rel E ρ σ' a w := by
  have e : σ'.O = σ.O := funext hO
  exact ⟨fun t => by rw [ht, e]; exact h.tm t, by rw [hN]; exact h.N, by rw [e]; exact h.ob, by rw [e]; exact h.hi, by rw [e]; exact h.inj, by rw [e, hn]; exact h.nx, by rw [e]; exact h.ext, h.bs, h.os, h.tape, h.output, h.df, by rw [e]; exact h.gl, h.le⟩
theorem at_eq (h : ∀ l, σ'.at' l = σ.at' l) : (∀ t, σ'.get t = σ.get t) ∧ ∀ id, σ'.O id = σ.O id :=
  ⟨fun t => by have := h (2 * t); rw [at_tmp, at_tmp] at this; exact congrArg Prod.fst this, fun k => by have := h (2 * k + 1); rw [at_obj, at_obj] at this; exact congrArg Prod.snd this⟩

def part' (σ : St) : List (Nat × Ef) → (Nat → Bool) → St
  | [], _ => σ
  | (i, e) :: es, S => part' (if S i then σ.upd e.dst e.v e.ups else σ) es S

theorem part_congr : ∀ {es : List (Nat × Ef)} {σ σ' : St} {S S' : Nat → Bool} {l : Nat}, σ'.at' l = σ.at' l → (∀ p ∈ es, l ∈ p.2.wr → S' p.1 = S p.1) → (part' σ' es S').at' l = (part' σ es S).at' l
  | [], _, _, _, _, _, h, _ => h
  | (i, e) :: es, σ, σ', S, S', l, h, hs => by
    simp only [part']
    refine part_congr ?_ fun p hp hl => hs p (by simp [hp]) hl
    by_cases hl : l ∈ e.wr
    · rw [hs (i, e) (by simp) hl]
      split
      · exact upd_in hl
      · exact h
    · have h1 : (if S' i = true then σ'.upd e.dst e.v e.ups else σ').at' l = σ'.at' l := by split <;> first | exact upd_out hl | rfl
      have h2 : (if S i = true then σ.upd e.dst e.v e.ups else σ).at' l = σ.at' l := by split <;> first | exact upd_out hl | rfl
      rw [h1, h2, h]

theorem part_next : ∀ {es : List (Nat × Ef)} {σ : St} {S : Nat → Bool}, (part' σ es S).next = σ.next ∧ (part' σ es S).N = σ.N
  | [], _, _ => ⟨rfl, rfl⟩
  | (i, e) :: es, σ, S => by
    simp only [part']
    obtain ⟨h1, h2⟩ := part_next (es := es) (σ := if S i then σ.upd e.dst e.v e.ups else σ) (S := S)
    rw [h1, h2]
    split <;> exact ⟨rfl, rfl⟩
end
end Go.Proofs.Ytlmnhbobgfpanaa
