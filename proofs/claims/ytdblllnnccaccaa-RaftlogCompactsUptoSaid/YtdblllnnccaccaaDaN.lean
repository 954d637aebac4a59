/-
  Functions that write over what is new. General; nothing of this program.
-/
import Derived.Test.YtdblllnnccaccaaDaL
namespace Go.Proofs.Ytdblllnnccaccaa
open Go.RowKit

def Tp.chainS : Tp → Sh → Sh
  | .pair a b, r => a.chainS (b.chainS r)
  | .unit, r => r
  | .bool, r => .cons (.hole .bool) r
  | .str, r => .cons (.hole .str) r
  | .int k, r => .cons (.hole (.int k)) r
  | .hv κ, r => .cons (.hole (.hv κ)) r
  | .sl q e, r => .cons (.hole (.sl q e)) r
def Tp.chainD : (τ : Tp) → den τ → (r : Sh) → den r.ty → den (τ.chainS r).ty
  | .pair a b, x, r, y => a.chainD x.1 (b.chainS r) (b.chainD x.2 r y)
  | .unit, _, _, y => y
  | .bool, x, _, y => (x, y)
  | .str, x, _, y => (x, y)
  | .int _, x, _, y => (x, y)
  | .hv _, x, _, y => (x, y)
  | .sl _ _, x, _, y => (x, y)
theorem chain_mk : ∀ (τ : Tp) (x : den τ) (r : Sh) (y : den r.ty) (k : Nat), ((τ.chainS r).mk (τ.chainD x r y) k).2 = (r.mk y k).2 ∧
    ∀ j, dl ((τ.chainS r).mk (τ.chainD x r y) k).1 j = if j < τ.size then rowC τ x j else dl (r.mk y k).1 (j - τ.size) := by
  intro τ
  have one : ∀ {τ : Tp} {x : den τ} {r : Sh} {y : den r.ty} {k : Nat}, τ.size = 1 → rowC τ x 0 = .im τ x → ((Sh.cons (.hole τ) r).mk (x, y) k).2 = (r.mk y k).2 ∧
      ∀ j, dl ((Sh.cons (.hole τ) r).mk (x, y) k).1 j = if j < τ.size then rowC τ x j else dl (r.mk y k).1 (j - τ.size) := by
    intro τ x r y k h1 h2
    refine ⟨rfl, fun j => ?_⟩
    rw [h1]
    cases j with
    | zero => simp only [Sh.mk, dl_cons_zero, Nat.zero_lt_one, if_true, h2]
    | succ j => simp only [Sh.mk, dl_cons_succ]; rw [if_neg (by omega)]; rfl
  induction τ with
  | pair a b ih1 ih2 =>
    intro x r y k
    obtain ⟨h1, h2⟩ := ih1 x.1 (b.chainS r) (b.chainD x.2 r y) k
    obtain ⟨h3, h4⟩ := ih2 x.2 r y k
    refine ⟨h1.trans h3, fun j => ?_⟩
    simp only [Tp.chainS, Tp.chainD, Tp.size, rowC, nblt_iff]
    rw [h2, h4]
    by_cases hja : j < a.size
    · rw [if_pos hja, if_pos (by omega)]; simp [hja]
    · rw [if_neg hja]
      by_cases hjb : j - a.size < b.size
      · rw [if_pos hjb, if_pos (by omega)]; simp [hja]
      · rw [if_neg hjb, if_neg (by omega), Nat.sub_sub]
  | unit => intro x r y k; exact ⟨rfl, fun j => by simp [Tp.size, Tp.chainS, Tp.chainD]⟩
  | bool => intro x r y k; exact one rfl rfl
  | str => intro x r y k; exact one rfl rfl
  | int q => intro x r y k; exact one rfl rfl
  | hv κ => intro x r y k; exact one rfl rfl
  | sl q e => intro x r y k; exact one rfl rfl

theorem slot_mono {ag : Bool} {τ : Tp} {x : den τ} {ok ok' : Sees} {w : World} {v : Value} (h : ∀ q g k, g < w.heap.size → ok q g k → ok' q g k) (hs : SlotHas ag τ x ok w v) : SlotHas ag τ x ok' w v := by
  unfold SlotHas at hs ⊢
  split at hs
  · rename_i ha
    rw [if_pos ha]
    obtain ⟨cs, e, h1, h2⟩ := hs
    exact ⟨cs, e, h1, fun j hj => T.rel_mono (fun q g k hg ho => ⟨rfl, h q g k hg ho⟩) (h2 j hj)⟩
  · rename_i ha
    rw [if_neg ha]
    exact T.rel_mono (fun q g k hg ho => ⟨rfl, h q g k hg ho⟩) hs
def EmbOk (ag : Bool) (τ : Tp) (ash : Sh) (emb : den τ → den ash.ty) : Prop := ∀ x, (ash.mk (emb x) 0).2.1 = [] ∧ ∃ d, (ash.mk (emb x) 0).1 = [d] ∧ ∀ (b : Sees) (ρ : Pl) (O : Ow) (w : World) (v : Value), SlotHas ag τ x (okb b ρ O) w v → d.toV.rel b ρ O w v
theorem emb_one (τ : Tp) : EmbOk false τ (.cons (.hole τ) .nil) fun x => (x, ()) := fun x => ⟨rfl, .im τ x, rfl, fun _ _ _ _ _ h => h⟩
theorem spo_of {P : Program} (hm : P.follows .mixedOrders = true) {fu : Nat} {s : Spo} {ash vsh : Sh} {emb : den s.τ → den ash.ty} {p : den ash.ty → Option (den Sh.nil.ty × den vsh.ty)} {c : DC} {N : Nat} (hb : BodyD P s.f N c.erase []) (hc : c.Good P true)
    (hw : (⟨s.f, ash, .nil, vsh, p⟩ : Ent).wfD N = true) (hv : evF fu c [] N ash .nil vsh = p) (he : EmbOk s.ag s.τ ash emb) (hp : s.p = fun x => (p (emb x)).isSome) : s.Good P := by
  obtain ⟨fn, code, b1, b2, b3, rfl, b5, b6⟩ := hb
  unfold Ent.wfD at hw
  simp only [Bool.and_eq_true] at hw
  obtain ⟨hw, hl⟩ := hw
  have hw' := hw
  unfold Ent.wf at hw'
  simp only [Bool.and_eq_true] at hw'
  refine ⟨⟨fn, b1, b2, by rw [b3]; rfl⟩, fun x ok v w hpx hmo hsep hgl hs => ?_⟩
  rw [hp] at hpx
  obtain ⟨⟨y, r⟩, hpx⟩ := Option.isSome_iff_exists.1 hpx
  rw [← hv] at hpx
  unfold evF at hpx
  rw [Sh.normK_eq] at hpx
  obtain ⟨m1, d, md, mr⟩ := he x
  have c1 := mk_cnt ash (emb x) 0
  have n0 : ash.cnt = 0 := by
    have := congrArg List.length c1.2
    rw [m1] at this
    simpa using this.symm
  have e1 : (⟨s.f, ash, .nil, vsh, p⟩ : Ent).os (emb x) = [] := by unfold Ent.os; show List.map _ (ash.mk (emb x) 0).2.1 = []; rw [m1]; rfl
  have e2 : (⟨s.f, ash, .nil, vsh, p⟩ : Ent).args (emb x) = [d.toV] := by unfold Ent.args; show List.map _ (ash.mk (emb x) 0).1 = _; rw [md]; rfl
  have hlen : 1 ≤ fn.ntmps := by
    have := mk_len ash (emb x) 0 hw'.1
    rw [md] at this
    have h2 : ash.len ≤ fn.ntmps := nble hl
    simp at this
    omega
  let E : Env := ⟨w, fun _ => none, fun _ => none, fun q g k => q ≠ .new ∧ g < w.heap.size ∧ ok q g k, fun g => ∃ k, ok .new g k⟩
  have hnow : ∀ g k, ¬ ownc (fun _ => none) (fun _ => none) g k := fun g k ⟨id, o, ho, _⟩ => by cases ho
  have hnow' : ∀ g, ¬ own (fun _ => none) (fun _ => none) g := fun g ⟨id, o, ho, _⟩ => by cases ho
  have hE : KE 0 true E := ⟨fun _ _ => rfl, fun _ => ⟨fun _ => rfl, fun g k hk => hk.1 rfl, fun g k hk => ⟨hk.2.1, fun ⟨k', h'⟩ => hsep g k k' hk.2.2 h'⟩⟩⟩
  have hEm : ∀ g, E.mine g ↔ ∃ k, ok .new g k := fun g => ⟨fun h => h.elim (fun h => absurd h (hnow' g)) id, .inr⟩
  have up : ∀ q g k, g < w.heap.size → ok q g k → okb E.b (fun _ => none) (fun _ => none) q g k := fun q g k hg hk => by
    refine ⟨?_, hnow g k⟩
    cases q with
    | new => exact .inr ⟨nofun, .inr (.inr ⟨k, hk⟩)⟩
    | any => exact .inl ⟨nofun, hg, hk⟩
    | old => exact .inl ⟨nofun, hg, hk⟩
  have hO : (st0 [] [d.toV] fn.ntmps).O = fun _ => none := funext fun k => (lo_zip0 [] k).trans (by simp)
  have rel0 : Rel E (fun _ => none) (st0 [] [d.toV] fn.ntmps) { tmps := #[v] ++ Array.replicate (fn.ntmps - 1) undef, defers := [] } w := by
    refine ⟨fun t => ?_, by simp [st0]; omega, fun id o ho => (by rw [hO] at ho; cases ho), fun id o g ho => (by rw [hO] at ho; cases ho), fun id id' o o' g k1 => (by rw [hO] at k1; cases k1), fun id hid => (by rw [hO]), by rw [hO]; exact ExtE.refl, Nat.le_refl _, rfl, rfl, rfl, rfl, ?_, fun q g k hk => ⟨nofun, hk.2.1, hmo _ _ _ hk.2.2⟩⟩
    · rw [hO]
      show (lk ([d.toV].zipIdx.map (fun p => (p.2, p.1)) ++ _) t).rel _ _ _ _ _
      by_cases ht : t = 0
      · subst ht
        rw [lk_zip [d.toV] 0 0 _ (Nat.zero_le _) (by simp)]
        have : (#[v] ++ Array.replicate (fn.ntmps - 1) undef).getD 0 undef = v := by
          rw [Array.getD_eq_getD_getElem?, Array.getElem?_append_left (by simp)]
          rfl
        show V.rel _ _ _ _ d.toV _
        rw [this]
        exact mr _ _ _ _ _ (slot_mono up hs)
      · rw [lk_append _ _ _ (fun p hp e => by
          simp at hp
          subst hp
          exact ht e.symm)]
        rcases lk_in (l := (List.range (fn.ntmps - [d.toV].length)).map fun j => ([d.toV].length + j, V.im (.val undef))) (k := t) with e | e
        · rw [e]; trivial
        · obtain ⟨j, hj, e2⟩ := List.mem_map.1 e
          have e3 := congrArg Prod.snd e2
          simp only at e3
          rw [← e3]
          show _ = undef
          rw [Array.getD_eq_getD_getElem?, Array.getElem?_append_right (by simp; omega), Array.getElem?_replicate]
          split <;> rfl
    · rw [hO]
      refine ⟨fun p hp k z hz => ?_, fun p hp => ?_⟩
      · obtain ⟨g1, g2⟩ := hgl.1 p hp k z hz
        exact ⟨up _ _ _ (World.block_lt_of_cell? w _ g2) g1.1, g2⟩
      · obtain ⟨ad, g1, g2⟩ := hgl.2 p hp
        exact ⟨ad, up _ _ _ (World.block_lt_of_cell? w _ g2) g1.1, g2⟩
  obtain ⟨ρ1, hr'⟩ := dst0_rel (en := ⟨s.f, ash, .nil, vsh, p⟩) (x := emb x) hw'.1 hw'.2.1 (by rw [e1, e2]; exact rel0)
  refine calls_of_wp b1 b3 (wp_mono (evD_ok hm (z := true) (σ := dst0 ash (emb x) fn.ntmps) hc b5 rfl (Nat.le_add_left _ _) (by rw [show (dst0 ash (emb x) fn.ntmps).m = 0 from n0]; exact hE) hr' (prodQ_sound (denQ_sound _) (denQ_sound _)) hpx) ?_)
  rintro e a' w' ⟨ax, σ', E1, ρ', rfl, ⟨hi, hst, hE1⟩, hr2, hk⟩
  have hscr : Scrib (fun g k => ok .new g k) w w' := by
    rcases hst with rfl | ⟨_, k1, k2, k3, k4, k5⟩
    · exact ⟨hr2.bs, hr2.os, hr2.tape, hr2.output, fun g hg hk => (hr2.ext.keep g hg fun hm => by obtain ⟨k, h⟩ := (hEm g).1 hm; exact hk k h).1⟩
    · refine ⟨Nat.le_trans k1 hr2.bs, hr2.os.trans k3, hr2.tape.trans k4, hr2.output.trans k5, fun g hg hk => ?_⟩
      obtain ⟨q1, q2⟩ := k2 g hg fun hm => by obtain ⟨k, h⟩ := (hEm g).1 hm; exact hk k h
      exact (hr2.ext.keep g (Nat.lt_of_lt_of_le hg k1) q2).1.trans q1
  have fin : a'.defers = [] ∧ ∃ v, (results fn a'.tmps).run P w' = .ok v w' ∧ ((∃ r, Ending.returned v = .returned r) ∧ Scrib (fun g k => ok .new g k) w w') := by
    obtain ⟨z, hz, -⟩ := res_run (v := .tup 0 (lf [])) hr2 b6 rfl
    exact ⟨hr2.df, z, hz, ⟨_, rfl⟩, hscr⟩
  cases ax with
  | exit id => cases hk
  | normal => exact fin
  | ret => exact fin
theorem good_sp {P : Program} (hm : P.follows .mixedOrders = true) {s : Spo} {ash vsh : Sh} {emb : den s.τ → den ash.ty} {p : den ash.ty → Option (den Sh.nil.ty × den vsh.ty)} {fn : Func} (h1 : P.funcs[s.f]? = some fn) (fu : Nat) (hs : List (Nat × Hint)) (as : List (Nat × Ann)) (zs : List (Nat × ZK)) (N : Nat) {l : List Ent} (hl : AllGood P l)
    {ls : List Spo} (hs0 : AllSpo P ls) (hemb : EmbOk s.ag s.τ ash emb) (hp : s.p = fun x => (p (emb x)).isSome)
    (h2 : (fn.name == "runtime.NumGoroutine") = false := by kernel_rfl) (h3 : fn.ntmps = N := by kernel_rfl) (h5 : compRes P fn.results.toList = some [] := by kernel_rfl)
    (hq : (decFZ P fn N hs as zs).map DC.spos = some ls := by kernel_rfl)
    (he : (decFZ P fn N hs as zs).map DC.ents = some l := by kernel_rfl) (hw : (⟨s.f, ash, .nil, vsh, p⟩ : Ent).wfD N = true := by kernel_rfl) (hv : (decFZ P fn N hs as zs).map (fun c => evF fu c [] N ash .nil vsh) = some p := by kernel_rfl) : s.Good P := by
  cases hc : decFZ P fn N hs as zs with
  | none => rw [hc] at he; cases he
  | some c =>
    rw [hc] at he hv hq
    unfold decFZ at hc
    cases ha : (fn.body.bind fun code => compC P false N code) with
    | none => rw [ha] at hc; cases hc
    | some ac =>
      rw [ha] at hc
      obtain ⟨c', o, hs', n, as', zs', e1, e2⟩ := decZ_eq ac 0 hs 0 as zs _ hc
      obtain rfl : c' = c := Option.some.inj e2
      exact spo_of hm (bodyD_mk h1 h2 h3 (by rw [ha, e1]) h5) (DC.good_of (.inl rfl) (by rw [Option.some.inj he]; exact hl.mem) (by rw [Option.some.inj hq]; exact hs0.mem)) hw (Option.some.inj hv) hemb hp
end Go.Proofs.Ytdblllnnccaccaa
