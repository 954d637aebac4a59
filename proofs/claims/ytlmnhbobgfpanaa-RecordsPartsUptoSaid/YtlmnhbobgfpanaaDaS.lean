/-
  A contract where the rows that are handed over have been written before: versions moved on. General; nothing of this program.
-/
import Derived.Test.YtlmnhbobgfpanaaTrU
namespace Go.Proofs.Ytlmnhbobgfpanaa
open Go.RowKit

def V.sh (d : Nat → Nat) : V → V
  | .agg n f => .agg n fun j => (f j).sh d
  | .tup n f => .tup n fun j => (f j).sh d
  | .buf id ver off len => .buf id (ver + d id) off len
  | .ptr id ver i j => .ptr id (ver + d id) i j
  | .ifc t v => .ifc t (v.sh d)
  | .clo fn n f m g => .clo fn n (fun j => (f j).sh d) m fun j => (g j).sh d
  | .dead => .dead
  | .im t => .im t
  | .elem q s n f i j => .elem q s n f i j
  | .mp id => .mp id
  | .vsl id len => .vsl id len
def Ob.sh (d : Nat → Nat) (k : Nat) : Ob → Ob
  | .var e s f => .var e s fun j => (f j).sh d
  | .arr zz e s v n f => .arr zz e s (v + d k) n f
  | .map a s n k f => .map a s n k f
  | .gone v => .gone (v + d k)
theorem Ob.sh_live (d : Nat → Nat) (k : Nat) (o : Ob) : (o.sh d k).live = o.live := by
  cases o with
  | arr zz e s v n f => cases zz <;> rfl
  | _ => rfl
theorem Ob.sh_held (d : Nat → Nat) (k : Nat) (o : Ob) : (o.sh d k).held = o.held := by cases o <;> rfl
theorem Ob.sh_lo (d : Nat → Nat) (k : Nat) (o : Ob) : (o.sh d k).lo = o.lo := by
  cases o with
  | arr zz e s v n f => cases zz <;> rfl
  | _ => rfl
theorem Ob.sh_size (d : Nat → Nat) (k : Nat) (o : Ob) : (o.sh d k).size = o.size := by cases o <;> rfl
theorem Ob.sh_isMap (d : Nat → Nat) (k : Nat) (o : Ob) : (o.sh d k).isMap = o.isMap := by cases o <;> rfl
theorem Ob.sh_fits (d : Nat → Nat) (k : Nat) (o o' : Ob) : (o.sh d k).fits (o'.sh d k) ↔ o.fits o' := by cases o <;> cases o' <;> simp [Ob.sh, Ob.fits]

section
variable {O O' : Ow} {d : Nat → Nat} {b : Sees} {ρ : Pl} {w : World}
theorem own_sh (hO : ∀ id, O' id = (O id).map (Ob.sh d id)) (g : Nat) : own ρ O' g ↔ own ρ O g := by
  constructor
  · rintro ⟨id, o', h1, h2, h3⟩
    rw [hO] at h1
    obtain ⟨o, ho, rfl⟩ := Option.map_eq_some_iff.1 h1
    exact ⟨id, o, ho, by rw [← Ob.sh_live d id]; exact h2, h3⟩
  · rintro ⟨id, o, h1, h2, h3⟩
    exact ⟨id, o.sh d id, by rw [hO, h1]; rfl, by rw [Ob.sh_live]; exact h2, h3⟩
theorem ownc_sh (hO : ∀ id, O' id = (O id).map (Ob.sh d id)) (g q : Nat) : ownc ρ O' g q ↔ ownc ρ O g q := by
  constructor
  · rintro ⟨id, o', h1, h2, h3, h4⟩
    rw [hO] at h1
    obtain ⟨o, ho, rfl⟩ := Option.map_eq_some_iff.1 h1
    exact ⟨id, o, ho, by rw [← Ob.sh_live d id]; exact h2, h3, by rw [← Ob.sh_lo d id]; exact h4⟩
  · rintro ⟨id, o, h1, h2, h3, h4⟩
    exact ⟨id, o.sh d id, by rw [hO, h1]; rfl, by rw [Ob.sh_live]; exact h2, h3, by rw [Ob.sh_lo]; exact h4⟩
theorem okb_sh (hO : ∀ id, O' id = (O id).map (Ob.sh d id)) : okb b ρ O' = okb b ρ O := by
  funext qc g q
  unfold okb
  rw [ownc_sh hO g q]
theorem V.rel_sh (hO : ∀ id, O' id = (O id).map (Ob.sh d id)) (hd : ∀ id o, O id = some o → (o.sh d id).ver = o.ver + d id) : ∀ {v : V} {x : Value}, (v.sh d).rel b ρ O' w x ↔ v.rel b ρ O w x
  | .dead, _ => Iff.rfl
  | .im _, _ => by simp only [V.sh, V.rel, okb_sh hO]
  | .agg n f, x => by
    simp only [V.sh, V.rel]
    constructor
    · rintro ⟨cs, e, hn, hf⟩; exact ⟨cs, e, hn, fun j hj => ⟨(hf j hj).1, (V.rel_sh hO hd).1 (hf j hj).2⟩⟩
    · rintro ⟨cs, e, hn, hf⟩; exact ⟨cs, e, hn, fun j hj => ⟨(hf j hj).1, (V.rel_sh hO hd).2 (hf j hj).2⟩⟩
  | .tup n f, x => by
    simp only [V.sh, V.rel]
    constructor
    · rintro ⟨cs, e, hn, hf⟩; exact ⟨cs, e, hn, fun j hj => (V.rel_sh hO hd).1 (hf j hj)⟩
    · rintro ⟨cs, e, hn, hf⟩; exact ⟨cs, e, hn, fun j hj => (V.rel_sh hO hd).2 (hf j hj)⟩
  | .buf id ver off len, x => by
    simp only [V.sh, V.rel]
    constructor
    · rintro ⟨A, c, o', e, hl, ho, hv, hk⟩
      rw [hO] at ho
      obtain ⟨o, h1, rfl⟩ := Option.map_eq_some_iff.1 ho
      rw [hd id o h1] at hv hk
      refine ⟨A, c, o, e, hl, h1, by omega, fun hv' => ?_⟩
      obtain ⟨zz, e', size, n, f, h2, h3, h4⟩ := hk (by omega)
      cases o with
      | arr zz2 e2 s2 v2 n2 f2 =>
        simp only [Ob.sh, Ob.arr.injEq] at h2
        obtain ⟨rfl, rfl, rfl, h5, rfl, rfl⟩ := h2
        obtain rfl : v2 = ver := by omega
        exact ⟨_, _, _, _, _, rfl, h3, h4⟩
      | var => simp [Ob.sh] at h2
      | map => simp [Ob.sh] at h2
      | gone => simp [Ob.sh] at h2
    · rintro ⟨A, c, o, e, hl, h1, hv, hk⟩
      refine ⟨A, c, o.sh d id, e, hl, by rw [hO, h1]; rfl, by rw [hd id o h1]; omega, fun hv' => ?_⟩
      rw [hd id o h1] at hv'
      obtain ⟨zz, e', size, n, f, rfl, h3, h4⟩ := hk (by omega)
      exact ⟨_, _, _, _, _, rfl, h3, h4⟩
  | .ptr id ver i j, x => by
    simp only [V.sh, V.rel]
    constructor
    · rintro ⟨a, o', e, ho, hv, hk⟩
      rw [hO] at ho
      obtain ⟨o, h1, rfl⟩ := Option.map_eq_some_iff.1 ho
      rw [hd id o h1] at hv hk
      rw [Ob.sh_held, Ob.sh_size] at hk
      exact ⟨a, o, e, h1, by omega, fun hv' => hk (by omega)⟩
    · rintro ⟨a, o, e, h1, hv, hk⟩
      refine ⟨a, o.sh d id, e, by rw [hO, h1]; rfl, by rw [hd id o h1]; omega, ?_⟩
      rw [hd id o h1, Ob.sh_held, Ob.sh_size]
      exact fun hv' => hk (by omega)
  | .elem _ _ _ _ _ _, _ => by simp only [V.sh, V.rel, okb_sh hO]
  | .vsl id len, x => by
    simp only [V.sh, V.rel]
    constructor
    · rintro ⟨g, c, o', e, hc, ho, hk⟩
      rw [hO] at ho
      obtain ⟨o, h1, rfl⟩ := Option.map_eq_some_iff.1 ho
      exact ⟨g, c, o, e, hc, h1, fun hv => hk (by cases o <;> exact hv)⟩
    · rintro ⟨g, c, o, e, hc, h1, hk⟩
      exact ⟨g, c, o.sh d id, e, hc, by rw [hO, h1]; rfl, fun hv => hk (by cases o <;> exact hv)⟩
  | .mp id, x => by
    simp only [V.sh, V.rel]
    constructor
    · rintro ⟨g, o', e, ho, hk⟩
      rw [hO] at ho
      obtain ⟨o, h1, rfl⟩ := Option.map_eq_some_iff.1 ho
      rw [Ob.sh_isMap] at hk
      exact ⟨g, o, e, h1, hk⟩
    · rintro ⟨g, o, e, h1, hk⟩
      exact ⟨g, o.sh d id, e, by rw [hO, h1]; rfl, by rw [Ob.sh_isMap]; exact hk⟩
  | .ifc t v, x => by
    simp only [V.sh, V.rel]
    constructor
    · rintro ⟨u, e, hr⟩; exact ⟨u, e, (V.rel_sh hO hd).1 hr⟩
    · rintro ⟨u, e, hr⟩; exact ⟨u, e, (V.rel_sh hO hd).2 hr⟩
  | .clo fn n f m g, x => by
    simp only [V.sh, V.rel]
    constructor
    · rintro ⟨a, c, e, hn, hm, hf, hg⟩; exact ⟨a, c, e, hn, hm, fun j hj => (V.rel_sh hO hd).1 (hf j hj), fun j hj => (V.rel_sh hO hd).1 (hg j hj)⟩
    · rintro ⟨a, c, e, hn, hm, hf, hg⟩; exact ⟨a, c, e, hn, hm, fun j hj => (V.rel_sh hO hd).2 (hf j hj), fun j hj => (V.rel_sh hO hd).2 (hg j hj)⟩
theorem Ob.rel_sh (hO : ∀ id, O' id = (O id).map (Ob.sh d id)) (hd : ∀ id o, O id = some o → (o.sh d id).ver = o.ver + d id) {o : Ob} {k : Nat} {p : Option Nat} : (o.sh d k).rel b ρ O' w p ↔ o.rel b ρ O w p := by
  cases o with
  | gone => exact Iff.rfl
  | var e s f =>
    simp only [Ob.sh, Ob.rel]
    constructor
    · rintro ⟨g, cs, e1, e2, e3, e4⟩; exact ⟨g, cs, e1, e2, e3, fun j hj => ⟨(e4 j hj).1, (V.rel_sh hO hd).1 (e4 j hj).2⟩⟩
    · rintro ⟨g, cs, e1, e2, e3, e4⟩; exact ⟨g, cs, e1, e2, e3, fun j hj => ⟨(e4 j hj).1, (V.rel_sh hO hd).2 (e4 j hj).2⟩⟩
  | arr zz e s v n f => simp only [Ob.sh, Ob.rel, okb_sh hO, own_sh hO]
  | map a s n k f => simp only [Ob.sh, Ob.rel, okb_sh hO]
end
theorem FC.shift {P : Program} {f : FuncId} {os os' : List Ob} {args : List V} {r r' : Ret} {d : Nat → Nat} (h : FC P f os args r)
    (h1 : ∀ k, lol os' k = (lol os k).map (Ob.sh d k)) (h2 : ∀ k, lol (r'.os ++ r'.new) k = (lol (r.os ++ r.new) k).map (Ob.sh d k)) (h3 : r'.v = r.v.sh d) (h4 : r'.os.length = r.os.length)
    (d1 : ∀ k o, lol os k = some o → (o.sh d k).ver = o.ver + d k) (d2 : ∀ k o, lol (r.os ++ r.new) k = some o → (o.sh d k).ver = o.ver + d k) : FC P f os' (args.map (·.sh d)) r' := by
  have hl : os'.length = os.length := by
    apply Nat.le_antisymm
    · rcases Nat.lt_or_ge os.length os'.length with hh | hh
      · have := h1 os.length
        rw [show lol os' os.length = some os'[os.length] from List.getElem?_eq_getElem hh, show lol os os.length = none from List.getElem?_eq_none (Nat.le_refl _)] at this
        cases this
      · exact hh
    · rcases Nat.lt_or_ge os'.length os.length with hh | hh
      · have := h1 os'.length
        rw [show lol os os'.length = some os[os'.length] from List.getElem?_eq_getElem hh, show lol os' os'.length = none from List.getElem?_eq_none (Nat.le_refl _)] at this
        cases this
      · exact hh
  have up : ∀ {k o}, lol os k = some o → lol os' k = some (o.sh d k) := fun {k o} ho => by rw [h1, ho]; rfl
  have up2 : ∀ {k o}, lol (r.os ++ r.new) k = some o → lol (r'.os ++ r'.new) k = some (o.sh d k) := fun {k o} ho => by rw [h2, ho]; rfl
  have dn2 : ∀ {k o'}, lol (r'.os ++ r'.new) k = some o' → ∃ o, lol (r.os ++ r.new) k = some o ∧ o' = o.sh d k := fun {k o'} ho => by
    rw [h2] at ho
    obtain ⟨o, e1, e2⟩ := Option.map_eq_some_iff.1 ho
    exact ⟨o, e1, e2.symm⟩
  refine ⟨h.1, fun ok ρ w vs hmo ag a1 a2 a3 a4 a5 => ?_⟩
  have eb : Env.b ⟨w, ρ, lol os', ok, nobody⟩ = Env.b ⟨w, ρ, lol os, ok, nobody⟩ := by
    funext qc g q
    show (_ ∨ (_ ∧ (_ ∨ (own ρ (lol os') g ∨ _)))) = (_ ∨ (_ ∧ (_ ∨ (own ρ (lol os) g ∨ _))))
    rw [own_sh h1 g]
  refine (h.2 ok ρ w vs hmo (by have := ag; unfold Glb at this ⊢; rwa [okb_sh h1] at this) (fun k o ho => (Ob.rel_sh h1 d1).1 (a1 k _ (up ho))) (fun k o g ho hl hg => a2 k _ g (up ho) (by rw [Ob.sh_live]; exact hl) hg)
    (fun k k' o o' g k1 k2 l1 l2 p1 p2 => a3 k k' _ _ g (up k1) (up k2) (by rw [Ob.sh_live]; exact l1) (by rw [Ob.sh_live]; exact l2) p1 p2) (a4.trans (by simp)) (fun j v hv => ?_)).mono ?_
  · exact (V.rel_sh h1 d1).1 (a5 j _ (by rw [List.getElem?_map, hv]; rfl))
  · rintro e w' ⟨ρ', x, rfl, c1, c2, c3, c4, c5, c6, c7, c8, c9, c10⟩
    refine ⟨ρ', x, rfl, by rw [h4, c1, hl], ?_, fun k o' ho => ?_, fun k o' g ho hlv hg => ?_, fun k k' o1 o2 g k1 k2 l1 l2 p1 p2 => ?_, ⟨fun g hg ho => ?_, fun g q hg ho => ?_, fun id o' ho => ?_⟩, c7, c8, c9, c10⟩
    · rw [eb, h3]
      exact (V.rel_sh h2 d2).2 c2
    · rw [eb]
      obtain ⟨o, e1, rfl⟩ := dn2 ho
      exact (Ob.rel_sh h2 d2).2 (c3 k o e1)
    · obtain ⟨o, e1, rfl⟩ := dn2 ho
      rw [own_sh h1 g]
      exact c4 k o g e1 (by rw [← Ob.sh_live d k]; exact hlv) hg
    · obtain ⟨q1, e1, rfl⟩ := dn2 k1
      obtain ⟨q2, e2, rfl⟩ := dn2 k2
      exact c5 k k' q1 q2 g e1 e2 (by rw [← Ob.sh_live d k]; exact l1) (by rw [← Ob.sh_live d k']; exact l2) p1 p2
    · rw [own_sh h1 g] at ho
      rw [own_sh h2 g]
      exact c6.keep g hg ho
    · rw [ownc_sh h1 g q] at ho
      rw [ownc_sh h2 g q]
      exact c6.cell g q hg ho
    · rw [h1] at ho
      obtain ⟨o, e1, rfl⟩ := Option.map_eq_some_iff.1 ho
      obtain ⟨o', q1, q2, q3⟩ := c6.same id o e1
      refine ⟨o'.sh d id, up2 q1, by rw [d1 id o e1, d2 id o' q1]; omega, fun hv => ?_⟩
      rw [d1 id o e1, d2 id o' q1] at hv
      obtain ⟨q4, q5, q6⟩ := q3 (by omega)
      exact ⟨q4, (Ob.sh_fits d id o o').2 q5, fun g cs e hlv hg hh => q6 g cs e (by rw [← Ob.sh_held d id]; exact hlv) hg hh⟩
end Go.Proofs.Ytlmnhbobgfpanaa
