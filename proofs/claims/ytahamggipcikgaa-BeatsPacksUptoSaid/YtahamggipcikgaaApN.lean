/-
  What Pack refuses; what it makes of the rest.
-/
import Derived.Test.YtahamggipcikgaaWqP
import Derived.Test.YtahamggipcikgaaPkF
namespace Go.Proofs.Ytahamggipcikgaa
section
open Go.RowKit
variable {fu : Nat}
theorem lp_any {X S R : Type} {f : S → Option (S ⊕ R)} {res : R} (l : List X) (mk : Nat → S) (q : X → Bool) (r fin : R) (hf : l.length < fu)
    (hs : ∀ i (h : i < l.length), f (mk i) = some (bif q l[i] then .inr r else .inl (mk (i + 1)))) (he : l.any q = false → f (mk l.length) = some (.inr fin)) (hr : (bif l.any q then r else fin) = res) : loopO fu f (mk 0) = some res := by
  subst hr
  have key : ∀ k i n, i + k = l.length → k < n → (l.take i).any q = false → loopO n f (mk i) = some (bif (l.drop i).any q then r else fin) := by
    intro k
    induction k with
    | zero =>
      intro i n hi hn ht
      obtain ⟨m, rfl⟩ : ∃ m, n = m + 1 := ⟨n - 1, by omega⟩
      obtain rfl : i = l.length := by omega
      rw [List.take_length] at ht
      simp only [loopO, he ht, List.drop_length, List.any_nil, cond_false]
    | succ k ih =>
      intro i n hi hn ht
      obtain ⟨m, rfl⟩ : ∃ m, n = m + 1 := ⟨n - 1, by omega⟩
      have hlt : i < l.length := by omega
      rw [List.drop_eq_getElem_cons hlt]
      simp only [loopO, hs i hlt, List.any_cons]
      cases hq : q l[i] with
      | true => rfl
      | false =>
        refine ih (i + 1) m (by omega) (by omega) ?_
        rw [List.take_succ_eq_append_getElem hlt, List.any_append, ht]
        simp [hq]
  exact key l.length 0 fu (by omega) hf (by simp)
theorem gd_lt {α : Type} {l : List α} {i : Nat} (h : i < l.length) (d : α) : l.getD i d = l[i] := by simp [List.getD_eq_getElem?_getD, h]
abbrev EN := Bq.ENT
def crowdS (a b : List Int) : Bool := bif decide (7 < a.length) then true else decide (7 < b.length)
def badE (y : EN) : Bool := bif decide (262144 < List.length y.2.2.2.1) then true else bif crowdS y.2.2.2.2.1 y.2.2.2.2.2 then true else bif decide ((y.2.2.1 : Int) < 1) then true else decide ((y.2.2.1 : Int) > 3)
def muchS (x : WR) : Bool := bif decide (8 < List.length x.2.2.2.2.2.2.2.1) then true else bif decide (262144 < List.length x.2.2.2.2.2.2.2.2.2.2.2.2.1) then true else bif crowdS x.2.2.2.2.2.2.2.2.2.2.2.1.1 x.2.2.2.2.2.2.2.2.2.2.2.1.2 then true else (x.2.2.2.2.2.2.2.1 : List EN).any badE
theorem p33_is (a b : List Int) : Bq.p33 fu ((a, b, ()), ()) = some ((), crowdS a b) := by
  unfold Bq.p33 crowdS
  have h1 : decide ((a.length : Int) > 7) = decide (7 < a.length) := decide_eq_decide.2 (by omega)
  have h2 : decide ((b.length : Int) > 7) = decide (7 < b.length) := decide_eq_decide.2 (by omega)
  simp only [h1, h2]
  cases decide (7 < a.length) <;> rfl
theorem p23_is (x : WR) (hl : List.length x.2.2.2.2.2.2.2.1 ≤ 1048576) (hf : 1048576 < fu) : Bq.p23 fu (Bq.zOf x, ()) = some ((), muchS x) := by
  obtain ⟨g, kd, fr, to, t, i, lt, l, c, rj, hn, ⟨cv, cl⟩, dt, dn⟩ := x
  dsimp only at hl
  unfold Bq.p23 Bq.zOf muchS
  dsimp only
  have h1 : decide ((List.length l : Int) > 8) = decide (8 < List.length l) := decide_eq_decide.2 (by omega)
  have h2 : decide ((List.length dt : Int) > 262144) = decide (262144 < List.length dt) := decide_eq_decide.2 (by omega)
  simp only [h1, h2]
  cases decide (8 < List.length l) with
  | true => rfl
  | false =>
  simp only [cond_false]
  cases decide (262144 < List.length dt) with
  | true => rfl
  | false =>
  simp only [cond_false, p33_is, Option.bind_some]
  cases crowdS cv cl with
  | true => rfl
  | false =>
  simp only [cond_false]
  refine lp_any (l : List EN) (fun i => (((i : Int), ()), ())) badE ((), true) ((), false) (by omega) (fun i h => ?_) (fun _ => ?_) (by cases List.any l badE <;> rfl)
  · have h3 : ∀ m : List Int, decide ((m.length : Int) > 262144) = decide (262144 < m.length) := fun m => decide_eq_decide.2 (by omega)
    have h4 : decide ((0 : Int) ≤ (i : Int) ∧ (i : Int) < (List.length l : Int)) = true := by simp; omega
    have h5 : decide ((i : Int) < (List.length l : Int)) = true := by simp; omega
    have h6 : decide (i < List.length l) = true := by simp; omega
    have hw : IntKind.wrap .i64 ((i : Int) + 1) = ((i + 1 : Nat) : Int) := by rw [wi64 (by omega) (by omega)]; omega
    simp only [h5, h4, Int.toNat_natCast, h6, cond_true]
    simp only [gd_lt h]
    simp only [h3, hw, badE]
    cases decide (262144 < List.length l[i].2.2.2.1) with
    | true => rfl
    | false =>
    simp only [cond_false]
    cases crowdS l[i].2.2.2.2.1 l[i].2.2.2.2.2 with
    | true => rfl
    | false =>
    simp only [cond_false]
    cases decide ((l[i].2.2.1 : Int) < 1) with
    | true => rfl
    | false =>
    simp only [cond_false]
    cases decide ((l[i].2.2.1 : Int) > 3) <;> rfl
  · have h5 : decide ((List.length l : Int) < (List.length l : Int)) = false := by simp
    simp only [h5, cond_false]
    rfl
def nodeS (n : Int) : Bool := bif decide (n ≥ 1) then decide (n ≤ 7) else false
def kindS (n : Int) : Bool := bif decide (n ≥ 1) then decide (n ≤ 9) else false
theorem p21_is (n : Int) : Bq.p21 fu (n, ()) = some ((), nodeS n) := by
  unfold Bq.p21 nodeS
  dsimp only
  cases decide (n ≥ 1) <;> rfl
theorem p22_is (n : Int) : Bq.p22 fu (n, ()) = some ((), kindS n) := by
  unfold Bq.p22 kindS
  dsimp only
  cases decide (n ≥ 1) <;> rfl
def badW (fr : Int) (x : WR) : Bool := bif (x.2.2.1 != fr) then true else bif !nodeS (toq x) then true else bif (toq x == fr) then true else !kindS x.2.1
def refS (fr : Int) (l : List WR) : Int := bif !nodeS fr then 1 else bif l.any (badW fr) then 1 else bif decide (4096 < l.length) then 2 else bif l.any muchS then 2 else 0
theorem p12_is (fr : Int) (l : List WR) (hl : l.length ≤ 1048576) (he : ∀ x ∈ l, List.length x.2.2.2.2.2.2.2.1 ≤ 1048576) (hf : 1048576 < fu) : Bq.p12 fu (fr, l, ()) = some ((), refS fr l) := by
  unfold Bq.p12 refS
  simp only [p21_is, p22_is, Option.bind_some]
  cases nodeS fr with
  | false => rfl
  | true =>
  simp only [Bool.not_true, cond_false]
  have hi4 : ∀ i, i < l.length → decide ((0 : Int) ≤ (i : Int) ∧ (i : Int) < (l.length : Int)) = true := fun i h => by simp; omega
  have hi5 : ∀ i, i < l.length → decide ((i : Int) < (l.length : Int)) = true := fun i h => by simp; omega
  have hi6 : ∀ i, i < l.length → decide (i < l.length) = true := fun i h => by simp; omega
  have hiw : ∀ i, i < l.length → IntKind.wrap .i64 ((i : Int) + 1) = ((i + 1 : Nat) : Int) := fun i h => by rw [wi64 (by omega) (by omega)]; omega
  have hend : decide ((l.length : Int) < (l.length : Int)) = false := by simp
  refine lp_any l (fun i => (((i : Int), ()), ())) (badW fr) ((), 1) ((), bif decide (4096 < l.length) then 2 else bif l.any muchS then 2 else 0) (by omega) (fun i h => ?_) (fun _ => ?_) (by cases l.any (badW fr) <;> rfl)
  · simp only [hi5 i h, hi4 i h, Int.toNat_natCast, hi6 i h, cond_true]
    simp only [gd_lt h]
    simp only [hiw i h, badW, toq]
    cases (l[i].2.2.1 != fr) with
    | true => rfl
    | false =>
    simp only [cond_false]
    cases nodeS l[i].2.2.2.1 with
    | false => rfl
    | true =>
    simp only [Bool.not_true, cond_false]
    cases (l[i].2.2.2.1 == fr) with
    | true => rfl
    | false =>
    simp only [cond_false]
    cases kindS l[i].2.1 <;> rfl
  · have hc : decide ((l.length : Int) > 4096) = decide (4096 < l.length) := decide_eq_decide.2 (by omega)
    simp only [hend, cond_false, hc]
    cases decide (4096 < l.length) with
    | true => rfl
    | false =>
    simp only [cond_false]
    refine congrArg inrO (a₂ := some ((), bif l.any muchS then 2 else 0)) ?_
    refine lp_any l (fun i => (((i : Int), ()), ())) muchS ((), 2) ((), 0) (by omega) (fun i h => ?_) (fun _ => ?_) (by cases l.any muchS <;> rfl)
    · simp only [hi5 i h, hi4 i h, Int.toNat_natCast, hi6 i h, cond_true]
      simp only [gd_lt h]
      have := p23_is (fu := fu) l[i] (he _ (List.getElem_mem h)) hf
      unfold Bq.zOf at this
      rw [this]
      simp only [Option.bind_some, hiw i h]
      cases muchS l[i] <;> rfl
    · simp only [hend, cond_false]
      rfl
end
section
open Go.RowKit
variable {fu : Nat}
theorem flat_bound {α : Type} (f : α → List Int) (B : Nat) : ∀ l : List α, (∀ x ∈ l, (f x).length ≤ B) → (l.flatMap f).length ≤ l.length * B
  | [], _ => by simp
  | x :: l, h => by
    have h1 := h x (by simp)
    have h2 := flat_bound f B l fun y hy => h y (by simp [hy])
    rw [List.flatMap_cons, List.length_append, List.length_cons, Nat.succ_mul]
    omega
theorem crowd_no {a b : List Int} (h : crowdS a b = false) : a.length ≤ 7 ∧ b.length ≤ 7 := by
  unfold crowdS at h
  by_cases h1 : 7 < a.length
  · simp [h1] at h
  · simp [h1] at h
    omega
theorem cB_small {a b : List Int} (h : confOk fu a b) (hc : crowdS a b = false) : (cB a b).length ≤ 160 := by
  obtain ⟨h1, h2⟩ := crowd_no hc
  have h3 := nB_len h.ha h.la
  have h4 := nB_len h.hb h.lb
  unfold cB
  rw [List.length_append]
  omega
theorem iB_len {c : Int} (h : isI c) : (iB c).length ≤ 10 := uB_len (zz_u h)
theorem entB_len {y : EN} (h : Bq.EntOk fu y) (hb : badE y = false) : (Bq.entB y).length ≤ 262400 := by
  obtain ⟨i, t, k, d, v, c⟩ := y
  obtain ⟨h1, h2, h3, h4⟩ := h
  dsimp only at h1 h2 h3 h4
  unfold badE at hb
  dsimp only at hb
  by_cases hd : 262144 < List.length d
  · simp [hd] at hb
  · rw [show decide (262144 < List.length d) = false from decide_eq_false hd] at hb
    simp only [cond_false] at hb
    have hc : crowdS v c = false := by
      cases hx : crowdS v c with
      | false => rfl
      | true => rw [hx] at hb; cases hb
    have l1 := uB_len h1
    have l2 := uB_len h2
    have l3 := iB_len h3
    have l4 := tB_len (l := d) (by omega)
    have l5 := cB_small h4 hc
    unfold Bq.entB eB
    dsimp only
    simp only [List.length_append]
    omega
theorem wireB_len {k : Int} {x : WR} (h : Bq.WrOk fu x) (hm : muchS x = false) : (Bq.wireB k x).length ≤ 3000000 := by
  obtain ⟨g, kd, fr, to, t, i, lt, l, c, rj, hn, ⟨cv, cl⟩, dt, dn⟩ := x
  obtain ⟨hg, hk, ht, hi, hlt, he, hel, hem, hc, hh, hcf⟩ := h
  dsimp only at hg hk ht hi hlt he hel hem hc hh hcf
  unfold muchS at hm
  dsimp only at hm
  have m1 : ¬ 8 < List.length l := fun q => by simp [q] at hm
  rw [show decide (8 < List.length l) = false from decide_eq_false m1] at hm
  simp only [cond_false] at hm
  have m2 : ¬ 262144 < List.length dt := fun q => by simp [q] at hm
  rw [show decide (262144 < List.length dt) = false from decide_eq_false m2] at hm
  simp only [cond_false] at hm
  have m3 : crowdS cv cl = false := by
    cases hx : crowdS cv cl with
    | false => rfl
    | true => rw [hx] at hm; cases hm
  rw [m3] at hm
  simp only [cond_false] at hm
  have m4 := flat_bound Bq.entB 262400 (l : List EN) fun y hy => entB_len (he y hy) (by
    have := List.any_eq_false.1 hm y hy
    simpa using this)
  have l0 := uB_len hg
  have l1 := uB_len ht
  have l2 := uB_len hi
  have l3 := iB_len hk
  have l4 := uB_len hlt
  have l5 := uB_len hc
  have l6 := uB_len hh
  have l7 := cB_small hcf m3
  have l8 := tB_len (l := dt) (by omega)
  have l9 := uB_len (isU_len (n := List.length l) (by omega))
  have m5 : List.length l * 262400 ≤ 8 * 262400 := Nat.mul_le_mul_right _ (by omega)
  unfold Bq.wireB Bq.beatB Bq.msgB
  dsimp only
  rw [List.length_append]
  cases (k == 2) with
  | true =>
    simp only [cond_true, List.length_append, Bq.bB_len]
    cases ((kd : Int) == 6) with
    | true => simp only [cond_true, List.length_nil]; omega
    | false => simp only [cond_false, List.length_append]; omega
  | false =>
    simp only [cond_false, List.length_append, Bq.bB_len]
    omega
theorem wrB_len {k : Int} {l : List WR} (h : ∀ x ∈ l, Bq.WrOk fu x) (hm : ∀ x ∈ l, muchS x = false) (hl : l.length ≤ 4096) : (Bq.wrB k l).length ≤ 140737488355328 := by
  have h1 := flat_bound (Bq.wireB k) 3000000 l fun x hx => wireB_len (h x hx) (hm x hx)
  have h2 : l.length * 3000000 ≤ 4096 * 3000000 := Nat.mul_le_mul_right _ hl
  have h3 := uB_len (isU_len (n := l.length) (by omega))
  unfold Bq.wrB
  rw [List.length_append]
  omega
/-- What goes to a node in a packet of a kind. -/
def pktS (fr : Int) (l : List WR) (k : Int × Int) : List PKT := bif (selq l k.1 k.2).isEmpty then [] else [(fr, k.1, k.2, Bq.wrB k.2 (selq l k.1 k.2))]
def packL (fr : Int) (l : List WR) : List PKT := keysq.flatMap (pktS fr l)
theorem ref_zero {fr : Int} {l : List WR} (h : refS fr l = 0) : nodeS fr = true ∧ (∀ x ∈ l, badW fr x = false) ∧ l.length ≤ 4096 ∧ ∀ x ∈ l, muchS x = false := by
  unfold refS at h
  cases h1 : nodeS fr with
  | false => rw [h1] at h; cases h
  | true =>
  rw [h1] at h
  simp only [Bool.not_true, cond_false] at h
  cases h2 : l.any (badW fr) with
  | true => rw [h2] at h; cases h
  | false =>
  rw [h2] at h
  simp only [cond_false] at h
  by_cases h3 : 4096 < l.length
  · simp [h3] at h
  · rw [show decide (4096 < l.length) = false from decide_eq_false h3] at h
    simp only [cond_false] at h
    cases h4 : l.any muchS with
    | true => rw [h4] at h; cases h
    | false =>
    exact ⟨rfl, fun x hx => by simpa using List.any_eq_false.1 h2 x hx, by omega, fun x hx => by simpa using List.any_eq_false.1 h4 x hx⟩
theorem ref_of {fr : Int} {l : List WR} (h1 : nodeS fr = true) (h2 : ∀ x ∈ l, badW fr x = false) (h3 : l.length ≤ 4096) (h4 : ∀ x ∈ l, muchS x = false) : refS fr l = 0 := by
  unfold refS
  rw [h1, show l.any (badW fr) = false from List.any_eq_false.2 fun x hx => by simp [h2 x hx], show l.any muchS = false from List.any_eq_false.2 fun x hx => by simp [h4 x hx], show decide (4096 < l.length) = false from decide_eq_false (by omega)]
  rfl
theorem packs_is {fr : Int} {l : List WR} (h : refS fr l = 0) (hw : ∀ x ∈ l, Bq.WrOk fu x) (hf : 1048576 < fu) : packsq fu fr l keysq = some (packL fr l) := by
  obtain ⟨_, _, h3, h4⟩ := ref_zero h
  have hs : ∀ k, stepq fu fr l k = some (pktS fr l k) := fun k => by
    unfold stepq pktS
    cases hx : (selq l k.1 k.2).isEmpty with
    | true => rfl
    | false =>
      have hsub : ∀ x ∈ selq l k.1 k.2, x ∈ l := fun x hx => (List.mem_filter.1 hx).1
      have hlen : (selq l k.1 k.2).length ≤ 4096 := Nat.le_trans (List.length_filter_le _ _) h3
      have := Bq.p13_is (fu := fu) (k := k.2) (l := selq l k.1 k.2) (fun x hx => hw x (hsub x hx)) (by omega) (by omega) (wrB_len (fun x hx => hw x (hsub x hx)) (fun x hx => h4 x (hsub x hx)) hlen) (by omega)
      simp only [cond_false]
      rw [this]
      rfl
  have key : ∀ (ks : List (Int × Int)) (acc : List PKT), ks.foldl (fun acc k => acc.bind fun ps => (stepq fu fr l k).map (ps ++ ·)) (some acc) = some (acc ++ ks.flatMap (pktS fr l)) := by
    intro ks
    induction ks with
    | nil => intro acc; simp
    | cons k ks ih =>
      intro acc
      rw [List.foldl_cons]
      have e : ((some acc).bind fun ps => (stepq fu fr l k).map (ps ++ ·)) = some (acc ++ pktS fr l k) := by rw [hs k]; rfl
      rw [e, ih, List.flatMap_cons, List.append_assoc]
  exact key keysq []
theorem pPack_is (fr : Int) (l : List WR) (hl : l.length ≤ 1048576) (hw : ∀ x ∈ l, Bq.WrOk fu x) (hf : 1048576 < fu) : pPack fu (fr, l, ()) = some ((), (bif refS fr l == 0 then packL fr l else []), refS fr l, ()) := by
  unfold pPack
  dsimp only
  rw [decide_eq_true hl, p12_is fr l hl (fun x hx => (hw x hx).em) hf]
  simp only [cond_true, Option.bind_some]
  by_cases h : refS fr l = 0
  · rw [packs_is h hw hf, h]
    rfl
  · rw [show (refS fr l != 0) = true by simp [h], show (refS fr l == 0) = false by simp [h]]
    rfl
/-- What goes to one node. -/
theorem sel_to (l : List WR) (to a b : Int) : selq (l.filter fun x => toq x == to) a b = bif a == to then selq l a b else [] := by
  unfold selq
  rw [List.filter_filter]
  by_cases h : a = to
  · subst h
    simp only [beq_self_eq_true, cond_true]
    congr 1
    funext x
    cases (toq x == a) <;> simp
  · rw [show (a == to) = false by simp [h]]
    simp only [cond_false]
    rw [List.filter_eq_nil_iff]
    intro x _ hx
    simp only [Bool.and_eq_true, beq_iff_eq] at hx
    exact h (hx.1.1.symm.trans hx.2)
theorem pack_to (fr : Int) (l : List WR) (to : Int) : packL fr (l.filter fun x => toq x == to) = (packL fr l).filter fun p => p.2.1 == to := by
  unfold packL
  rw [List.filter_flatMap]
  congr 1
  funext k
  show pktS fr _ k = (pktS fr l k).filter _
  unfold pktS
  rw [sel_to]
  by_cases h : k.1 = to
  · rw [show (k.1 == to) = true by simp [h]]
    simp only [cond_true]
    cases (selq l k.1 k.2).isEmpty with
    | true => rfl
    | false => simp [h]
  · rw [show (k.1 == to) = false by simp [h]]
    simp only [cond_false, List.isEmpty_nil, cond_true]
    cases (selq l k.1 k.2).isEmpty with
    | true => rfl
    | false => simp [h]
theorem keys_two (to : Int) : (keysq.filter fun k => k.1 == to).length ≤ 2 := by
  have h : ∀ t : Fin 8, (keysq.filter fun k => k.1 == ((t : Nat) : Int)).length ≤ 2 := by decide
  by_cases h1 : 0 ≤ to ∧ to < 8
  · have := h ⟨to.toNat, by omega⟩
    have e : ((to.toNat : Nat) : Int) = to := by omega
    simpa [e] using this
  · have : (keysq.filter fun k => k.1 == to) = [] := by
      rw [List.filter_eq_nil_iff]
      intro k hk hh
      have h2 : ∀ k ∈ keysq, 0 ≤ k.1 ∧ k.1 < 8 := by decide
      have := h2 k hk
      simp only [beq_iff_eq] at hh
      omega
    rw [this]
    simp
theorem pack_two (fr : Int) (l : List WR) (to : Int) : ((packL fr l).filter fun p => p.2.1 == to).length ≤ 2 := by
  have key : ∀ ks : List (Int × Int), ((ks.flatMap (pktS fr l)).filter fun p => p.2.1 == to).length ≤ (ks.filter fun k => k.1 == to).length := by
    intro ks
    induction ks with
    | nil => simp
    | cons k ks ih =>
      rw [List.flatMap_cons, List.filter_append, List.length_append, List.filter_cons]
      have : ((pktS fr l k).filter fun p => p.2.1 == to).length ≤ if (k.1 == to) = true then 1 else 0 := by
        unfold pktS
        cases (selq l k.1 k.2).isEmpty with
        | true => simp
        | false =>
          simp only [cond_false, List.filter_cons, List.filter_nil]
          split <;> simp
      split
      · rename_i h
        rw [if_pos h] at this
        rw [List.length_cons]
        omega
      · rename_i h
        rw [if_neg h] at this
        omega
  exact Nat.le_trans (key keysq) (keys_two to)
end
end Go.Proofs.Ytahamggipcikgaa
