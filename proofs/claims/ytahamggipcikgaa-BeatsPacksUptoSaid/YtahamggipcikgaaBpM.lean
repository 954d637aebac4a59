/-
  What the document writes.
-/
import Derived.Test.YtahamggipcikgaaWqM
import Derived.Test.YtahamggipcikgaaPtP
import Derived.Test.YtahamggipcikgaaApN
namespace Go.Proofs.Ytahamggipcikgaa
section
open Go.RowKit
variable {fu : Nat}
theorem p19_is {v : Int} (hv : isU v) (hfu : 10 < fu) : p19 fu (v, ()) = some ((), uB v) := by
  unfold p19
  have h10 := uB_len hv
  refine loopO_eq (fun (s : (Int × List Int × Unit) × Unit) => isU s.1.1 ∧ s.1.2.1.length + (uB s.1.1).length ≤ 10) (fun s => (uB s.1.1).length) (fun s => ((), s.1.2.1 ++ uB s.1.1)) ?_ fu ((v, [], ()), ()) ⟨hv, by simpa using h10⟩ (Nat.lt_of_le_of_lt h10 hfu)
  rintro ⟨⟨f, h, ⟨⟩⟩, ⟨⟩⟩ ⟨⟨h0, h1⟩, h2⟩
  dsimp only at h0 h1 h2
  obtain ⟨n, rfl⟩ := Int.eq_ofNat_of_zero_le h0
  have e : uB ((n : Nat) : Int) = ub n := rfl
  simp only [e] at h2 ⊢
  by_cases hn : n < 128
  · right
    rw [ub_small hn] at h2 ⊢
    simp only [List.length_singleton] at h2
    have hw : IntKind.wrap .u8 (n : Int) = (n : Int) := wu8 (by omega) (by omega)
    have hl : h.length + 1 ≤ maxLen ∧ (h.length + 1) * 1 ≤ 140737488355328 := ⟨fits_top (by omega), by omega⟩
    have hge : ¬ ((n : Int) ≥ 128) := by omega
    simp only [hge, hw, hl, List.length_singleton, decide_false, decide_true, cond_false, cond_true, and_self, inrO, Option.map_some]
  · left
    rw [ub_big hn] at h2 ⊢
    simp only [List.length_cons] at h2
    have hl : h.length + 1 ≤ maxLen ∧ (h.length + 1) * 1 ≤ 140737488355328 := ⟨fits_top (by omega), by omega⟩
    refine ⟨((((n / 128 : Nat) : Int), h ++ [((n % 128 + 128 : Nat) : Int)], ()), ()), ?_, ⟨⟨by dsimp only; omega, by dsimp only; omega⟩, ?_⟩, ?_, ?_⟩
    · have hge : (n : Int) ≥ 128 := by omega
      simp only [lowR n (by omega), fdiv7, List.length_singleton, hl, hge, decide_true, cond_true, and_self]
    · show (h ++ [((n % 128 + 128 : Nat) : Int)]).length + (ub (n / 128)).length ≤ _
      simp only [List.length_append, List.length_singleton]
      omega
    · show (ub (n / 128)).length < _
      simp
    · show ((), (h ++ [((n % 128 + 128 : Nat) : Int)]) ++ ub (n / 128)) = _
      simp
theorem p29_is {c : Int} (hc : isI c) (hfu : 10 < fu) : p29 fu (c, ()) = some ((), iB c) := by
  unfold p29
  by_cases h : c < 0
  · simp only [h, decide_true, cond_true, zzN hc h]
    rw [p19_is (zz_u hc) hfu]
    simp only [Option.bind_some]
    rfl
  · simp only [h, decide_false, cond_false, zzQ hc h]
    rw [p19_is (zz_u hc) hfu]
    simp only [Option.bind_some, decide_true, cond_true]
    rfl
theorem p28_is {b : Bool} : p28 fu (b, ()) = some ((), bB b) := by
  cases b <;> rfl
theorem p32_is {l : List Int} (ha : (tB l).length ≤ 140737488355328) (hfu : 10 < fu) : p32 fu (l, ()) = some ((), tB l) := by
  unfold tB at ha
  rw [List.length_append] at ha
  unfold p32
  dsimp only
  rw [wu_len (by omega), p19_is (isU_len (by omega)) hfu]
  simp only [Option.bind_some, decide_true, cond_true, fits2 ha, tB]
theorem p39_is {l : List Int} (hl : ∀ x ∈ l, isI x) (ha : (nB l).length ≤ 140737488355328) (hll : l.length ≤ 140737488355328) (hfu : 10 < fu) (hf2 : l.length < fu) : p39 fu (l, ()) = some ((), nB l) := by
  unfold nB at ha
  rw [List.length_append] at ha
  unfold p39
  dsimp only
  rw [wu_len hll, p19_is (isU_len hll) hfu]
  simp only [Option.bind_some, decide_true, cond_true]
  refine loopO_eq (fun (s : (List Int × (Int × Unit)) × Unit) => ∃ k : Nat, k ≤ l.length ∧ s = ((uB (l.length : Int) ++ (l.take k).flatMap iB, (k : Int), ()), ())) (fun s => l.length - s.1.2.1.toNat) (fun _ => ((), nB l)) ?_ fu _ ⟨0, Nat.zero_le _, by simp⟩ (by dsimp only; omega)
  rintro _ ⟨k, hk, rfl⟩
  by_cases hlt : k < l.length
  · left
    refine ⟨_, ?_, ⟨k + 1, hlt, rfl⟩, ?_, rfl⟩
    · have e1 : decide ((k : Int) < (l.length : Int)) = true := by simpa using hlt
      have e2 : decide ((0 : Int) ≤ (k : Int) ∧ (k : Int) < (l.length : Int)) = true := by simp; omega
      have e3 : decide (k < l.length) = true := by simpa using hlt
      have hb := flat_le hlt
      have hw : IntKind.wrap .i64 ((k : Int) + 1) = ((k + 1 : Nat) : Int) := by rw [wi64 (by omega) (by omega)]; omega
      simp only [e1, e2, Int.toNat_natCast, e3, cond_true]
      have h2 : (uB (l.length : Int) ++ (l.take k).flatMap iB).length + (iB (l.getD k 0)).length ≤ 140737488355328 := by rw [List.length_append]; omega
      rw [show l.getD k (dflt (.int .i64)) = l.getD k 0 from rfl, p29_is (getD_isI hl hlt) hfu]
      simp only [Option.bind_some, fits2 h2, decide_true, cond_true, hw, take_flat hlt, List.append_assoc]
    · dsimp only
      omega
  · right
    have hkl : k = l.length := by omega
    subst hkl
    have e1 : decide ((l.length : Int) < (l.length : Int)) = false := by simp
    simp only [e1, cond_false, inrO, Option.map_some, List.take_length, nB]
theorem p31_is {v l : List Int} (hc : confOk fu v l) (hfu : 10 < fu) : p31 fu ((v, l, ()), ()) = some ((), cB v l) := by
  have h1 := hc.la
  have h2 := hc.lb
  have h3 := nB_len hc.ha h1
  have h4 := nB_len hc.hb h2
  unfold p31
  dsimp only
  rw [p39_is hc.ha (by omega) (by omega) hfu hc.fa]
  simp only [Option.bind_some]
  rw [p39_is hc.hb (by omega) (by omega) hfu hc.fb]
  have h5 : (nB v).length + (nB l).length ≤ 140737488355328 := by omega
  simp only [Option.bind_some, decide_true, cond_true, fits2 h5, cB]
theorem p30_is {i t k : Int} {d v l : List Int} (hi : isU i) (ht : isU t) (hk : isI k) (hd : d.length ≤ 1048576) (hc : confOk fu v l) (hfu : 10 < fu) : p30 fu ((i, t, k, d, v, l, ()), ()) = some ((), eB i t k d v l) := by
  have l0 := uB_len hi
  have l1 := uB_len ht
  have l2 : (iB k).length ≤ 10 := uB_len (zz_u hk)
  have l3 := tB_len (l := d) (by omega)
  have l4 := cB_len hc
  have c0 := p19_is (fu := fu) hi hfu
  have c1 := p19_is (fu := fu) ht hfu
  have c2 := p29_is (fu := fu) hk hfu
  have c3 := p32_is (fu := fu) (l := d) (by omega) hfu
  have c4 := p31_is hc hfu
  unfold p30
  dsimp only
  simp only [c0, c1, c2, c3, c4, Option.bind_some, decide_true, cond_true, List.length_append]
  simp only [fits2 (n := (uB i).length + (uB t).length) (by omega), fits2 (n := (uB i).length + (uB t).length + (iB k).length) (by omega), fits2 (n := (uB i).length + (uB t).length + (iB k).length + (tB d).length) (by omega), fits2 (n := (uB i).length + (uB t).length + (iB k).length + (tB d).length + (cB v l).length) (by omega), decide_true, cond_true]
  simp only [eB, List.append_assoc]
end
section
open Go.RowKit
variable {fu : Nat}
theorem p14_is (n : Int) : p14 fu (n, ()) = some ((), nodeS n) := by
  unfold p14 nodeS
  dsimp only
  cases decide (n ≥ 1) <;> rfl
theorem p15_is (n : Int) : p15 fu (n, ()) = some ((), kindS n) := by
  unfold p15 kindS
  dsimp only
  cases decide (n ≥ 1) <;> rfl
theorem decg (m : List Int) (n : Nat) : decide ((m.length : Int) > (n : Int)) = decide (n < m.length) := decide_eq_decide.2 (by omega)
theorem p16_is (x : WR) (hl : List.length x.2.2.2.2.2.2.2.1 ≤ 1048576) (hf : 1048576 < fu) : p16 fu (Bq.zOf x, ()) = some ((), muchS x) := by
  obtain ⟨g, kd, fr, to, t, i, lt, l, c, rj, hn, ⟨cv, cl⟩, dt, dn⟩ := x
  dsimp only at hl
  unfold p16 Bq.zOf muchS crowdS
  dsimp only
  have h1 : decide ((List.length l : Int) > 8) = decide (8 < List.length l) := decide_eq_decide.2 (by omega)
  have h2 : decide ((List.length dt : Int) > 262144) = decide (262144 < List.length dt) := decide_eq_decide.2 (by omega)
  have h7 : ∀ m : List Int, decide ((m.length : Int) > 7) = decide (7 < m.length) := fun m => decide_eq_decide.2 (by omega)
  simp only [h1, h2, h7]
  cases decide (8 < List.length l) with
  | true => rfl
  | false =>
  simp only [cond_false]
  cases decide (262144 < List.length dt) with
  | true => rfl
  | false =>
  simp only [cond_false]
  cases decide (7 < List.length cv) with
  | true => rfl
  | false =>
  simp only [cond_false]
  cases decide (7 < List.length cl) with
  | true => rfl
  | false =>
  simp only [cond_false]
  refine lp_any (l : List EN) (fun i => (((i : Int), ()), ())) badE ((), true) ((), false) (by omega) (fun i h => ?_) (fun _ => ?_) (by cases List.any l badE <;> rfl)
  · have h3 : ∀ m : List Int, decide ((m.length : Int) > 262144) = decide (262144 < m.length) := fun m => decide_eq_decide.2 (by omega)
    have h4 : decide ((0 : Int) ≤ (i : Int) ∧ (i : Int) < (List.length l : Int)) = true := by simp; omega
    have h5 : decide ((i : Int) < (List.length l : Int)) = true := by simp; omega
    have h6 : decide (i < List.length l) = true := by simp; omega
    have hw : IntKind.wrap .i64 ((i : Int) + 1) = ((i + 1 : Nat) : Int) := by rw [wi64 (by omega) (by omega)]; omega
    simp only [h5, h4, Int.toNat_natCast, h6, cond_true]
    simp only [gd_lt h]
    simp only [h3, hw, badE, crowdS]
    cases decide (262144 < List.length l[i].2.2.2.1) with
    | true => rfl
    | false =>
    simp only [cond_false]
    cases decide (7 < List.length l[i].2.2.2.2.1) with
    | true => rfl
    | false =>
    simp only [cond_false]
    cases decide (7 < List.length l[i].2.2.2.2.2) with
    | true => rfl
    | false =>
    simp only [cond_false]
    cases decide ((l[i].2.2.1 : Int) < 1) with
    | true => rfl
    | false =>
    simp only [cond_false]
    cases decide ((l[i].2.2.1 : Int) > 3) <;> rfl
  · have h5 : decide ((List.length l : Int) < (List.length l : Int)) = false := by simp
    simp only [h5, cond_false]
    rfl
end
section
open Go.RowKit
variable {fu : Nat}
theorem okA {n m : Nat} (h : n + m ≤ 140737488355328) : decide (n + m ≤ maxLen ∧ (n + m) * 1 ≤ 140737488355328) = true := decide_eq_true ⟨fits_top h, by omega⟩
theorem nat0 (n : Nat) : ((n : Int) == 0) = decide (n = 0) := by
  by_cases h : n = 0
  · simp [h]
  · rw [decide_eq_false h]; simp; omega
theorem p10_is (x : WR) (h : Bq.WrOk fu x) (hd : List.length x.2.2.2.2.2.2.2.2.2.2.2.2.1 ≤ 1048576) : p10 fu (Bq.zOf x, ()) = some ((), isBq x) := by
  have hb := isBq_is fu x
  obtain ⟨g, kd, fr, to, t, i, lt, l, c, rj, hn, ⟨cv, cl⟩, dt, dn⟩ := x
  obtain ⟨hg, hk, ht, hi, hlt, he, hel, hem, hc, hh, hcf⟩ := h
  have h1 := hcf.la
  have h2 := hcf.lb
  dsimp only at hem h1 h2 hd
  rw [← hb]
  unfold p10 p20 Bq.p9 Bq.zOf msgZ
  dsimp only
  have w1 : IntKind.wrap .i64 ((List.length l : Int) + (List.length cv : Int)) = ((List.length l + List.length cv : Nat) : Int) := by rw [wi64 (by omega) (by omega)]; omega
  have w2 : IntKind.wrap .i64 (((List.length l + List.length cv : Nat) : Int) + (List.length cl : Int)) = ((List.length l + List.length cv + List.length cl : Nat) : Int) := by rw [wi64 (by omega) (by omega)]; omega
  have w3 : IntKind.wrap .i64 (((List.length l + List.length cv + List.length cl : Nat) : Int) + (List.length dt : Int)) = ((List.length l + List.length cv + List.length cl + List.length dt : Nat) : Int) := by rw [wi64 (by omega) (by omega)]; omega
  have w4 : IntKind.wrap .i64 ((List.length cv : Int) + (List.length cl : Int)) = ((List.length cv + List.length cl : Nat) : Int) := by rw [wi64 (by omega) (by omega)]; omega
  rw [w1, w2, w3, w4]
  simp only [nat0]
  have hs : decide (List.length l + List.length cv + List.length cl + List.length dt = 0) = (decide (List.length l = 0) && (decide (List.length cv + List.length cl = 0) && decide (List.length dt = 0))) := by
    rw [← Bool.decide_and, ← Bool.decide_and]
    exact decide_eq_decide.2 (by omega)
  rw [hs]
  generalize decide (List.length l = 0) = b1
  generalize decide (List.length cv + List.length cl = 0) = b2
  generalize decide (List.length dt = 0) = b3
  generalize ((hn : Int) == 0) = b4
  generalize ((kd : Int) == 5) = b5
  generalize ((kd : Int) == 6) = b6
  generalize ((lt : Int) == 0) = b7
  generalize ((c : Int) == 0) = b8
  have rj' : Bool := rj
  cases b1 <;> cases b2 <;> cases b3 <;> cases b4 <;> cases b5 <;> cases b6 <;> cases b7 <;> cases b8 <;> cases rj <;> cases dn <;> rfl
theorem p17_is {x : WR} (h : Bq.WrOk fu x) (hfu : 10 < fu) : p17 fu ((x.1, Bq.zOf x), ()) = some ((), Bq.wireB 2 x) := by
  obtain ⟨g, kd, fr, to, t, i, lt, l, c, rj, hn, ⟨cv, cl⟩, dt, dn⟩ := x
  obtain ⟨hg, hk, ht, hi, hlt, he, hel, hem, hc, hh, hcf⟩ := h
  dsimp only at hg hk ht hi hlt he hel hem hc hh hcf
  have c1 := p19_is (fu := fu) hg hfu
  have c2 := p19_is (fu := fu) ht hfu
  have c3 := p19_is (fu := fu) hi hfu
  have c4 := p19_is (fu := fu) hlt hfu
  have c5 := p19_is (fu := fu) hc hfu
  have c6 : p28 fu ((kd : Int) == 6, ()) = some ((), bB ((kd : Int) == 6)) := p28_is
  have l1 := uB_len hg
  have l2 := uB_len ht
  have l3 := uB_len hi
  have l4 := uB_len hlt
  have l5 := uB_len hc
  unfold p17 Bq.zOf Bq.wireB Bq.beatB
  dsimp only
  simp only [c1, c6, Option.bind_some, decide_true, cond_true]
  rw [okA (by simp only [Bq.bB_len]; omega)]
  simp only [c2, Option.bind_some, cond_true]
  rw [okA (by simp only [Bq.bB_len, List.length_append]; omega)]
  simp only [c3, Option.bind_some, cond_true]
  rw [okA (by simp only [Bq.bB_len, List.length_append]; omega)]
  cases ((kd : Int) == 6) with
  | true =>
    simp only [Bool.not_true, cond_false, cond_true, beq_self_eq_true, List.append_assoc, List.append_nil]
  | false =>
    simp only [c4, Option.bind_some, Bool.not_false, cond_true]
    rw [okA (by simp only [Bq.bB_len, List.length_append]; omega)]
    simp only [c5, Option.bind_some, cond_true]
    rw [okA (by simp only [Bq.bB_len, List.length_append]; omega)]
    simp only [cond_false, cond_true, beq_self_eq_true, List.append_assoc]
theorem p18_is {x : WR} (h : Bq.WrOk fu x) (hm : muchS x = false) (hfu : 10 < fu) : p18 fu ((x.1, Bq.zOf x), ()) = some ((), Bq.wireB 1 x) := by
  have hlen := wireB_len (k := 1) h hm
  obtain ⟨g, kd, fr, to, t, i, lt, l, c, rj, hn, ⟨cv, cl⟩, dt, dn⟩ := x
  obtain ⟨hg, hk, ht, hi, hlt, he, hel, hem, hc, hh, hcf⟩ := h
  dsimp only at hg hk ht hi hlt he hel hem hc hh hcf
  unfold muchS at hm
  dsimp only at hm
  have m1 : ¬ 8 < List.length l := fun q => by simp [q] at hm
  rw [show decide (8 < List.length l) = false from decide_eq_false m1] at hm
  simp only [cond_false] at hm
  have m2 : ¬ 262144 < List.length dt := fun q => by simp [q] at hm
  rw [show decide (262144 < List.length dt) = false from decide_eq_false m2] at hm
  simp only [cond_false] at hm
  have m3 : crowdS cv cl = false := by
    cases hx : crowdS cv cl with
    | false => rfl
    | true => rw [hx] at hm; cases hm
  rw [m3] at hm
  simp only [cond_false] at hm
  have hbe : ∀ y ∈ (l : List EN), badE y = false := fun y hy => by
    have := List.any_eq_false.1 hm y hy
    simpa using this
  have c1 := p19_is (fu := fu) hg hfu
  have c2 := p19_is (fu := fu) ht hfu
  have c3 := p19_is (fu := fu) hi hfu
  have c4 := p19_is (fu := fu) hlt hfu
  have c5 := p19_is (fu := fu) hc hfu
  have c6 := p19_is (fu := fu) hh hfu
  have c7 := p29_is (fu := fu) hk hfu
  have c8 : p19 fu (IntKind.wrap .u64 (List.length l : Int), ()) = some ((), uB (List.length l : Int)) := by rw [wu_len (by omega)]; exact p19_is (isU_len (by omega)) hfu
  have c9 := p31_is hcf hfu
  have l8 := tB_len (l := dt) (by omega)
  have c10 := p32_is (fu := fu) (l := dt) (by omega) hfu
  have c11 : ∀ b : Bool, p28 fu (b, ()) = some ((), bB b) := fun b => p28_is
  have hW : Bq.wireB 1 (g, kd, fr, to, t, i, lt, l, c, rj, hn, (cv, cl), dt, dn) = uB g ++ (iB kd ++ (uB t ++ (uB i ++ (uB lt ++ (uB (List.length l : Int) ++ (List.flatMap Bq.entB l ++ (uB c ++ (bB rj ++ (uB hn ++ (cB cv cl ++ (tB dt ++ bB dn))))))))))) := rfl
  rw [hW] at hlen ⊢
  simp only [List.length_append, Bq.bB_len] at hlen
  unfold p18 Bq.zOf
  dsimp only
  simp only [c1, c7, Option.bind_some, decide_true, cond_true]
  rw [okA (by omega)]
  simp only [c2, Option.bind_some, cond_true]
  rw [okA (by simp only [List.length_append]; omega)]
  simp only [c3, Option.bind_some, cond_true]
  rw [okA (by simp only [List.length_append]; omega)]
  simp only [c4, Option.bind_some, cond_true]
  rw [okA (by simp only [List.length_append]; omega)]
  simp only [c8, Option.bind_some, cond_true]
  rw [okA (by simp only [List.length_append]; omega)]
  simp only [cond_true]
  refine loopO_eq (fun (s : (List Int × (Int × Unit)) × Unit) => ∃ k : Nat, k ≤ List.length l ∧ s = ((uB g ++ iB kd ++ uB t ++ uB i ++ uB lt ++ uB (List.length l : Int) ++ (List.take k l).flatMap Bq.entB, (k : Int), ()), ())) (fun s => List.length l - s.1.2.1.toNat) (fun _ => _) ?_ fu _ ⟨0, Nat.zero_le _, by simp⟩ (by dsimp only; omega)
  rintro _ ⟨k, hk, rfl⟩
  by_cases hlt : k < List.length l
  · left
    refine ⟨_, ?_, ⟨k + 1, hlt, rfl⟩, ?_, rfl⟩
    · have e1 : decide ((k : Int) < (List.length l : Int)) = true := by simpa using hlt
      have e2 : decide ((0 : Int) ≤ (k : Int) ∧ (k : Int) < (List.length l : Int)) = true := by simp; omega
      have e3 : decide (k < List.length l) = true := by simpa using hlt
      have hb := Bq.fl_le Bq.entB (dflt Bq.T_api_Entry) hlt
      have hw : IntKind.wrap .i64 ((k : Int) + 1) = ((k + 1 : Nat) : Int) := by rw [wi64 (by omega) (by omega)]; omega
      simp only [e1, e2, Int.toNat_natCast, e3, cond_true]
      have hmm : (List.getD l k (dflt Bq.T_api_Entry)) ∈ l := by rw [List.getD_eq_getElem?_getD, List.getElem?_eq_getElem hlt]; exact List.getElem_mem hlt
      obtain ⟨o1, o2, o3, o4⟩ := he _ hmm
      have hbad := hbe _ hmm
      have hd : List.length (List.getD l k (dflt Bq.T_api_Entry)).2.2.2.1 ≤ 1048576 := by
        unfold badE at hbad
        by_cases q : 262144 < List.length (List.getD l k (dflt Bq.T_api_Entry)).2.2.2.1
        · rw [decide_eq_true q] at hbad; cases hbad
        · omega
      have q := p30_is (fu := fu) o1 o2 o3 hd o4 hfu
      have q2 : (eB (List.getD l k (dflt Bq.T_api_Entry)).1 (List.getD l k (dflt Bq.T_api_Entry)).2.1 (List.getD l k (dflt Bq.T_api_Entry)).2.2.1 (List.getD l k (dflt Bq.T_api_Entry)).2.2.2.1 (List.getD l k (dflt Bq.T_api_Entry)).2.2.2.2.1 (List.getD l k (dflt Bq.T_api_Entry)).2.2.2.2.2) = Bq.entB (List.getD l k (dflt Bq.T_api_Entry)) := rfl
      rw [q2] at q
      have q3 : p30 fu (((List.getD l k (dflt T_api_Entry)).1, (List.getD l k (dflt T_api_Entry)).2.1, (List.getD l k (dflt T_api_Entry)).2.2.1, (List.getD l k (dflt T_api_Entry)).2.2.2.1, (List.getD l k (dflt T_api_Entry)).2.2.2.2.1, (List.getD l k (dflt T_api_Entry)).2.2.2.2.2, ()), ()) = some ((), Bq.entB (List.getD l k (dflt Bq.T_api_Entry))) := q
      rw [q3]
      simp only [Option.bind_some]
      rw [okA (by simp only [List.length_append]; omega)]
      simp only [cond_true, hw, Bq.tk_flat Bq.entB (dflt Bq.T_api_Entry) hlt, List.append_assoc]
    · dsimp only
      omega
  · right
    have hkl : k = List.length l := by omega
    subst hkl
    have e1 : decide ((List.length l : Int) < (List.length l : Int)) = false := by simp
    simp only [e1, cond_false, c5, Option.bind_some, List.take_length]
    rw [okA (by simp only [List.length_append]; omega)]
    simp only [c11, Option.bind_some, cond_true]
    rw [okA (by simp only [List.length_append, Bq.bB_len]; omega)]
    simp only [c6, Option.bind_some, cond_true]
    rw [okA (by simp only [List.length_append, Bq.bB_len]; omega)]
    simp only [c9, Option.bind_some, cond_true]
    rw [okA (by simp only [List.length_append, Bq.bB_len]; omega)]
    simp only [c10, Option.bind_some, cond_true]
    rw [okA (by simp only [List.length_append, Bq.bB_len]; omega)]
    simp only [cond_true]
    rw [okA (by simp only [List.length_append, Bq.bB_len]; omega)]
    simp only [cond_true, inrO, Option.map_some, List.append_assoc]
end
section
open Go.RowKit
variable {fu : Nat}
theorem lp_fold {X S A R : Type} {f : S → Option (S ⊕ R)} {res : R} (l : List X) (mk : Nat → A → S) (st : A → X → A) (fin : A → R) (a : A) (P : Nat → A → Prop) (h0 : P 0 a) (hf : l.length < fu)
    (hs : ∀ i (h : i < l.length) b, P i b → f (mk i b) = some (.inl (mk (i + 1) (st b l[i]))) ∧ P (i + 1) (st b l[i])) (he : ∀ b, P l.length b → f (mk l.length b) = some (.inr (fin b)) ∧ fin b = res) : loopO fu f (mk 0 a) = some res := by
  have key : ∀ k i n b, i + k = l.length → k < n → P i b → loopO n f (mk i b) = some res := by
    intro k
    induction k with
    | zero =>
      intro i n b hi hn hb
      obtain ⟨m, rfl⟩ : ∃ m, n = m + 1 := ⟨n - 1, by omega⟩
      obtain rfl : i = l.length := by omega
      obtain ⟨e1, e2⟩ := he b hb
      simp only [loopO, e1, e2]
    | succ k ih =>
      intro i n b hi hn hb
      obtain ⟨m, rfl⟩ : ∃ m, n = m + 1 := ⟨n - 1, by omega⟩
      have hlt : i < l.length := by omega
      obtain ⟨e1, e2⟩ := hs i hlt b hb
      simp only [loopO, e1]
      exact ih (i + 1) m _ (by omega) (by omega) e2
  exact key l.length 0 fu a (by omega) hf h0
theorem tk_fil {α : Type} (q : α → Bool) {l : List α} {i : Nat} (h : i < l.length) : (l.take (i + 1)).filter q = bif q l[i] then (l.take i).filter q ++ [l[i]] else (l.take i).filter q := by
  rw [List.take_succ_eq_append_getElem h, List.filter_append]
  cases hq : q l[i] <;> simp [hq]
theorem i4 {α : Type} {l : List α} {i : Nat} (h : i < l.length) : decide ((0 : Int) ≤ (i : Int) ∧ (i : Int) < (l.length : Int)) = true := by simp; omega
theorem i5 {α : Type} {l : List α} {i : Nat} (h : i < l.length) : decide ((i : Int) < (l.length : Int)) = true := by simp; omega
theorem i6 {α : Type} {l : List α} {i : Nat} (h : i < l.length) : decide (i < l.length) = true := by simp; omega
theorem iend {α : Type} (l : List α) : decide ((l.length : Int) < (l.length : Int)) = false := by simp
theorem iwr {α : Type} {l : List α} {i : Nat} (h : i < l.length) (hl : l.length ≤ 1048576) : IntKind.wrap .i64 ((i : Int) + 1) = ((i + 1 : Nat) : Int) := by rw [wi64 (by omega) (by omega)]; omega
theorem room {n s : Nat} (hn : n ≤ 1048576) (hs : s ≤ 200) : (n + 1 ≤ maxLen ∧ (n + 1) * s ≤ 140737488355328) = True := by
  refine eq_true ⟨by unfold maxLen; omega, ?_⟩
  have := Nat.mul_le_mul (show n + 1 ≤ 1048577 by omega) hs
  omega
theorem p7_is (l : List WR) (hl : l.length ≤ 1048576) (hf : 1048576 < fu) : p7 fu (l, ()) = some ((), l) := by
  unfold p7
  dsimp only
  refine lp_fold l (fun i b => ((b, (i : Int), ()), ())) (fun b x => b ++ [x]) (fun b => ((), b)) [] (fun i b => b = l.take i) rfl (by omega) (fun i h b hb => ⟨?_, by rw [hb, List.take_succ_eq_append_getElem h]⟩) (fun b hb => ⟨?_, by rw [hb, List.take_length]⟩)
  · have hb' : b.length ≤ 1048576 := by rw [hb, List.length_take]; omega
    simp only [i5 h, i4 h, Int.toNat_natCast, i6 h, cond_true, gd_lt h, decide_true, List.length_singleton, room hb' (show 184 ≤ 200 by decide), iwr h hl]
  · simp only [iend, cond_false, decide_true, cond_true]
    rfl
theorem p11_refl (l : List PKT) (hl : l.length ≤ 1048576) (hf : 1048576 < fu) : p11 fu (l, l, ()) = some ((), true) := by
  unfold p11
  dsimp only
  simp only [bne_self_eq_false, cond_false]
  refine lp_any l (fun i => (((i : Int), ()), ())) (fun _ => false) ((), false) ((), true) (by omega) (fun i h => ?_) (fun _ => ?_) (by
    have : l.any (fun _ => false) = false := by simp
    rw [this]; rfl)
  · simp only [i5 h, i4 h, Int.toNat_natCast, i6 h, cond_true, cond_false, beq_self_eq_true, Bool.not_true, iwr h hl]
  · simp only [iend, cond_false]
    rfl
theorem much_dt {x : WR} (hm : muchS x = false) : List.length x.2.2.2.2.2.2.2.2.2.2.2.2.1 ≤ 1048576 := by
  unfold muchS at hm
  by_cases h1 : 8 < List.length x.2.2.2.2.2.2.2.1
  · simp [h1] at hm
  · by_cases h2 : 262144 < List.length x.2.2.2.2.2.2.2.2.2.2.2.2.1
    · simp [h1, h2] at hm
    · omega
theorem sel_sub {l : List WR} {k : Nat} {q b : Int} {x : WR} (h : x ∈ selq (l.take k) q b) : x ∈ l := List.mem_of_mem_take (List.mem_filter.1 h).1
theorem sel_len (l : List WR) (k : Nat) (q b : Int) : (selq (l.take k) q b).length ≤ l.length := Nat.le_trans (List.length_filter_le _ _) (by rw [List.length_take]; omega)
theorem sel_bound {l : List WR} (hw : ∀ x ∈ l, Bq.WrOk fu x) (hm : ∀ x ∈ l, muchS x = false) (hl : l.length ≤ 4096) (k : Nat) (q b c : Int) : ((selq (l.take k) q b).flatMap (Bq.wireB c)).length ≤ 12288000000 := by
  have h1 := flat_bound (Bq.wireB c) 3000000 (selq (l.take k) q b) fun x hx => wireB_len (hw x (sel_sub hx)) (hm x (sel_sub hx))
  have h2 := sel_len l k q b
  have h3 : (selq (l.take k) q b).length * 3000000 ≤ 4096 * 3000000 := Nat.mul_le_mul_right _ (by omega)
  omega
theorem sel_step {l : List WR} {k : Nat} (h : k < l.length) (q b : Int) : selq (l.take (k + 1)) q b = bif toq l[k] == q && kindq l[k] == b then selq (l.take k) q b ++ [l[k]] else selq (l.take k) q b := tk_fil _ h
abbrev ACC := Int × (Int × (List Int × List Int))
def accS (l : List WR) (q : Int) (k : Nat) : ACC := (((selq (l.take k) q 2).length : Int), ((selq (l.take k) q 1).length : Int), (selq (l.take k) q 2).flatMap (Bq.wireB 2), (selq (l.take k) q 1).flatMap (Bq.wireB 1))
def accT (q : Int) (a : ACC) (x : WR) : ACC := bif toq x == q then (bif isBq x then (a.1 + 1, a.2.1, a.2.2.1 ++ Bq.wireB 2 x, a.2.2.2) else (a.1, a.2.1 + 1, a.2.2.1, a.2.2.2 ++ Bq.wireB 1 x)) else a
theorem acc_step {l : List WR} {k : Nat} (h : k < l.length) (q : Int) : accT q (accS l q k) l[k] = accS l q (k + 1) := by
  unfold accS accT
  rw [sel_step h q 2, sel_step h q 1]
  unfold kindq
  cases (toq l[k] == q) with
  | false => rfl
  | true =>
    cases isBq l[k] with
    | false => simp
    | true => simp
theorem pkt_nil {fr : Int} {l : List WR} (h : ∀ x ∈ l, badW fr x = false) (b : Int) : pktS fr l (0, b) = [] := by
  have : selq l 0 b = [] := by
    unfold selq
    rw [List.filter_eq_nil_iff]
    intro x hx hh
    have h1 := h x hx
    simp only [Bool.and_eq_true, beq_iff_eq] at hh
    unfold badW at h1
    rw [hh.1] at h1
    cases hz : (x.2.2.1 != fr) <;> simp [hz, nodeS] at h1
  unfold pktS
  dsimp only
  rw [this]
  rfl
abbrev seven : List Int := [1, 2, 3, 4, 5, 6, 7]
theorem seven_get : ∀ i : Fin 7, seven[i.1] = (i.1 : Int) + 1 := by decide
theorem pack_seven {fr : Int} {l : List WR} (h : ∀ x ∈ l, badW fr x = false) : packL fr l = seven.flatMap fun q => pktS fr l (q, 2) ++ pktS fr l (q, 1) := by
  unfold packL keysq seven
  simp only [List.flatMap_cons, pkt_nil h, List.nil_append, List.append_assoc, List.flatMap_nil]
theorem pkt_one (fr : Int) (l : List WR) (k : Int × Int) : (pktS fr l k).length ≤ 1 := by unfold pktS; cases (selq l k.1 k.2).isEmpty <;> simp
theorem two_len (fr : Int) (l : List WR) : ∀ s : List Int, (s.flatMap fun q => pktS fr l (q, 2) ++ pktS fr l (q, 1)).length ≤ s.length * 2
  | [] => by simp
  | q :: s => by
    have h1 := two_len fr l s
    have h2 := pkt_one fr l (q, 2)
    have h3 := pkt_one fr l (q, 1)
    rw [List.flatMap_cons, List.length_append, List.length_append, List.length_cons]
    omega
theorem p8_is (fr : Int) (l : List WR) (hl : l.length ≤ 1048576) (hw : ∀ x ∈ l, Bq.WrOk fu x) (hf : 1048576 < fu) : p8 fu (fr, l, ()) = some ((), (bif refS fr l == 0 then packL fr l else []), refS fr l, ()) := by
  unfold p8
  dsimp only
  simp only [p14_is, Option.bind_some]
  refine lp_fold l (fun i b => ((b, (i : Int), ()), ())) (fun b x => b && !badW fr x) (fun _ => ((), (bif refS fr l == 0 then packL fr l else []), refS fr l, ())) (nodeS fr) (fun i b => b = (nodeS fr && !(l.take i).any (badW fr))) (by simp) (by omega) (fun i h b hb => ⟨?_, by
    rw [hb, List.take_succ_eq_append_getElem h, List.any_append]
    cases nodeS fr <;> cases (l.take i).any (badW fr) <;> simp⟩) (fun b hb => ⟨?_, rfl⟩)
  · simp only [i5 h, i4 h, Int.toNat_natCast, i6 h, cond_true, gd_lt h, p15_is, Option.bind_some, iwr h hl, badW, toq, bne]
    generalize (l[i].2.2.1 == fr) = b1
    generalize nodeS l[i].2.2.2.1 = b2
    generalize (l[i].2.2.2.1 == fr) = b3
    generalize kindS l[i].2.1 = b4
    cases b1 <;> cases b2 <;> cases b3 <;> cases b4 <;> cases b <;> rfl
  rw [List.take_length] at hb
  simp only [iend, cond_false]
  cases b with
  | false =>
    have hz : refS fr l = 1 := by
      unfold refS
      cases h1 : nodeS fr with
      | false => rfl
      | true =>
        rw [h1] at hb
        have h2 : l.any (badW fr) = true := by
          cases h2 : l.any (badW fr) with
          | true => rfl
          | false => rw [h2] at hb; cases hb
        rw [h2]
        rfl
    rw [hz]
    rfl
  | true =>
  have h1 : nodeS fr = true := by
    cases h1 : nodeS fr with
    | true => rfl
    | false => rw [h1] at hb; cases hb
  rw [h1] at hb
  have h2 : l.any (badW fr) = false := by
    cases h2 : l.any (badW fr) with
    | false => rfl
    | true => rw [h2] at hb; cases hb
  have h2' : ∀ x ∈ l, badW fr x = false := fun x hx => by simpa using List.any_eq_false.1 h2 x hx
  simp only [Bool.not_true, cond_false]
  refine congrArg inrO (a₂ := some ((), (bif refS fr l == 0 then packL fr l else []), refS fr l, ())) ?_
  have hc : decide ((l.length : Int) > 4096) = decide (4096 < l.length) := decide_eq_decide.2 (by omega)
  rw [hc]
  refine lp_fold l (fun i b => ((b, (i : Int), ()), ())) (fun b x => bif b then true else muchS x) (fun _ => ((), (bif refS fr l == 0 then packL fr l else []), refS fr l, ())) (decide (4096 < l.length)) (fun i b => b = (decide (4096 < l.length) || (l.take i).any muchS)) (by simp) (by omega) (fun i h b hb => ⟨?_, by
    rw [hb, List.take_succ_eq_append_getElem h, List.any_append]
    cases decide (4096 < l.length) <;> cases (l.take i).any muchS <;> simp⟩) (fun b hb => ⟨?_, rfl⟩)
  · simp only [i5 h, i4 h, Int.toNat_natCast, i6 h, cond_true]
    simp only [gd_lt h]
    have := p16_is (fu := fu) l[i] (hw _ (List.getElem_mem h)).em hf
    unfold Bq.zOf at this
    rw [this]
    simp only [Option.bind_some, iwr h hl]
    cases b <;> rfl
  rw [List.take_length] at hb
  simp only [iend, cond_false]
  cases b with
  | true =>
    have hz : refS fr l = 2 := by
      unfold refS
      rw [h1, h2]
      simp only [Bool.not_true, cond_false]
      cases h3 : decide (4096 < l.length) with
      | true => rfl
      | false =>
        rw [h3] at hb
        have h4 : l.any muchS = true := by
          cases h4 : l.any muchS with
          | true => rfl
          | false => rw [h4] at hb; cases hb
        rw [h4]
        rfl
    rw [hz]
    rfl
  | false =>
  have h3 : l.length ≤ 4096 := by
    by_cases h3 : 4096 < l.length
    · rw [decide_eq_true h3] at hb; cases hb
    · omega
  rw [decide_eq_false (show ¬ 4096 < l.length by omega)] at hb
  have h4 : l.any muchS = false := by
    cases h4 : l.any muchS with
    | false => rfl
    | true => rw [h4] at hb; cases hb
  have h4' : ∀ x ∈ l, muchS x = false := fun x hx => by simpa using List.any_eq_false.1 h4 x hx
  have hz : refS fr l = 0 := ref_of h1 h2' h3 h4'
  rw [hz]
  simp only [beq_self_eq_true, cond_true, cond_false]
  refine congrArg inrO (a₂ := some ((), packL fr l, 0, ())) ?_
  rw [pack_seven h2']
  refine lp_fold seven (fun i b => ((b, (i : Int) + 1, ()), ())) (fun b q => b ++ (pktS fr l (q, 2) ++ pktS fr l (q, 1))) (fun b => ((), b, 0, ())) [] (fun i b => b = (seven.take i).flatMap fun q => pktS fr l (q, 2) ++ pktS fr l (q, 1)) rfl (by show 7 < fu; omega) (fun i h b hb => ⟨?_, by
    rw [hb, List.take_succ_eq_append_getElem h, List.flatMap_append]
    simp⟩) (fun b hb => ⟨?_, by rw [hb, List.take_length]⟩)
  · have h7 : i < 7 := h
    have hb' : b.length ≤ 14 := by
      have := two_len fr l (seven.take i)
      rw [← hb, List.length_take] at this
      have : min i seven.length ≤ 7 := by omega
      omega
    rw [show seven[i] = (i : Int) + 1 from seven_get ⟨i, h7⟩]
    have hq : decide ((i : Int) + 1 ≤ 7) = true := by simp; omega
    have hq2 : IntKind.wrap .i64 ((i : Int) + 1 + 1) = ((i + 1 : Nat) : Int) + 1 := by rw [wi64 (by omega) (by omega)]; omega
    simp only [hq, cond_true, hq2]
    clear hb hq hq2
    generalize (i : Int) + 1 = q
    generalize ((i + 1 : Nat) : Int) + 1 = q'
    refine lp_fold l (fun k (a : ACC) => ((a.1, a.2.1, a.2.2.1, a.2.2.2, (k : Int), ()), ())) (accT q) (fun _ => _) (accS l q 0) (fun k a => a = accS l q k) rfl (by omega) (fun k hk a ha => ⟨?_, by rw [ha, acc_step hk]⟩) (fun a ha => ⟨?_, rfl⟩)
    · subst ha
      have hk4 : k + 1 ≤ 4096 := by omega
      have s1 := sel_len l k q 2
      have s2 := sel_len l k q 1
      have s3 := sel_bound hw h4' h3 k q 2 2
      have s4 := sel_bound hw h4' h3 k q 1 1
      have hx := List.getElem_mem hk
      have hne : (l[k].2.2.2.1 != q) = !(toq l[k] == q) := rfl
      unfold accT accS
      simp only [i5 hk, i4 hk, Int.toNat_natCast, i6 hk, cond_true, decide_true]
      simp only [gd_lt hk]
      rw [hne]
      cases (toq l[k] == q) with
      | false => simp only [Bool.not_false, cond_true, cond_false, iwr hk hl]
      | true =>
      simp only [Bool.not_true, cond_true, cond_false]
      have c1 := p10_is (fu := fu) l[k] (hw _ hx) (much_dt (h4' _ hx))
      unfold Bq.zOf at c1
      rw [c1]
      simp only [Option.bind_some]
      have hwl := wireB_len (k := 2) (hw _ hx) (h4' _ hx)
      have hwl1 := wireB_len (k := 1) (hw _ hx) (h4' _ hx)
      cases isBq l[k] with
      | true =>
        have c2 := p17_is (hw _ hx) (fu := fu) (by omega)
        unfold Bq.zOf at c2
        simp only [cond_true]
        rw [c2]
        simp only [Option.bind_some]
        rw [okA (by omega)]
        have w1 : IntKind.wrap .i64 (((selq (l.take k) q 2).length : Int) + 1) = ((selq (l.take k) q 2).length : Int) + 1 := by rw [wi64 (by omega) (by omega)]
        simp only [cond_true, iwr hk hl, w1]
      | false =>
        have c2 := p18_is (hw _ hx) (h4' _ hx) (fu := fu) (by omega)
        unfold Bq.zOf at c2
        simp only [cond_false]
        rw [c2]
        simp only [Option.bind_some]
        rw [okA (by omega)]
        have w1 : IntKind.wrap .i64 (((selq (l.take k) q 1).length : Int) + 1) = ((selq (l.take k) q 1).length : Int) + 1 := by rw [wi64 (by omega) (by omega)]
        simp only [cond_true, iwr hk hl, w1]
    · subst ha
      have s1 := sel_len l l.length q 2
      have s2 := sel_len l l.length q 1
      have s3 := sel_bound hw h4' h3 l.length q 2 2
      have s4 := sel_bound hw h4' h3 l.length q 1 1
      unfold accS
      rw [List.take_length] at s1 s2 s3 s4 ⊢
      have hu := fun (n : Nat) (hn : n ≤ 4096) => (p19_is (fu := fu) (isU_len (n := n) (by omega)) (by omega))
      have hul := fun (n : Nat) (hn : n ≤ 4096) => uB_len (isU_len (n := n) (by omega))
      have u1 := hul _ (show (selq l q 2).length ≤ 4096 by omega)
      have u2 := hul _ (show (selq l q 1).length ≤ 4096 by omega)
      have g0 : ∀ m : List WR, decide ((m.length : Int) > 0) = !m.isEmpty := fun m => by cases m <;> simp
      simp only [iend, cond_false, decide_true, cond_true, g0]
      rw [wu_len (n := (selq l q 2).length) (by omega), wu_len (n := (selq l q 1).length) (by omega), hu _ (show (selq l q 2).length ≤ 4096 by omega), hu _ (show (selq l q 1).length ≤ 4096 by omega)]
      simp only [Option.bind_some]
      rw [okA (show (uB ((selq l q 2).length : Int)).length + ((selq l q 2).flatMap (Bq.wireB 2)).length ≤ 140737488355328 by omega), okA (show (uB ((selq l q 1).length : Int)).length + ((selq l q 1).flatMap (Bq.wireB 1)).length ≤ 140737488355328 by omega)]
      unfold pktS Bq.wrB
      dsimp only
      have r1 : ∀ o : List PKT, o.length ≤ 20 → (o.length + 1 ≤ maxLen ∧ (o.length + 1) * 48 ≤ 140737488355328) = True := fun o ho => room (by omega) (by decide)
      cases (selq l q 2).isEmpty with
      | true =>
        simp only [Bool.not_true, cond_true, cond_false, orK]
        cases (selq l q 1).isEmpty with
        | true => simp only [Bool.not_true, cond_true, cond_false, List.append_nil]; rfl
        | false => simp only [Bool.not_false, cond_true, cond_false, List.length_singleton, r1 b (by omega), decide_true, List.nil_append]; rfl
      | false =>
        simp only [Bool.not_false, cond_true, cond_false, List.length_singleton, r1 b (by omega), decide_true, orK]
        cases (selq l q 1).isEmpty with
        | true => simp only [Bool.not_true, cond_true, cond_false, List.append_nil]; rfl
        | false =>
          simp only [Bool.not_false, cond_true, cond_false]
          have r2 : ∀ X : PKT, ((b ++ [X]).length + 1 ≤ maxLen ∧ ((b ++ [X]).length + 1) * 48 ≤ 140737488355328) = True := fun X => r1 (b ++ [X]) (by simp; omega)
          simp only [r2, decide_true, cond_true, List.append_assoc, List.cons_append, List.nil_append]
          rfl
  · have hq : decide (((seven.length : Nat) : Int) + 1 ≤ 7) = false := by decide
    simp only [hq, cond_false, decide_true, cond_true]
    rfl
end
section
open Go.RowKit
variable {fu : Nat}
abbrev FU : Nat := 8388608
set_option maxRecDepth 100000 in
theorem p5_is : p5 FU () = some ((), true) := by decide +kernel
theorem p9_is (x : WR) : p9 fu (Bq.zOf x, ()) = some ((), isBq x) := isBq_is fu x
theorem p3_is (fr : Int) (l : List WR) (hl : l.length ≤ 1048576) (hw : ∀ x ∈ l, Bq.WrOk fu x) (hd : ∀ x ∈ l, List.length x.2.2.2.2.2.2.2.2.2.2.2.2.1 ≤ 1048576) (h5 : p5 fu () = some ((), true)) (hF : 1048576 < fu) : p3 fu (fr, l, ()) = some ((), true) := by
  have hp : pPack fu (fr, l, ()) = _ := pPack_is fr l hl hw hF
  unfold p3
  dsimp only
  rw [h5]
  simp only [Option.bind_some]
  rw [p7_is l hl hF]
  simp only [Option.bind_some, decide_true, cond_true]
  rw [hp, p8_is fr l hl hw hF]
  simp only [Option.bind_some]
  have hpl : (bif refS fr l == 0 then packL fr l else []).length ≤ 1048576 := by
    cases refS fr l == 0 with
    | false => exact Nat.zero_le _
    | true =>
      show (packL fr l).length ≤ _
      unfold packL
      have key : ∀ ks : List (Int × Int), (ks.flatMap (pktS fr l)).length ≤ ks.length := by
        intro ks
        induction ks with
        | nil => simp
        | cons k ks ih =>
          rw [List.flatMap_cons, List.length_append, List.length_cons]
          have : (pktS fr l k).length ≤ 1 := by unfold pktS; cases (selq l k.1 k.2).isEmpty <;> simp
          omega
      have : (keysq.flatMap (pktS fr l)).length ≤ 16 := key keysq
      omega
  generalize hP : (bif refS fr l == 0 then packL fr l else []) = P at hpl ⊢
  refine lp_any l (fun i => (((i : Int), ()), ())) (fun _ => false) ((), false) ((), true) (by omega) (fun i h => ?_) (fun _ => ?_) (by
    have : l.any (fun _ => false) = false := by simp
    rw [this]; rfl)
  · have c1 := p10_is (fu := fu) l[i] (hw _ (List.getElem_mem h)) (hd _ (List.getElem_mem h))
    have c2 := p9_is (fu := fu) l[i]
    unfold Bq.zOf at c1 c2
    simp only [i5 h, i4 h, Int.toNat_natCast, i6 h, cond_true, gd_lt h]
    rw [c1, c2]
    simp only [Option.bind_some, beq_self_eq_true, Bool.not_true, cond_false, iwr h hl]
  · simp only [iend, cond_false, beq_self_eq_true, cond_true]
    rw [p11_refl P hpl hF]
    rfl
end
end Go.Proofs.Ytahamggipcikgaa
