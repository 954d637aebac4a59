/-
  What the program writes.
-/
import Derived.Test.YtahamggipcikgaaDoorWqM
import Derived.Test.YtahamggipcikgaaDoorPtB
namespace Go.Proofs.YtahamggipcikgaaDoor.Bq
open Go.RowKit
variable {fu : Nat}
theorem p55_is {a : List Int} {v : Int} (hv : isU v) (ha : a.length + (uB v).length ≤ 140737488355328) (hfu : 10 < fu) : p55_1 fu ((a, ()), v, ()) = some (((a ++ uB v, ()), (), ()), ()) := by
  unfold p55_1
  simp only [decide_true, cond_true]
  refine loopO_eq (fun (s : (Int × Unit) × ((List Int × Unit) × Unit)) => isU s.1.1 ∧ s.2.1.1.length + (uB s.1.1).length ≤ 140737488355328) (fun s => (uB s.1.1).length) (fun s => (((s.2.1.1 ++ uB s.1.1, ()), (), ()), ())) ?_ fu _ ⟨hv, ha⟩ (Nat.lt_of_le_of_lt (uB_len hv) hfu)
  rintro ⟨⟨f, ⟨⟩⟩, ⟨⟨h, ⟨⟩⟩, ⟨⟩⟩⟩ ⟨⟨h0, h1⟩, h2⟩
  dsimp only at h0 h1 h2
  obtain ⟨n, rfl⟩ := Int.eq_ofNat_of_zero_le h0
  have e : uB ((n : Nat) : Int) = ub n := rfl
  simp only [e] at h2 ⊢
  by_cases hn : n < 128
  · right
    rw [ub_small hn] at h2 ⊢
    simp only [List.length_singleton] at h2
    have hw : IntKind.wrap .u8 (n : Int) = (n : Int) := wu8 (by omega) (by omega)
    have hl : h.length + 1 ≤ maxLen ∧ (h.length + 1) * 1 ≤ 140737488355328 := ⟨fits_top h2, by omega⟩
    have hge : ¬ ((n : Int) ≥ 128) := by omega
    simp only [hge, hw, hl, List.length_singleton, decide_false, decide_true, cond_false, cond_true, and_self, inrO, Option.map_some]
  · left
    rw [ub_big hn] at h2 ⊢
    simp only [List.length_cons] at h2
    have hl : h.length + 1 ≤ maxLen ∧ (h.length + 1) * 1 ≤ 140737488355328 := ⟨fits_top (by omega), by omega⟩
    refine ⟨((((n / 128 : Nat) : Int), ()), ((h ++ [((n % 128 + 128 : Nat) : Int)], ()), ())), ?_, ⟨⟨by dsimp only; omega, by dsimp only; omega⟩, ?_⟩, ?_, ?_⟩
    · have hge : (n : Int) ≥ 128 := by omega
      simp only [lowP, fdiv7, List.length_singleton, hl, hge, decide_true, cond_true, and_self]
    · show (h ++ [((n % 128 + 128 : Nat) : Int)]).length + (ub (n / 128)).length ≤ _
      simp only [List.length_append, List.length_singleton]
      omega
    · show (ub (n / 128)).length < _
      simp
    · show ((((h ++ [((n % 128 + 128 : Nat) : Int)]) ++ ub (n / 128), ()), (), ()), ()) = _
      simp
theorem p72_is {a : List Int} {c : Int} (hc : isI c) (ha : a.length + (iB c).length ≤ 140737488355328) (hfu : 10 < fu) : p72 fu ((a, ()), c, ()) = some (((a ++ iB c, ()), (), ()), ()) := by
  unfold p72
  simp only [decide_true, cond_true, zzP hc]
  rw [p55_is (zz_u hc) ha hfu]
  simp only [Option.bind_some]
  rfl
theorem p71_is {a : List Int} {b : Bool} (ha : a.length + 1 ≤ 140737488355328) : p71 fu ((a, ()), b, ()) = some (((a ++ bB b, ()), (), ()), ()) := by
  unfold p71
  cases b <;> simp only [decide_true, cond_true, cond_false, List.length_singleton, fits2 ha] <;> rfl
theorem p75_is {a l : List Int} (ha : a.length + (tB l).length ≤ 140737488355328) (hfu : 10 < fu) : p75 fu ((a, ()), l, ()) = some (((a ++ tB l, ()), (), ()), ()) := by
  unfold tB at ha
  rw [List.length_append] at ha
  unfold p75
  simp only [decide_true, cond_true]
  rw [wu_len (by omega), p55_is (isU_len (by omega)) (by omega) hfu]
  have h2 : (a ++ uB (l.length : Int)).length + l.length ≤ 140737488355328 := by rw [List.length_append]; omega
  simp only [Option.bind_some, decide_true, cond_true, fits2 h2, tB, List.append_assoc]
theorem p81_is {a l : List Int} (hl : ∀ x ∈ l, isI x) (ha : a.length + (nB l).length ≤ 140737488355328) (hll : l.length ≤ 140737488355328) (hfu : 10 < fu) (hf2 : l.length < fu) : p81 fu ((a, ()), l, ()) = some (((a ++ nB l, ()), (), ()), ()) := by
  unfold nB at ha
  rw [List.length_append] at ha
  unfold p81
  simp only [decide_true, cond_true]
  rw [wu_len hll, p55_is (isU_len hll) (by omega) hfu]
  simp only [Option.bind_some]
  refine loopO_eq (fun (s : (Int × Unit) × ((List Int × Unit) × Unit)) => ∃ k : Nat, k ≤ l.length ∧ s = (((k : Int), ()), (((a ++ uB (l.length : Int)) ++ (l.take k).flatMap iB, ()), ()))) (fun s => l.length - s.1.1.toNat) (fun _ => (((a ++ nB l, ()), (), ()), ())) ?_ fu _ ⟨0, Nat.zero_le _, by simp⟩ (by dsimp only; omega)
  rintro _ ⟨k, hk, rfl⟩
  by_cases hlt : k < l.length
  · left
    refine ⟨_, ?_, ⟨k + 1, hlt, rfl⟩, ?_, rfl⟩
    · have e1 : decide ((k : Int) < (l.length : Int)) = true := by simpa using hlt
      have e2 : decide ((0 : Int) ≤ (k : Int) ∧ (k : Int) < (l.length : Int)) = true := by simp; omega
      have e3 : decide (k < l.length) = true := by simpa using hlt
      have hb := flat_le hlt
      have hw : IntKind.wrap .i64 ((k : Int) + 1) = ((k + 1 : Nat) : Int) := by rw [wi64 (by omega) (by omega)]; omega
      simp only [e1, e2, Int.toNat_natCast, e3, cond_true]
      rw [show l.getD k (dflt (.int .i64)) = l.getD k 0 from rfl, p72_is (getD_isI hl hlt) (by first | omega | (simp only [List.length_append]; omega)) hfu]
      simp only [Option.bind_some, hw, take_flat hlt, List.append_assoc]
    · dsimp only
      omega
  · right
    have hkl : k = l.length := by omega
    subst hkl
    have e1 : decide ((l.length : Int) < (l.length : Int)) = false := by simp
    simp only [e1, cond_false, inrO, Option.map_some, List.take_length, nB, List.append_assoc]
theorem p74_is {a v l : List Int} (hc : confOk fu v l) (ha : a.length + (cB v l).length ≤ 140737488355328) (hfu : 10 < fu) : p74 fu ((a, ()), (v, l, ()), ()) = some (((a ++ cB v l, ()), (), ()), ()) := by
  have h1 := hc.la
  have h2 := hc.lb
  simp only [cB, List.length_append] at ha
  unfold p74
  simp only [decide_true, cond_true]
  rw [p81_is hc.ha (by omega) (by omega) hfu hc.fa]
  simp only [Option.bind_some]
  rw [p81_is hc.hb (by first | omega | (simp only [List.length_append]; omega)) (by omega) hfu hc.fb]
  simp only [Option.bind_some, cB, List.append_assoc]
theorem p73_is {a : List Int} {i t k : Int} {d v l : List Int} (hi : isU i) (ht : isU t) (hk : isI k) (hc : confOk fu v l) (ha : a.length + (eB i t k d v l).length ≤ 140737488355328) (hfu : 10 < fu) : p73 fu ((a, ()), (i, t, k, d, v, l, ()), ()) = some (((a ++ eB i t k d v l, ()), (), ()), ()) := by
  simp only [eB, List.length_append] at ha
  unfold p73
  simp only [decide_true, cond_true]
  rw [p55_is hi (by first | omega | (simp only [List.length_append]; omega)) hfu]
  simp only [Option.bind_some]
  rw [p55_is ht (by first | omega | (simp only [List.length_append]; omega)) hfu]
  simp only [Option.bind_some]
  rw [p72_is hk (by first | omega | (simp only [List.length_append]; omega)) hfu]
  simp only [Option.bind_some]
  rw [p75_is (by first | omega | (simp only [List.length_append]; omega)) hfu]
  simp only [Option.bind_some]
  rw [p74_is hc (by first | omega | (simp only [List.length_append]; omega)) hfu]
  simp only [Option.bind_some, eB, List.append_assoc]
theorem tk_flat {α : Type} (f : α → List Int) (d : α) {l : List α} {i : Nat} (h : i < l.length) : (l.take (i + 1)).flatMap f = (l.take i).flatMap f ++ f (l.getD i d) := by
  have e : l.getD i d = l[i] := by simp [h]
  rw [List.take_succ_eq_append_getElem h, List.flatMap_append, e]
  simp
theorem fl_le {α : Type} (f : α → List Int) (d : α) {l : List α} {i : Nat} (h : i < l.length) : ((l.take i).flatMap f).length + (f (l.getD i d)).length ≤ (l.flatMap f).length := by
  have e : l.flatMap f = (l.take (i + 1)).flatMap f ++ (l.drop (i + 1)).flatMap f := by rw [← List.flatMap_append, List.take_append_drop]
  rw [e, tk_flat f d h]
  simp only [List.length_append]
  omega
abbrev ENT := den T_api_Entry
def entB (y : ENT) : List Int := eB y.1 y.2.1 y.2.2.1 y.2.2.2.1 y.2.2.2.2.1 y.2.2.2.2.2
abbrev WRq := den T_beats_Wire
def zOf (x : WRq) : Z0 := (x.2.1, x.2.2.1, x.2.2.2.1, x.2.2.2.2.1, x.2.2.2.2.2.1, x.2.2.2.2.2.2.1, x.2.2.2.2.2.2.2.1, x.2.2.2.2.2.2.2.2.1, x.2.2.2.2.2.2.2.2.2.1, x.2.2.2.2.2.2.2.2.2.2.1, x.2.2.2.2.2.2.2.2.2.2.2.1.1, x.2.2.2.2.2.2.2.2.2.2.2.1.2, x.2.2.2.2.2.2.2.2.2.2.2.2.1, x.2.2.2.2.2.2.2.2.2.2.2.2.2, ())
def beatB (x : WRq) : List Int := bB (x.2.1 == 6) ++ (uB x.2.2.2.2.1 ++ (uB x.2.2.2.2.2.1 ++ (bif (x.2.1 : Int) == 6 then [] else uB x.2.2.2.2.2.2.1 ++ uB x.2.2.2.2.2.2.2.2.1)))
def msgB (x : WRq) : List Int := iB x.2.1 ++ (uB x.2.2.2.2.1 ++ (uB x.2.2.2.2.2.1 ++ (uB x.2.2.2.2.2.2.1 ++ (uB (List.length x.2.2.2.2.2.2.2.1 : Int) ++ (List.flatMap entB x.2.2.2.2.2.2.2.1 ++ (uB x.2.2.2.2.2.2.2.2.1 ++ (bB x.2.2.2.2.2.2.2.2.2.1 ++ (uB x.2.2.2.2.2.2.2.2.2.2.1 ++ (cB x.2.2.2.2.2.2.2.2.2.2.2.1.1 x.2.2.2.2.2.2.2.2.2.2.2.1.2 ++ (tB x.2.2.2.2.2.2.2.2.2.2.2.2.1 ++ bB x.2.2.2.2.2.2.2.2.2.2.2.2.2))))))))))
def wireB (k : Int) (x : WRq) : List Int := uB x.1 ++ bif k == 2 then beatB x else msgB x
def wrB (k : Int) (l : List WRq) : List Int := uB (l.length : Int) ++ l.flatMap (wireB k)
structure EntOk (fu : Nat) (y : ENT) : Prop where
  i : isU y.1
  t : isU y.2.1
  k : isI y.2.2.1
  c : confOk fu y.2.2.2.2.1 y.2.2.2.2.2
structure WrOk (fu : Nat) (x : WRq) : Prop where
  g : isU x.1
  k : isI x.2.1
  t : isU x.2.2.2.2.1
  i : isU x.2.2.2.2.2.1
  l : isU x.2.2.2.2.2.2.1
  e : ∀ y ∈ (x.2.2.2.2.2.2.2.1 : List ENT), EntOk fu y
  el : List.length x.2.2.2.2.2.2.2.1 < fu
  em : List.length x.2.2.2.2.2.2.2.1 ≤ 1048576
  c : isU x.2.2.2.2.2.2.2.2.1
  h : isU x.2.2.2.2.2.2.2.2.2.2.1
  cf : confOk fu x.2.2.2.2.2.2.2.2.2.2.2.1.1 x.2.2.2.2.2.2.2.2.2.2.2.1.2
theorem bB_len (b : Bool) : (bB b).length = 1 := by cases b <;> rfl
theorem p55n_is {v : Int} (hv : isU v) (hfu : 10 < fu) : p55 fu (((), ()), v, ()) = some (((uB v, ()), ()), ()) := by
  unfold p55
  have h10 := uB_len hv
  refine loopO_eq (fun (s : (Int × Unit) × ((List Int × Unit) × Unit)) => isU s.1.1 ∧ s.2.1.1.length + (uB s.1.1).length ≤ 140737488355328) (fun s => (uB s.1.1).length) (fun s => (((s.2.1.1 ++ uB s.1.1, ()), ()), ())) ?_ fu _ ⟨hv, by simp; omega⟩ (Nat.lt_of_le_of_lt h10 hfu)
  rintro ⟨⟨f, ⟨⟩⟩, ⟨⟨h, ⟨⟩⟩, ⟨⟩⟩⟩ ⟨⟨h0, h1⟩, h2⟩
  dsimp only at h0 h1 h2
  obtain ⟨n, rfl⟩ := Int.eq_ofNat_of_zero_le h0
  have e : uB ((n : Nat) : Int) = ub n := rfl
  simp only [e] at h2 ⊢
  by_cases hn : n < 128
  · right
    rw [ub_small hn] at h2 ⊢
    simp only [List.length_singleton] at h2
    have hw : IntKind.wrap .u8 (n : Int) = (n : Int) := wu8 (by omega) (by omega)
    have hl : h.length + 1 ≤ maxLen ∧ (h.length + 1) * 1 ≤ 140737488355328 := ⟨fits_top h2, by omega⟩
    have hge : ¬ ((n : Int) ≥ 128) := by omega
    simp only [hge, hw, hl, List.length_singleton, decide_false, decide_true, cond_false, cond_true, and_self, inrO, Option.map_some]
  · left
    rw [ub_big hn] at h2 ⊢
    simp only [List.length_cons] at h2
    have hl : h.length + 1 ≤ maxLen ∧ (h.length + 1) * 1 ≤ 140737488355328 := ⟨fits_top (by omega), by omega⟩
    refine ⟨((((n / 128 : Nat) : Int), ()), ((h ++ [((n % 128 + 128 : Nat) : Int)], ()), ())), ?_, ⟨⟨by dsimp only; omega, by dsimp only; omega⟩, ?_⟩, ?_, ?_⟩
    · have hge : (n : Int) ≥ 128 := by omega
      simp only [lowP, fdiv7, List.length_singleton, hl, hge, decide_true, cond_true, and_self]
    · show (h ++ [((n % 128 + 128 : Nat) : Int)]).length + (ub (n / 128)).length ≤ _
      simp only [List.length_append, List.length_singleton]
      omega
    · show (ub (n / 128)).length < _
      simp
    · show ((((h ++ [((n % 128 + 128 : Nat) : Int)]) ++ ub (n / 128), ()), ()), ()) = _
      simp
theorem p56_is {a : List Int} {x : WRq} (h : WrOk fu x) (ha : a.length + (beatB x).length ≤ 140737488355328) (hfu : 10 < fu) : p56 fu ((a, ()), zOf x, ()) = some (((a ++ beatB x, ()), (), ()), ()) := by
  unfold beatB at ha ⊢
  simp only [List.length_append, bB_len] at ha
  unfold p56 zOf
  simp only [decide_true, cond_true]
  rw [p71_is (by omega)]
  simp only [Option.bind_some]
  rw [p55_is h.t (by simp only [List.length_append, bB_len]; omega) hfu]
  simp only [Option.bind_some]
  rw [p55_is h.i (by simp only [List.length_append, bB_len]; omega) hfu]
  simp only [Option.bind_some]
  cases hk : (x.2.1 == (6 : Int)) with
  | true => simp only [Bool.not_true, cond_false, cond_true, List.append_assoc, List.append_nil]
  | false =>
    rw [hk] at ha
    simp only [cond_false, List.length_append] at ha
    simp only [Bool.not_false, cond_true]
    rw [p55_is h.l (by simp only [List.length_append, bB_len]; omega) hfu]
    simp only [Option.bind_some]
    rw [p55_is h.c (by simp only [List.length_append, bB_len]; omega) hfu]
    simp only [Option.bind_some, cond_false, List.append_assoc]
theorem p57_is {a : List Int} {x : WRq} (h : WrOk fu x) (ha : a.length + (msgB x).length ≤ 140737488355328) (hfu : 10 < fu) : p57 fu ((a, ()), zOf x, ()) = some (((a ++ msgB x, ()), (), ()), ()) := by
  obtain ⟨g, kd, fr, to, t, i, lt, l, c, rj, hn, ⟨cv, cl⟩, dt, dn⟩ := x
  obtain ⟨hg, hk, ht, hi, hlt, he, hel, hem, hc, hh, hcf⟩ := h
  dsimp only at hg hk ht hi hlt he hel hem hc hh hcf
  unfold msgB at ha ⊢
  simp only [List.length_append, bB_len] at ha
  unfold p57 zOf
  dsimp only
  simp only [decide_true, cond_true]
  rw [p72_is hk (by omega) hfu]
  simp only [Option.bind_some]
  rw [p55_is ht (by simp only [List.length_append]; omega) hfu]
  simp only [Option.bind_some]
  rw [p55_is hi (by simp only [List.length_append]; omega) hfu]
  simp only [Option.bind_some]
  rw [p55_is hlt (by simp only [List.length_append]; omega) hfu]
  simp only [Option.bind_some]
  rw [wu_len (by omega), p55_is (isU_len (by omega)) (by simp only [List.length_append]; omega) hfu]
  simp only [Option.bind_some]
  refine loopO_eq (fun (s : (Int × Unit) × ((List Int × Unit) × Unit)) => ∃ k : Nat, k ≤ List.length l ∧ s = (((k : Int), ()), ((a ++ iB kd ++ uB t ++ uB i ++ uB lt ++ uB (List.length l : Int) ++ (List.take k l).flatMap entB, ()), ()))) (fun s => List.length l - s.1.1.toNat) (fun _ => _) ?_ fu _ ⟨0, Nat.zero_le _, by simp⟩ (by dsimp only; omega)
  rintro _ ⟨k, hk, rfl⟩
  by_cases hlt : k < List.length l
  · left
    refine ⟨_, ?_, ⟨k + 1, hlt, rfl⟩, ?_, rfl⟩
    · have e1 : decide ((k : Int) < (List.length l : Int)) = true := by simpa using hlt
      have e2 : decide ((0 : Int) ≤ (k : Int) ∧ (k : Int) < (List.length l : Int)) = true := by simp; omega
      have e3 : decide (k < List.length l) = true := by simpa using hlt
      have hb := fl_le entB (dflt T_api_Entry) hlt
      have hw : IntKind.wrap .i64 ((k : Int) + 1) = ((k + 1 : Nat) : Int) := by rw [wi64 (by omega) (by omega)]; omega
      simp only [e1, e2, Int.toNat_natCast, e3, cond_true]
      have hm : (List.getD l k (dflt T_api_Entry)) ∈ l := by rw [List.getD_eq_getElem?_getD, List.getElem?_eq_getElem hlt]; exact List.getElem_mem hlt
      obtain ⟨o1, o2, o3, o4⟩ := he _ hm
      have q := p73_is (fu := fu) (a := a ++ iB kd ++ uB t ++ uB i ++ uB lt ++ uB (List.length l : Int) ++ (List.take k l).flatMap entB) (d := (List.getD l k (dflt T_api_Entry)).2.2.2.1) o1 o2 o3 o4 (by
        have : (eB (List.getD l k (dflt T_api_Entry)).1 (List.getD l k (dflt T_api_Entry)).2.1 (List.getD l k (dflt T_api_Entry)).2.2.1 (List.getD l k (dflt T_api_Entry)).2.2.2.1 (List.getD l k (dflt T_api_Entry)).2.2.2.2.1 (List.getD l k (dflt T_api_Entry)).2.2.2.2.2) = entB (List.getD l k (dflt T_api_Entry)) := rfl
        rw [this]
        simp only [List.length_append]
        omega) hfu
      rw [q]
      simp only [Option.bind_some, hw, tk_flat entB (dflt T_api_Entry) hlt, List.append_assoc]
      rfl
    · dsimp only
      omega
  · right
    have hkl : k = List.length l := by omega
    subst hkl
    have e1 : decide ((List.length l : Int) < (List.length l : Int)) = false := by simp
    simp only [e1, cond_false, List.take_length]
    rw [p55_is hc (by simp only [List.length_append]; omega) hfu]
    simp only [Option.bind_some]
    rw [p71_is (by simp only [List.length_append]; omega)]
    simp only [Option.bind_some]
    rw [p55_is hh (by simp only [List.length_append, bB_len]; omega) hfu]
    simp only [Option.bind_some]
    rw [p74_is hcf (by simp only [List.length_append, bB_len]; omega) hfu]
    simp only [Option.bind_some]
    rw [p75_is (by simp only [List.length_append, bB_len]; omega) hfu]
    simp only [Option.bind_some]
    rw [p71_is (by simp only [List.length_append, bB_len]; omega)]
    simp only [Option.bind_some, inrO, Option.map_some, List.append_assoc]
theorem p33_is {k : Int} {l : List WRq} (h : ∀ x ∈ l, WrOk fu x) (hl : l.length ≤ 1048576) (hf : l.length < fu) (ha : (wrB k l).length ≤ 140737488355328) (hfu : 10 < fu) : p33 fu (k, l, ()) = some ((), wrB k l) := by
  unfold wrB at ha
  rw [List.length_append] at ha
  unfold p33
  dsimp only
  rw [wu_len (by omega), p55n_is (isU_len (by omega)) hfu]
  simp only [Option.bind_some, decide_true, cond_true]
  refine loopO_eq (fun (s : (Int × Unit) × ((List Int × Unit) × Unit)) => ∃ j : Nat, j ≤ l.length ∧ s = (((j : Int), ()), ((uB (l.length : Int) ++ (l.take j).flatMap (wireB k), ()), ()))) (fun s => l.length - s.1.1.toNat) (fun _ => ((), wrB k l)) ?_ fu _ ⟨0, Nat.zero_le _, by simp⟩ (by dsimp only; omega)
  rintro _ ⟨j, hj, rfl⟩
  by_cases hlt : j < l.length
  · left
    refine ⟨_, ?_, ⟨j + 1, hlt, rfl⟩, ?_, rfl⟩
    · have e1 : decide ((j : Int) < (l.length : Int)) = true := by simpa using hlt
      have e2 : decide ((0 : Int) ≤ (j : Int) ∧ (j : Int) < (l.length : Int)) = true := by simp; omega
      have e3 : decide (j < l.length) = true := by simpa using hlt
      have hb := fl_le (wireB k) (dflt T_beats_Wire) hlt
      have hw : IntKind.wrap .i64 ((j : Int) + 1) = ((j + 1 : Nat) : Int) := by rw [wi64 (by omega) (by omega)]; omega
      simp only [e1, e2, Int.toNat_natCast, e3, cond_true]
      have hm : (List.getD l j (dflt T_beats_Wire)) ∈ l := by rw [List.getD_eq_getElem?_getD, List.getElem?_eq_getElem hlt]; exact List.getElem_mem hlt
      have ok := h _ hm
      rw [tk_flat (wireB k) (dflt T_beats_Wire) hlt]
      generalize List.getD l j (dflt T_beats_Wire) = x at ok hb ⊢
      have hz : (x.2.1, x.2.2.1, x.2.2.2.1, x.2.2.2.2.1, x.2.2.2.2.2.1, x.2.2.2.2.2.2.1, x.2.2.2.2.2.2.2.1, x.2.2.2.2.2.2.2.2.1, x.2.2.2.2.2.2.2.2.2.1, x.2.2.2.2.2.2.2.2.2.2.1, x.2.2.2.2.2.2.2.2.2.2.2.1.1, x.2.2.2.2.2.2.2.2.2.2.2.1.2, x.2.2.2.2.2.2.2.2.2.2.2.2.1, x.2.2.2.2.2.2.2.2.2.2.2.2.2, ()) = zOf x := rfl
      have hwx : wireB k x = uB x.1 ++ bif k == 2 then beatB x else msgB x := rfl
      rw [hwx] at hb ⊢
      rw [List.length_append] at hb
      rw [p55_is ok.g (by simp only [List.length_append]; omega) hfu]
      simp only [Option.bind_some]
      cases hk : (k == (2 : Int)) with
      | true =>
        rw [hk] at hb
        simp only [cond_true] at hb
        simp only [cond_true]
        rw [hz, p56_is ok (by simp only [List.length_append]; omega) hfu]
        simp only [Option.bind_some, hw, List.append_assoc]
      | false =>
        rw [hk] at hb
        simp only [cond_false] at hb
        simp only [cond_false]
        rw [hz, p57_is ok (by simp only [List.length_append]; omega) hfu]
        simp only [Option.bind_some, hw, List.append_assoc]
    · dsimp only
      omega
  · right
    have hkl : j = l.length := by omega
    subst hkl
    have e1 : decide ((l.length : Int) < (l.length : Int)) = false := by simp
    have hm : (uB (l.length : Int) ++ l.flatMap (wireB k)).length ≤ maxLen ∧ (uB (l.length : Int) ++ l.flatMap (wireB k)).length * 1 ≤ 140737488355328 := by rw [List.length_append]; exact ⟨fits_top ha, by omega⟩
    simp only [e1, cond_false, decide_true, cond_true, List.take_length, p58]
    rw [decide_eq_true hm]
    simp only [cond_true, Option.bind_some, inrO, Option.map_some, wrB]
end Go.Proofs.YtahamggipcikgaaDoor.Bq
