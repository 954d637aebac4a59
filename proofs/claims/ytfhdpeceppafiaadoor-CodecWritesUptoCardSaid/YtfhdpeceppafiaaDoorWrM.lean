/-
  What writes numbers, as the program does, and as the document says.
-/
import Derived.Test.YtfhdpeceppafiaaDoorWrA
import Derived.Test.YtfhdpeceppafiaaDoorPtW
namespace Go.Proofs.YtfhdpeceppafiaaDoor
open Go.RowKit
section
variable {fu : Nat}
def top : Nat := 140737488355328
theorem fits_top {n : Nat} (h : n ≤ 140737488355328) : n ≤ maxLen := Nat.le_trans h (by decide)
theorem p34_is {a : List Int} {v : Int} (hv : isU v) (ha : a.length + (uB v).length ≤ 140737488355328) (hfu : 10 < fu) : p34_1 fu ((a, ()), v, ()) = some (((a ++ uB v, ()), (), ()), ()) := by
  unfold p34_1
  simp only [decide_true, cond_true]
  refine loopO_eq (fun (s : (Int × Unit) × ((List Int × Unit) × Unit)) => isU s.1.1 ∧ s.2.1.1.length + (uB s.1.1).length ≤ 140737488355328) (fun s => (uB s.1.1).length) (fun s => (((s.2.1.1 ++ uB s.1.1, ()), (), ()), ())) ?_ fu _ ⟨hv, ha⟩ (Nat.lt_of_le_of_lt (uB_len hv) hfu)
  rintro ⟨⟨f, ⟨⟩⟩, ⟨⟨h, ⟨⟩⟩, ⟨⟩⟩⟩ ⟨⟨h0, h1⟩, h2⟩
  dsimp only at h0 h1 h2
  obtain ⟨n, rfl⟩ := Int.eq_ofNat_of_zero_le h0
  have e : uB ((n : Nat) : Int) = ub n := rfl
  simp only [e] at h2 ⊢
  by_cases hn : n < 128
  · right
    rw [ub_small hn] at h2 ⊢
    simp only [List.length_singleton] at h2
    have hw : IntKind.wrap .u8 (n : Int) = (n : Int) := wu8 (by omega) (by omega)
    have hl : h.length + 1 ≤ maxLen ∧ (h.length + 1) * 1 ≤ 140737488355328 := ⟨fits_top h2, by omega⟩
    have hge : ¬ ((n : Int) ≥ 128) := by omega
    simp only [hge, hw, hl, List.length_singleton, decide_false, decide_true, cond_false, cond_true, and_self, inrO, Option.map_some]
  · left
    rw [ub_big hn] at h2 ⊢
    simp only [List.length_cons] at h2
    have hl : h.length + 1 ≤ maxLen ∧ (h.length + 1) * 1 ≤ 140737488355328 := ⟨fits_top (by omega), by omega⟩
    refine ⟨((((n / 128 : Nat) : Int), ()), ((h ++ [((n % 128 + 128 : Nat) : Int)], ()), ())), ?_, ⟨⟨by dsimp only; omega, by dsimp only; omega⟩, ?_⟩, ?_, ?_⟩
    · have hge : (n : Int) ≥ 128 := by omega
      simp only [lowP, fdiv7, List.length_singleton, hl, hge, decide_true, cond_true, and_self]
    · show (h ++ [((n % 128 + 128 : Nat) : Int)]).length + (ub (n / 128)).length ≤ _
      simp only [List.length_append, List.length_singleton]
      omega
    · show (ub (n / 128)).length < _
      simp
    · show ((((h ++ [((n % 128 + 128 : Nat) : Int)]) ++ ub (n / 128), ()), (), ()), ()) = _
      simp
theorem p52_is {v : Int} (hv : isU v) (hfu : 10 < fu) : p52 fu (v, ()) = some ((), uB v) := by
  unfold p52
  have h10 := uB_len hv
  refine loopO_eq (fun (s : (Int × List Int × Unit) × Unit) => isU s.1.1 ∧ s.1.2.1.length + (uB s.1.1).length ≤ 10) (fun s => (uB s.1.1).length) (fun s => ((), s.1.2.1 ++ uB s.1.1)) ?_ fu ((v, [], ()), ()) ⟨hv, by simpa using h10⟩ (Nat.lt_of_le_of_lt h10 hfu)
  rintro ⟨⟨f, h, ⟨⟩⟩, ⟨⟩⟩ ⟨⟨h0, h1⟩, h2⟩
  dsimp only at h0 h1 h2
  obtain ⟨n, rfl⟩ := Int.eq_ofNat_of_zero_le h0
  have e : uB ((n : Nat) : Int) = ub n := rfl
  simp only [e] at h2 ⊢
  by_cases hn : n < 128
  · right
    rw [ub_small hn] at h2 ⊢
    simp only [List.length_singleton] at h2
    have hw : IntKind.wrap .u8 (n : Int) = (n : Int) := wu8 (by omega) (by omega)
    have hl : h.length + 1 ≤ maxLen ∧ (h.length + 1) * 1 ≤ 140737488355328 := ⟨fits_top (by omega), by omega⟩
    have hge : ¬ ((n : Int) ≥ 128) := by omega
    simp only [hge, hw, hl, List.length_singleton, decide_false, decide_true, cond_false, cond_true, and_self, inrO, Option.map_some]
  · left
    rw [ub_big hn] at h2 ⊢
    simp only [List.length_cons] at h2
    have hl : h.length + 1 ≤ maxLen ∧ (h.length + 1) * 1 ≤ 140737488355328 := ⟨fits_top (by omega), by omega⟩
    refine ⟨((((n / 128 : Nat) : Int), h ++ [((n % 128 + 128 : Nat) : Int)], ()), ()), ?_, ⟨⟨by dsimp only; omega, by dsimp only; omega⟩, ?_⟩, ?_, ?_⟩
    · have hge : (n : Int) ≥ 128 := by omega
      simp only [lowR n (by omega), fdiv7, List.length_singleton, hl, hge, decide_true, cond_true, and_self]
    · show (h ++ [((n % 128 + 128 : Nat) : Int)]).length + (ub (n / 128)).length ≤ _
      simp only [List.length_append, List.length_singleton]
      omega
    · show (ub (n / 128)).length < _
      simp
    · show ((), (h ++ [((n % 128 + 128 : Nat) : Int)]) ++ ub (n / 128)) = _
      simp
end
section
variable {fu : Nat}
def cB (a b : List Int) : List Int := nB a ++ nB b
def eB (i t k : Int) (d a b : List Int) : List Int := uB i ++ (uB t ++ (iB k ++ (tB d ++ cB a b)))
def sB (i t : Int) (a b d : List Int) : List Int := uB i ++ (uB t ++ (cB a b ++ tB d))
def gB (lo hi : ByteArray) : List Int := tB (numsOf lo) ++ tB (numsOf hi)
def rB (o : Int) (k : ByteArray) (v : List Int) (p s : Int) : List Int := uB o ++ (tB (numsOf k) ++ (tB v ++ (uB p ++ uB s)))
def bB (b : Bool) : List Int := if b then [1] else [0]
theorem numsOf_len (s : ByteArray) : (numsOf s).length = s.size := by unfold numsOf; rw [List.length_map]; rfl
theorem isU_len {n : Nat} (h : n ≤ 140737488355328) : isU (n : Int) := ⟨by omega, by omega⟩
theorem wu_len {n : Nat} (h : n ≤ 140737488355328) : IntKind.wrap .u64 (n : Int) = (n : Int) := wu64 (by omega) (by omega)
/-- As much as may be written. -/
def fitsT (n : Nat) : Prop := n ≤ 140737488355328
theorem fits2 {n : Nat} (h : n ≤ 140737488355328) : (n ≤ maxLen ∧ n * 1 ≤ 140737488355328) = True := eq_true ⟨fits_top h, by omega⟩
theorem fits3 {n : Nat} (h : n ≤ 140737488355328) : (n ≤ maxLen ∧ n ≤ 140737488355328) = True := eq_true ⟨fits_top h, h⟩
theorem p37_is {a : List Int} {c : Int} (hc : isI c) (ha : a.length + (iB c).length ≤ 140737488355328) (hfu : 10 < fu) : p37_1 fu ((a, ()), c, ()) = some (((a ++ iB c, ()), (), ()), ()) := by
  unfold p37_1
  simp only [decide_true, cond_true, zzP hc]
  rw [p34_is (zz_u hc) ha hfu]
  simp only [Option.bind_some, decide_true, cond_true]
  rfl
theorem p53_is {c : Int} (hc : isI c) (hfu : 10 < fu) : p53 fu (c, ()) = some ((), iB c) := by
  unfold p53
  by_cases h : c < 0
  · simp only [h, decide_true, cond_true, zzN hc h]
    rw [p52_is (zz_u hc) hfu]
    simp only [Option.bind_some, decide_true, cond_true]
    rfl
  · simp only [h, decide_false, cond_false, zzQ hc h]
    rw [p52_is (zz_u hc) hfu]
    simp only [Option.bind_some, decide_true, cond_true]
    rfl
theorem p54_is {a : List Int} {b : Bool} (ha : a.length + 1 ≤ 140737488355328) : p54_1 fu ((a, ()), b, ()) = some (((a ++ bB b, ()), (), ()), ()) := by
  unfold p54_1
  cases b <;> simp only [decide_true, cond_true, cond_false, List.length_singleton, fits2 ha] <;> rfl
theorem p55_is {b : Bool} : p55 fu (b, ()) = some ((), bB b) := by
  cases b <;> rfl
theorem p36_is {a l : List Int} (ha : a.length + (tB l).length ≤ 140737488355328) (hfu : 10 < fu) : p36_1 fu ((a, ()), l, ()) = some (((a ++ tB l, ()), (), ()), ()) := by
  unfold tB at ha
  rw [List.length_append] at ha
  unfold p36_1
  simp only [decide_true, cond_true]
  rw [wu_len (by omega), p34_is (isU_len (by omega)) (by omega) hfu]
  have h2 : (a ++ uB (l.length : Int)).length + l.length ≤ 140737488355328 := by rw [List.length_append]; omega
  simp only [Option.bind_some, decide_true, cond_true, fits2 h2, tB, List.append_assoc]
theorem p35_is {a : List Int} {s : ByteArray} (ha : a.length + (tB (numsOf s)).length ≤ 140737488355328) (hfu : 10 < fu) : p35 fu ((a, ()), s, ()) = some (((a ++ tB (numsOf s), ()), (), ()), ()) := by
  unfold tB at ha
  rw [List.length_append, numsOf_len] at ha
  unfold p35
  simp only [decide_true, cond_true]
  rw [wu_len (by omega), p34_is (isU_len (by omega)) (by omega) hfu]
  have h2 : (a ++ uB (s.size : Int)).length + s.size ≤ 140737488355328 := by rw [List.length_append]; omega
  simp only [Option.bind_some, decide_true, cond_true, fits3 h2, tB, List.append_assoc, numsOf_len]
theorem p56_is {l : List Int} (ha : (tB l).length ≤ 140737488355328) (hfu : 10 < fu) : p56 fu (l, ()) = some ((), tB l) := by
  unfold tB at ha
  rw [List.length_append] at ha
  unfold p56
  dsimp only
  rw [wu_len (by omega), p52_is (isU_len (by omega)) hfu]
  simp only [Option.bind_some, decide_true, cond_true, fits2 ha, tB]
theorem take_flat {l : List Int} {i : Nat} (h : i < l.length) : (l.take (i + 1)).flatMap iB = (l.take i).flatMap iB ++ iB (l.getD i 0) := by
  have e : l.getD i 0 = l[i] := by simp [h]
  rw [List.take_succ_eq_append_getElem h, List.flatMap_append, e]
  simp
theorem flat_le {l : List Int} {i : Nat} (h : i < l.length) : ((l.take i).flatMap iB).length + (iB (l.getD i 0)).length ≤ (l.flatMap iB).length := by
  have e : l.flatMap iB = (l.take (i + 1)).flatMap iB ++ (l.drop (i + 1)).flatMap iB := by rw [← List.flatMap_append, List.take_append_drop]
  rw [e, take_flat h]
  simp only [List.length_append]
  omega
theorem getD_isI {l : List Int} {i : Nat} (hl : ∀ x ∈ l, isI x) (h : i < l.length) : isI (l.getD i 0) := by
  have e : l.getD i 0 = l[i] := by simp [h]
  rw [e]
  exact hl _ (List.getElem_mem h)
theorem p92_is {a l : List Int} (hl : ∀ x ∈ l, isI x) (ha : a.length + (nB l).length ≤ 140737488355328) (hll : l.length ≤ 140737488355328) (hfu : 10 < fu) (hf2 : l.length < fu) : p92_1 fu ((a, ()), l, ()) = some (((a ++ nB l, ()), (), ()), ()) := by
  unfold nB at ha
  rw [List.length_append] at ha
  unfold p92_1
  simp only [decide_true, cond_true]
  rw [wu_len hll, p34_is (isU_len hll) (by omega) hfu]
  simp only [Option.bind_some, decide_true, cond_true]
  refine loopO_eq (fun (s : (Int × Unit) × ((List Int × Unit) × Unit)) => ∃ k : Nat, k ≤ l.length ∧ s = (((k : Int), ()), (((a ++ uB (l.length : Int)) ++ (l.take k).flatMap iB, ()), ()))) (fun s => l.length - s.1.1.toNat) (fun _ => (((a ++ nB l, ()), (), ()), ())) ?_ fu _ ⟨0, Nat.zero_le _, by simp⟩ (by dsimp only; omega)
  rintro _ ⟨k, hk, rfl⟩
  by_cases hlt : k < l.length
  · left
    refine ⟨_, ?_, ⟨k + 1, hlt, rfl⟩, ?_, rfl⟩
    · have e1 : decide ((k : Int) < (l.length : Int)) = true := by simpa using hlt
      have e2 : decide ((0 : Int) ≤ (k : Int) ∧ (k : Int) < (l.length : Int)) = true := by simp; omega
      have e3 : decide (k < l.length) = true := by simpa using hlt
      have hb := flat_le hlt
      have hw : IntKind.wrap .i64 ((k : Int) + 1) = ((k + 1 : Nat) : Int) := by rw [wi64 (by omega) (by omega)]; omega
      simp only [e1, e2, Int.toNat_natCast, e3, cond_true, decide_true]
      rw [show l.getD k (dflt (.int .i64)) = l.getD k 0 from rfl, p37_is (getD_isI hl hlt) (by first | omega | (simp only [List.length_append]; omega)) hfu]
      simp only [Option.bind_some, decide_true, cond_true, hw, take_flat hlt, List.append_assoc]
    · dsimp only
      omega
  · right
    have hkl : k = l.length := by omega
    subst hkl
    have e1 : decide ((l.length : Int) < (l.length : Int)) = false := by simp
    simp only [e1, cond_false, decide_true, cond_true, inrO, Option.map_some, List.take_length, nB, List.append_assoc]
theorem p93_is {l : List Int} (hl : ∀ x ∈ l, isI x) (ha : (nB l).length ≤ 140737488355328) (hll : l.length ≤ 140737488355328) (hfu : 10 < fu) (hf2 : l.length < fu) : p93 fu (l, ()) = some ((), nB l) := by
  unfold nB at ha
  rw [List.length_append] at ha
  unfold p93
  dsimp only
  rw [wu_len hll, p52_is (isU_len hll) hfu]
  simp only [Option.bind_some, decide_true, cond_true]
  refine loopO_eq (fun (s : (List Int × (Int × Unit)) × Unit) => ∃ k : Nat, k ≤ l.length ∧ s = ((uB (l.length : Int) ++ (l.take k).flatMap iB, (k : Int), ()), ())) (fun s => l.length - s.1.2.1.toNat) (fun _ => ((), nB l)) ?_ fu _ ⟨0, Nat.zero_le _, by simp⟩ (by dsimp only; omega)
  rintro _ ⟨k, hk, rfl⟩
  by_cases hlt : k < l.length
  · left
    refine ⟨_, ?_, ⟨k + 1, hlt, rfl⟩, ?_, rfl⟩
    · have e1 : decide ((k : Int) < (l.length : Int)) = true := by simpa using hlt
      have e2 : decide ((0 : Int) ≤ (k : Int) ∧ (k : Int) < (l.length : Int)) = true := by simp; omega
      have e3 : decide (k < l.length) = true := by simpa using hlt
      have hb := flat_le hlt
      have hw : IntKind.wrap .i64 ((k : Int) + 1) = ((k + 1 : Nat) : Int) := by rw [wi64 (by omega) (by omega)]; omega
      simp only [e1, e2, Int.toNat_natCast, e3, cond_true, decide_true]
      have h2 : (uB (l.length : Int) ++ (l.take k).flatMap iB).length + (iB (l.getD k 0)).length ≤ 140737488355328 := by rw [List.length_append]; omega
      rw [show l.getD k (dflt (.int .i64)) = l.getD k 0 from rfl, p53_is (getD_isI hl hlt) hfu]
      simp only [Option.bind_some, fits2 h2, decide_true, cond_true, hw, take_flat hlt, List.append_assoc]
    · dsimp only
      omega
  · right
    have hkl : k = l.length := by omega
    subst hkl
    have e1 : decide ((l.length : Int) < (l.length : Int)) = false := by simp
    simp only [e1, cond_false, decide_true, cond_true, inrO, Option.map_some, List.take_length, nB]
/-- Two lists of nodes that may be written. -/
structure confOk (fu : Nat) (a b : List Int) : Prop where
  ha : ∀ x ∈ a, isI x
  hb : ∀ x ∈ b, isI x
  la : a.length ≤ 1048576
  lb : b.length ≤ 1048576
  fa : a.length < fu
  fb : b.length < fu
theorem nB_len {l : List Int} (h : ∀ x ∈ l, isI x) (hl : l.length ≤ 1048576) : (nB l).length ≤ 10 + 10 * l.length := by
  have h1 := uB_len (isU_len (n := l.length) (by omega))
  have h2 := flat_len h
  unfold nB
  rw [List.length_append]
  omega
theorem p57_is {a v l : List Int} (hc : confOk fu v l) (ha : a.length + (cB v l).length ≤ 140737488355328) (hfu : 10 < fu) : p57_1 fu ((a, ()), (v, l, ()), ()) = some (((a ++ cB v l, ()), (), ()), ()) := by
  have h1 := hc.la
  have h2 := hc.lb
  simp only [cB, List.length_append] at ha
  unfold p57_1
  simp only [decide_true, cond_true]
  rw [p92_is hc.ha (by omega) (by omega) hfu hc.fa]
  simp only [Option.bind_some, decide_true, cond_true]
  rw [p92_is hc.hb (by first | omega | (simp only [List.length_append]; omega)) (by omega) hfu hc.fb]
  simp only [Option.bind_some, decide_true, cond_true, cB, List.append_assoc]
theorem p58_is {v l : List Int} (hc : confOk fu v l) (hfu : 10 < fu) : p58 fu ((v, l, ()), ()) = some ((), cB v l) := by
  have h1 := hc.la
  have h2 := hc.lb
  have h3 := nB_len hc.ha h1
  have h4 := nB_len hc.hb h2
  unfold p58
  dsimp only
  rw [p93_is hc.ha (by omega) (by omega) hfu hc.fa]
  simp only [Option.bind_some]
  rw [p93_is hc.hb (by omega) (by omega) hfu hc.fb]
  have h5 : (nB v).length + (nB l).length ≤ 140737488355328 := by omega
  simp only [Option.bind_some, decide_true, cond_true, fits2 h5, cB]
theorem cB_len {v l : List Int} (hc : confOk fu v l) : (cB v l).length ≤ 20971540 := by
  have h1 := hc.la
  have h2 := hc.lb
  have h3 := nB_len hc.ha h1
  have h4 := nB_len hc.hb h2
  unfold cB
  rw [List.length_append]
  omega
theorem tB_len {l : List Int} (h : l.length ≤ 140737488355328) : (tB l).length ≤ 10 + l.length := by
  have h1 := uB_len (isU_len h)
  unfold tB
  rw [List.length_append]
  omega
theorem p38_is {a : List Int} {i t k : Int} {d v l : List Int} (hi : isU i) (ht : isU t) (hk : isI k) (hc : confOk fu v l) (ha : a.length + (eB i t k d v l).length ≤ 140737488355328) (hfu : 10 < fu) : p38_1 fu ((a, ()), (i, t, k, d, v, l, ()), ()) = some (((a ++ eB i t k d v l, ()), (), ()), ()) := by
  simp only [eB, List.length_append] at ha
  unfold p38_1
  simp only [decide_true, cond_true]
  rw [p34_is hi (by first | omega | (simp only [List.length_append]; omega)) hfu]
  simp only [Option.bind_some, decide_true, cond_true]
  rw [p34_is ht (by first | omega | (simp only [List.length_append]; omega)) hfu]
  simp only [Option.bind_some, decide_true, cond_true]
  rw [p37_is hk (by first | omega | (simp only [List.length_append]; omega)) hfu]
  simp only [Option.bind_some, decide_true, cond_true]
  rw [p36_is (by first | omega | (simp only [List.length_append]; omega)) hfu]
  simp only [Option.bind_some, decide_true, cond_true]
  rw [p57_is hc (by first | omega | (simp only [List.length_append]; omega)) hfu]
  simp only [Option.bind_some, decide_true, cond_true, eB, List.append_assoc]
theorem p39_is {a : List Int} {i t : Int} {d v l : List Int} (hi : isU i) (ht : isU t) (hc : confOk fu v l) (ha : a.length + (sB i t v l d).length ≤ 140737488355328) (hfu : 10 < fu) : p39_1 fu ((a, ()), (i, t, v, l, d, ()), ()) = some (((a ++ sB i t v l d, ()), (), ()), ()) := by
  simp only [sB, List.length_append] at ha
  unfold p39_1
  simp only [decide_true, cond_true]
  rw [p34_is hi (by first | omega | (simp only [List.length_append]; omega)) hfu]
  simp only [Option.bind_some, decide_true, cond_true]
  rw [p34_is ht (by first | omega | (simp only [List.length_append]; omega)) hfu]
  simp only [Option.bind_some, decide_true, cond_true]
  rw [p57_is hc (by first | omega | (simp only [List.length_append]; omega)) hfu]
  simp only [Option.bind_some, decide_true, cond_true]
  rw [p36_is (by first | omega | (simp only [List.length_append]; omega)) hfu]
  simp only [Option.bind_some, decide_true, cond_true, sB, List.append_assoc]
theorem p61_is {a : List Int} {lo hi : ByteArray} (ha : a.length + (gB lo hi).length ≤ 140737488355328) (hfu : 10 < fu) : p61_1 fu ((a, ()), (lo, hi, ()), ()) = some (((a ++ gB lo hi, ()), (), ()), ()) := by
  simp only [gB, List.length_append] at ha
  unfold p61_1
  simp only [decide_true, cond_true]
  rw [p35_is (by first | omega | (simp only [List.length_append]; omega)) hfu]
  simp only [Option.bind_some, decide_true, cond_true]
  rw [p35_is (by first | omega | (simp only [List.length_append]; omega)) hfu]
  simp only [Option.bind_some, decide_true, cond_true, gB, List.append_assoc]
theorem p63_is {a : List Int} {o p s : Int} {k : ByteArray} {v : List Int} (ho : isU o) (hp : isU p) (hs : isU s) (ha : a.length + (rB o k v p s).length ≤ 140737488355328) (hfu : 10 < fu) : p63_1 fu ((a, ()), (o, k, v, p, s, ()), ()) = some (((a ++ rB o k v p s, ()), (), ()), ()) := by
  simp only [rB, List.length_append] at ha
  unfold p63_1
  simp only [decide_true, cond_true]
  rw [p34_is ho (by first | omega | (simp only [List.length_append]; omega)) hfu]
  simp only [Option.bind_some, decide_true, cond_true]
  rw [p35_is (by first | omega | (simp only [List.length_append]; omega)) hfu]
  simp only [Option.bind_some, decide_true, cond_true]
  rw [p36_is (by first | omega | (simp only [List.length_append]; omega)) hfu]
  simp only [Option.bind_some, decide_true, cond_true]
  rw [p34_is hp (by first | omega | (simp only [List.length_append]; omega)) hfu]
  simp only [Option.bind_some, decide_true, cond_true]
  rw [p34_is hs (by first | omega | (simp only [List.length_append]; omega)) hfu]
  simp only [Option.bind_some, decide_true, cond_true, rB, List.append_assoc]
theorem p59_is {i t k : Int} {d v l : List Int} (hi : isU i) (ht : isU t) (hk : isI k) (hd : d.length ≤ 1048576) (hc : confOk fu v l) (hfu : 10 < fu) : p59 fu ((i, t, k, d, v, l, ()), ()) = some ((), eB i t k d v l) := by
  have l0 := uB_len hi
  have l1 := uB_len ht
  have l2 : (iB k).length ≤ 10 := uB_len (zz_u hk)
  have l3 := tB_len (l := d) (by omega)
  have l4 := cB_len hc
  have c0 := p52_is (fu := fu) hi hfu
  have c1 := p52_is (fu := fu) ht hfu
  have c2 := p53_is (fu := fu) hk hfu
  have c3 := p56_is (fu := fu) (l := d) (by omega) hfu
  have c4 := p58_is hc hfu
  unfold p59
  dsimp only
  simp only [c0, c1, c2, c3, c4, Option.bind_some, decide_true, cond_true, List.length_append]
  simp only [fits2 (n := (uB i).length + (uB t).length) (by omega), fits2 (n := (uB i).length + (uB t).length + (iB k).length) (by omega), fits2 (n := (uB i).length + (uB t).length + (iB k).length + (tB d).length) (by omega), fits2 (n := (uB i).length + (uB t).length + (iB k).length + (tB d).length + (cB v l).length) (by omega), decide_true, cond_true]
  simp only [eB, List.append_assoc]
theorem p60_is {i t : Int} {d v l : List Int} (hi : isU i) (ht : isU t) (hd : d.length ≤ 1048576) (hc : confOk fu v l) (hfu : 10 < fu) : p60 fu ((i, t, v, l, d, ()), ()) = some ((), sB i t v l d) := by
  have l0 := uB_len hi
  have l1 := uB_len ht
  have l2 := tB_len (l := d) (by omega)
  have l3 := cB_len hc
  have c0 := p52_is (fu := fu) hi hfu
  have c1 := p52_is (fu := fu) ht hfu
  have c2 := p58_is hc hfu
  have c3 := p56_is (fu := fu) (l := d) (by omega) hfu
  unfold p60
  dsimp only
  simp only [c0, c1, c2, c3, Option.bind_some, decide_true, cond_true, List.length_append]
  simp only [fits2 (n := (uB i).length + (uB t).length) (by omega), fits2 (n := (uB i).length + (uB t).length + (cB v l).length) (by omega), fits2 (n := (uB i).length + (uB t).length + (cB v l).length + (tB d).length) (by omega), decide_true, cond_true]
  simp only [sB, List.append_assoc]
theorem p62_is {lo hi : ByteArray} (h1 : lo.size ≤ 1048576) (h2 : hi.size ≤ 1048576) (hfu : 10 < fu) : p62 fu ((lo, hi, ()), ()) = some ((), gB lo hi) := by
  have l0 := numsOf_len lo
  have l1 := numsOf_len hi
  have l2 := tB_len (l := numsOf lo) (by omega)
  have l3 := tB_len (l := numsOf hi) (by omega)
  have c0 := p56_is (fu := fu) (l := numsOf lo) (by omega) hfu
  have c1 := p56_is (fu := fu) (l := numsOf hi) (by omega) hfu
  unfold p62
  dsimp only
  simp only [c0, c1, Option.bind_some, decide_true, cond_true, List.length_append]
  simp only [fits2 (n := (tB (numsOf lo)).length + (tB (numsOf hi)).length) (by omega), decide_true, cond_true]
  simp only [gB, List.append_assoc]
theorem p64_is {o p s : Int} {k : ByteArray} {v : List Int} (ho : isU o) (hp : isU p) (hs : isU s) (h1 : k.size ≤ 1048576) (h2 : v.length ≤ 1048576) (hfu : 10 < fu) : p64 fu ((o, k, v, p, s, ()), ()) = some ((), rB o k v p s) := by
  have l0 := numsOf_len k
  have l1 := tB_len (l := numsOf k) (by omega)
  have l2 := tB_len (l := v) (by omega)
  have l3 := uB_len ho
  have l4 := uB_len hp
  have l5 := uB_len hs
  have c0 := p52_is (fu := fu) ho hfu
  have c1 := p56_is (fu := fu) (l := numsOf k) (by omega) hfu
  have c2 := p56_is (fu := fu) (l := v) (by omega) hfu
  have c3 := p52_is (fu := fu) hp hfu
  have c4 := p52_is (fu := fu) hs hfu
  unfold p64
  dsimp only
  simp only [c0, c1, c2, c3, c4, Option.bind_some, decide_true, cond_true, List.length_append]
  simp only [fits2 (n := (uB o).length + (tB (numsOf k)).length) (by omega), fits2 (n := (uB o).length + (tB (numsOf k)).length + (tB v).length) (by omega), fits2 (n := (uB o).length + (tB (numsOf k)).length + (tB v).length + (uB p).length) (by omega), fits2 (n := (uB o).length + (tB (numsOf k)).length + (tB v).length + (uB p).length + (uB s).length) (by omega), decide_true, cond_true]
  simp only [rB, List.append_assoc]
end
section
variable {fu : Nat}
theorem str_data (l : List Int) : (strOfNums l).data.toList = l.map fun n => UInt8.ofNat n.toNat := by
  unfold strOfNums
  simp
theorem str_size (l : List Int) : (strOfNums l).size = l.length := by
  have h : (strOfNums l).size = (strOfNums l).data.toList.length := rfl
  rw [h, str_data, List.length_map]
theorem ba_ext {a b : ByteArray} (h : a.data.toList = b.data.toList) : a = b := by
  obtain ⟨⟨x⟩⟩ := a
  obtain ⟨⟨y⟩⟩ := b
  cases h
  rfl
theorem str_append (a b : List Int) : strOfNums (a ++ b) = strOfNums a ++ strOfNums b := by
  apply ba_ext
  rw [ByteArray.data_append, Array.toList_append, str_data, str_data, str_data, List.map_append]
def isB (n : Int) : Prop := 0 ≤ n ∧ n ≤ 255
theorem numsStr {l : List Int} (h : ∀ x ∈ l, isB x) : numsOf (strOfNums l) = l := by
  unfold numsOf
  rw [str_data, List.map_map]
  refine (List.map_congr_left fun x hx => ?_).trans (List.map_id l)
  obtain ⟨h1, h2⟩ := h x hx
  obtain ⟨n, rfl⟩ := Int.eq_ofNat_of_zero_le h1
  simp only [Function.comp, Int.toNat_natCast, id, UInt8.toNat_ofNat']
  omega
/-- A thing's bytes. -/
def thB (x : D_gazettelaw01_Thing) : List Int :=
  bif x.1 == 0 then uB x.2.1
  else bif x.1 == 1 then iB x.2.2.1
  else bif x.1 == 2 then bB x.2.2.2.1
  else bif x.1 == 3 then tB x.2.2.2.2.1
  else bif x.1 == 4 then tB x.2.2.2.2.1
  else bif x.1 == 5 then cB x.2.2.2.2.2.1.1 x.2.2.2.2.2.1.2
  else bif x.1 == 6 then eB x.2.2.2.2.2.2.1.1 x.2.2.2.2.2.2.1.2.1 x.2.2.2.2.2.2.1.2.2.1 x.2.2.2.2.2.2.1.2.2.2.1 x.2.2.2.2.2.2.1.2.2.2.2.1 x.2.2.2.2.2.2.1.2.2.2.2.2
  else bif x.1 == 7 then sB x.2.2.2.2.2.2.2.1.1 x.2.2.2.2.2.2.2.1.2.1 x.2.2.2.2.2.2.2.1.2.2.1.1 x.2.2.2.2.2.2.2.1.2.2.1.2 x.2.2.2.2.2.2.2.1.2.2.2
  else bif x.1 == 8 then gB x.2.2.2.2.2.2.2.2.1.1 x.2.2.2.2.2.2.2.2.1.2
  else rB x.2.2.2.2.2.2.2.2.2.1 x.2.2.2.2.2.2.2.2.2.2.1 x.2.2.2.2.2.2.2.2.2.2.2.1 x.2.2.2.2.2.2.2.2.2.2.2.2.1 x.2.2.2.2.2.2.2.2.2.2.2.2.2
/-- A thing that may come in. -/
structure thOk (fu : Nat) (x : D_gazettelaw01_Thing) : Prop where
  u : isU x.2.1
  i : isI x.2.2.1
  t : x.2.2.2.2.1.length ≤ 1048576
  b : ∀ y ∈ x.2.2.2.2.1, isB y
  c : confOk fu x.2.2.2.2.2.1.1 x.2.2.2.2.2.1.2
  e1 : isU x.2.2.2.2.2.2.1.1
  e2 : isU x.2.2.2.2.2.2.1.2.1
  e3 : isI x.2.2.2.2.2.2.1.2.2.1
  e4 : x.2.2.2.2.2.2.1.2.2.2.1.length ≤ 1048576
  e5 : confOk fu x.2.2.2.2.2.2.1.2.2.2.2.1 x.2.2.2.2.2.2.1.2.2.2.2.2
  s1 : isU x.2.2.2.2.2.2.2.1.1
  s2 : isU x.2.2.2.2.2.2.2.1.2.1
  s3 : confOk fu x.2.2.2.2.2.2.2.1.2.2.1.1 x.2.2.2.2.2.2.2.1.2.2.1.2
  s4 : x.2.2.2.2.2.2.2.1.2.2.2.length ≤ 1048576
  g1 : x.2.2.2.2.2.2.2.2.1.1.size ≤ 1048576
  g2 : x.2.2.2.2.2.2.2.2.1.2.size ≤ 1048576
  r1 : isU x.2.2.2.2.2.2.2.2.2.1
  r2 : x.2.2.2.2.2.2.2.2.2.2.1.size ≤ 1048576
  r3 : x.2.2.2.2.2.2.2.2.2.2.2.1.length ≤ 1048576
  r4 : isU x.2.2.2.2.2.2.2.2.2.2.2.2.1
  r5 : isU x.2.2.2.2.2.2.2.2.2.2.2.2.2
theorem thB_len {x : D_gazettelaw01_Thing} (h : thOk fu x) : (thB x).length ≤ 25165824 := by
  have h1 := uB_len h.u
  have h2 : (iB x.2.2.1).length ≤ 10 := uB_len (zz_u h.i)
  have h3 := tB_len (l := x.2.2.2.2.1) (by have := h.t; omega)
  have h4 := h.t
  have h5 := cB_len h.c
  have h6 := uB_len h.e1
  have h7 := uB_len h.e2
  have h8 : (iB x.2.2.2.2.2.2.1.2.2.1).length ≤ 10 := uB_len (zz_u h.e3)
  have h9 := tB_len (l := x.2.2.2.2.2.2.1.2.2.2.1) (by have := h.e4; omega)
  have h10 := h.e4
  have h11 := cB_len h.e5
  have h12 := uB_len h.s1
  have h13 := uB_len h.s2
  have h14 := cB_len h.s3
  have h15 := tB_len (l := x.2.2.2.2.2.2.2.1.2.2.2) (by have := h.s4; omega)
  have h16 := h.s4
  have g1 := h.g1
  have g2 := h.g2
  have g3 := numsOf_len x.2.2.2.2.2.2.2.2.1.1
  have g4 := numsOf_len x.2.2.2.2.2.2.2.2.1.2
  have g5 := tB_len (l := numsOf x.2.2.2.2.2.2.2.2.1.1) (by omega)
  have g6 := tB_len (l := numsOf x.2.2.2.2.2.2.2.2.1.2) (by omega)
  have r1 := uB_len h.r1
  have r2 := h.r2
  have r3 := h.r3
  have r4 := uB_len h.r4
  have r5 := uB_len h.r5
  have r6 := numsOf_len x.2.2.2.2.2.2.2.2.2.2.1
  have r7 := tB_len (l := numsOf x.2.2.2.2.2.2.2.2.2.2.1) (by omega)
  have r8 := tB_len (l := x.2.2.2.2.2.2.2.2.2.2.2.1) (by omega)
  have hb : (bB x.2.2.2.1).length = 1 := by cases x.2.2.2.1 <;> rfl
  unfold thB
  simp only [cond_eq_ite]
  repeat' split
  · omega
  · omega
  · omega
  · omega
  · omega
  · omega
  · simp only [eB, List.length_append]; omega
  · simp only [sB, List.length_append]; omega
  · simp only [gB, List.length_append]; omega
  · simp only [rB, List.length_append]; omega
theorem p27_is {a : List Int} (ha : a.length ≤ 140737488355328) : p27 fu ((a, ()), ()) = some ((), a) := by
  unfold p27
  simp only [fits2 ha, decide_true, cond_true]
end
section
variable {fu : Nat}
theorem p11_is (hfu : 30 < fu) : p11 fu () = some ((), true) := by
  obtain ⟨m, rfl⟩ : ∃ m, fu = m + 30 := ⟨fu - 30, by omega⟩
  kernel_rfl
theorem p26_is {a : List Int} {x : D_gazettelaw01_Thing} (hx : thOk fu x) (ha : a.length + (thB x).length ≤ 140737488355328) (hfu : 10 < fu) :
    p26_1 fu ((a, ()), (x.1, x.2.1, x.2.2.1, x.2.2.2.1, x.2.2.2.2.1, x.2.2.2.2.2.1.1, x.2.2.2.2.2.1.2, x.2.2.2.2.2.2.1.1, x.2.2.2.2.2.2.1.2.1, x.2.2.2.2.2.2.1.2.2.1, x.2.2.2.2.2.2.1.2.2.2.1, x.2.2.2.2.2.2.1.2.2.2.2.1, x.2.2.2.2.2.2.1.2.2.2.2.2,
      x.2.2.2.2.2.2.2.1.1, x.2.2.2.2.2.2.2.1.2.1, x.2.2.2.2.2.2.2.1.2.2.1.1, x.2.2.2.2.2.2.2.1.2.2.1.2, x.2.2.2.2.2.2.2.1.2.2.2, x.2.2.2.2.2.2.2.2.1.1, x.2.2.2.2.2.2.2.2.1.2, x.2.2.2.2.2.2.2.2.2.1, x.2.2.2.2.2.2.2.2.2.2.1, x.2.2.2.2.2.2.2.2.2.2.2.1, x.2.2.2.2.2.2.2.2.2.2.2.2.1, x.2.2.2.2.2.2.2.2.2.2.2.2.2, ()), ()) =
      some (((a ++ thB x, ()), (), ()), thB x) := by
  have ht : (tB x.2.2.2.2.1).length ≤ 140737488355328 := by have := tB_len (l := x.2.2.2.2.1) (by have := hx.t; omega); have := hx.t; omega
  unfold p26_1
  dsimp only
  by_cases k0 : x.1 = 0
  · have e : thB x = uB x.2.1 := by unfold thB; simp [k0]
    rw [e] at ha ⊢
    simp only [k0, BEq.rfl, cond_true, decide_true]
    rw [p34_is hx.u ha hfu]
    simp only [Option.bind_some]
    rw [p52_is hx.u hfu]
    simp only [Option.bind_some, decide_true, cond_true]
  have n0 : (x.1 == 0) = false := by simpa using k0
  by_cases k1 : x.1 = 1
  · have e : thB x = iB x.2.2.1 := by unfold thB; simp [k1]
    rw [e] at ha ⊢
    simp only [n0, cond_false, k1, BEq.rfl, cond_true, decide_true]
    rw [show ((1 : Int) == 0) = false from rfl]
    simp only [cond_false]
    rw [p37_is hx.i ha hfu]
    simp only [Option.bind_some]
    rw [p53_is hx.i hfu]
    simp only [Option.bind_some, decide_true, cond_true]
  have n1 : (x.1 == 1) = false := by simpa using k1
  by_cases k2 : x.1 = 2
  · have e : thB x = bB x.2.2.2.1 := by unfold thB; simp [k2]
    rw [e] at ha ⊢
    have e2 : (x.1 == 2) = true := by simpa using k2
    have hb : (bB x.2.2.2.1).length = 1 := by cases x.2.2.2.1 <;> rfl
    simp only [n0, n1, e2, cond_false, cond_true, decide_true]
    rw [p54_is (by omega)]
    simp only [Option.bind_some]
    rw [p55_is]
    simp only [Option.bind_some, decide_true, cond_true]
  have n2 : (x.1 == 2) = false := by simpa using k2
  by_cases k3 : x.1 = 3
  · have e : thB x = tB x.2.2.2.2.1 := by unfold thB; simp [k3]
    rw [e] at ha ⊢
    have e2 : (x.1 == 3) = true := by simpa using k3
    simp only [n0, n1, n2, e2, cond_false, cond_true, decide_true]
    rw [p36_is ha hfu]
    simp only [Option.bind_some]
    rw [p56_is ht hfu]
    simp only [Option.bind_some, decide_true, cond_true]
  have n3 : (x.1 == 3) = false := by simpa using k3
  by_cases k4 : x.1 = 4
  · have e : thB x = tB x.2.2.2.2.1 := by unfold thB; simp [k4]
    rw [e] at ha ⊢
    have e2 : (x.1 == 4) = true := by simpa using k4
    have e5 := numsStr hx.b
    simp only [n0, n1, n2, n3, e2, cond_false, cond_true, decide_true]
    rw [p35_is (by rw [e5]; exact ha) hfu, e5]
    simp only [Option.bind_some]
    rw [p56_is ht hfu]
    simp only [Option.bind_some, decide_true, cond_true]
  have n4 : (x.1 == 4) = false := by simpa using k4
  by_cases k5 : x.1 = 5
  · have e : thB x = cB x.2.2.2.2.2.1.1 x.2.2.2.2.2.1.2 := by unfold thB; simp [k5]
    rw [e] at ha ⊢
    have e2 : (x.1 == 5) = true := by simpa using k5
    simp only [n0, n1, n2, n3, n4, e2, cond_false, cond_true, decide_true]
    rw [p57_is hx.c ha hfu]
    simp only [Option.bind_some]
    rw [p58_is hx.c hfu]
    simp only [Option.bind_some, decide_true, cond_true]
  have n5 : (x.1 == 5) = false := by simpa using k5
  by_cases k6 : x.1 = 6
  · have e : thB x = eB x.2.2.2.2.2.2.1.1 x.2.2.2.2.2.2.1.2.1 x.2.2.2.2.2.2.1.2.2.1 x.2.2.2.2.2.2.1.2.2.2.1 x.2.2.2.2.2.2.1.2.2.2.2.1 x.2.2.2.2.2.2.1.2.2.2.2.2 := by unfold thB; simp [k6]
    rw [e] at ha ⊢
    have e2 : (x.1 == 6) = true := by simpa using k6
    simp only [n0, n1, n2, n3, n4, n5, e2, cond_false, cond_true, decide_true]
    rw [p38_is hx.e1 hx.e2 hx.e3 hx.e5 ha hfu]
    simp only [Option.bind_some]
    rw [p59_is hx.e1 hx.e2 hx.e3 hx.e4 hx.e5 hfu]
    simp only [Option.bind_some, decide_true, cond_true]
  have n6 : (x.1 == 6) = false := by simpa using k6
  by_cases k7 : x.1 = 7
  · have e : thB x = sB x.2.2.2.2.2.2.2.1.1 x.2.2.2.2.2.2.2.1.2.1 x.2.2.2.2.2.2.2.1.2.2.1.1 x.2.2.2.2.2.2.2.1.2.2.1.2 x.2.2.2.2.2.2.2.1.2.2.2 := by unfold thB; simp [k7]
    rw [e] at ha ⊢
    have e2 : (x.1 == 7) = true := by simpa using k7
    simp only [n0, n1, n2, n3, n4, n5, n6, e2, cond_false, cond_true, decide_true]
    rw [p39_is hx.s1 hx.s2 hx.s3 ha hfu]
    simp only [Option.bind_some]
    rw [p60_is hx.s1 hx.s2 hx.s4 hx.s3 hfu]
    simp only [Option.bind_some, decide_true, cond_true]
  have n7 : (x.1 == 7) = false := by simpa using k7
  by_cases k8 : x.1 = 8
  · have e : thB x = gB x.2.2.2.2.2.2.2.2.1.1 x.2.2.2.2.2.2.2.2.1.2 := by unfold thB; simp [k8]
    rw [e] at ha ⊢
    have e2 : (x.1 == 8) = true := by simpa using k8
    simp only [n0, n1, n2, n3, n4, n5, n6, n7, e2, cond_false, cond_true, decide_true]
    rw [p61_is ha hfu]
    simp only [Option.bind_some]
    rw [p62_is hx.g1 hx.g2 hfu]
    simp only [Option.bind_some, decide_true, cond_true]
  have n8 : (x.1 == 8) = false := by simpa using k8
  have e : thB x = rB x.2.2.2.2.2.2.2.2.2.1 x.2.2.2.2.2.2.2.2.2.2.1 x.2.2.2.2.2.2.2.2.2.2.2.1 x.2.2.2.2.2.2.2.2.2.2.2.2.1 x.2.2.2.2.2.2.2.2.2.2.2.2.2 := by
    unfold thB
    simp only [n0, n1, n2, n3, n4, n5, n6, n7, n8, cond_false]
  rw [e] at ha ⊢
  simp only [n0, n1, n2, n3, n4, n5, n6, n7, n8, cond_false, cond_true, decide_true]
  rw [p63_is hx.r1 hx.r4 hx.r5 ha hfu]
  simp only [Option.bind_some]
  rw [p64_is hx.r1 hx.r4 hx.r5 hx.r2 hx.r3 hfu]
  simp only [Option.bind_some, decide_true, cond_true]
theorem take_th {l : List D_gazettelaw01_Thing} {i : Nat} (h : i < l.length) : (l.take (i + 1)).flatMap thB = (l.take i).flatMap thB ++ thB (l.getD i (dflt T_gazettelaw01_Thing)) := by
  have e : l.getD i (dflt T_gazettelaw01_Thing) = l[i] := by simp [h]
  rw [List.take_succ_eq_append_getElem h, List.flatMap_append, e]
  simp
theorem ths_len {l : List D_gazettelaw01_Thing} (h : ∀ x ∈ l, thOk fu x) : (l.flatMap thB).length ≤ 25165824 * l.length := by
  induction l with
  | nil => simp
  | cons x l ih =>
    have h1 := thB_len (h x (by simp))
    have h2 := ih fun y hy => h y (by simp [hy])
    simp only [List.flatMap_cons, List.length_append, List.length_cons]
    omega
theorem p5_is {l : List D_gazettelaw01_Thing} (hl : ∀ x ∈ l, thOk fu x) (hn : l.length ≤ 1048576) (hfu : 140737488355328 < fu) : p5 fu (l, ()) = some ((), true) := by
  unfold p5
  dsimp only
  rw [p11_is (by omega)]
  simp only [Option.bind_some]
  refine loopO_eq (fun (s : (ByteArray × Int × Unit) × ((List Int × Unit) × Unit)) => ∃ k : Nat, k ≤ l.length ∧ s = ((strOfNums ((l.take k).flatMap thB), (k : Int), ()), (((l.take k).flatMap thB, ()), ()))) (fun s => l.length - s.1.2.1.toNat) (fun _ => ((), true)) ?_ fu _ ⟨0, Nat.zero_le _, rfl⟩ (by dsimp only; omega)
  rintro _ ⟨k, hk, rfl⟩
  have hlen : ∀ j, j ≤ l.length → ((l.take j).flatMap thB).length ≤ 25165824 * l.length := fun j hj => by
    refine Nat.le_trans (ths_len (fu := fu) fun x hx => hl x (List.mem_of_mem_take hx)) ?_
    rw [List.length_take]
    have : min j l.length ≤ l.length := Nat.min_le_right _ _
    omega
  by_cases hlt : k < l.length
  · left
    refine ⟨_, ?_, ⟨k + 1, hlt, rfl⟩, ?_, rfl⟩
    · have e1 : decide ((k : Int) < (l.length : Int)) = true := by simpa using hlt
      have e2 : decide ((0 : Int) ≤ (k : Int) ∧ (k : Int) < (l.length : Int)) = true := by simp; omega
      have e3 : decide (k < l.length) = true := by simpa using hlt
      have hw : IntKind.wrap .i64 ((k : Int) + 1) = ((k + 1 : Nat) : Int) := by rw [wi64 (by omega) (by omega)]; omega
      have hx : thOk fu (l.getD k (dflt T_gazettelaw01_Thing)) := by
        have e : l.getD k (dflt T_gazettelaw01_Thing) = l[k] := by simp [hlt]
        rw [e]
        exact hl _ (List.getElem_mem hlt)
      have hb := thB_len hx
      have h1 := hlen k hk
      have h2 := hlen (k + 1) hlt
      rw [take_th hlt] at h2 ⊢
      simp only [e1, e2, Int.toNat_natCast, e3, cond_true, decide_true]
      rw [p26_is hx (by rw [List.length_append] at h2; omega) (by omega)]
      generalize hA : (l.take k).flatMap thB = A at h1 h2 ⊢
      generalize hB : thB (l.getD k (dflt T_gazettelaw01_Thing)) = B at hb h2 ⊢
      have e4 : decide ((strOfNums A).size + (strOfNums B).size ≤ 9223372036854775807) = true := by
        rw [str_size, str_size]
        rw [List.length_append] at h2
        simp only [decide_eq_true_eq]
        omega
      simp only [Option.bind_some, decide_true, cond_true, e4]
      rw [p27_is (by omega)]
      simp only [Option.bind_some, decide_true, cond_true, str_append, BEq.rfl, Bool.not_true, cond_false]
      refine loopO_eq (fun (s : (List Int × Int × Unit) × Unit) => s.1.1.length = (A ++ B).length ∧ ∃ j : Nat, j ≤ (A ++ B).length ∧ s.1.2.1 = (j : Int)) (fun s => (A ++ B).length - s.1.2.1.toNat) (fun _ => _) ?_ fu ((A ++ B, 0, ()), ()) ⟨rfl, 0, Nat.zero_le _, rfl⟩ (by dsimp only; omega)
      rintro ⟨⟨m, n, ⟨⟩⟩, ⟨⟩⟩ ⟨hm, j, hj, hjn⟩
      dsimp only at hm hjn
      subst hjn
      by_cases hjl : j < m.length
      · left
        have f1 : decide ((j : Int) < (m.length : Int)) = true := by simpa using hjl
        have f2 : decide ((0 : Int) ≤ (j : Int) ∧ (j : Int) < (m.length : Int)) = true := by simp; omega
        have f3 : decide (j < m.length) = true := by simpa using hjl
        have fw : IntKind.wrap .i64 ((j : Int) + 1) = ((j + 1 : Nat) : Int) := by rw [wi64 (by omega) (by omega)]; omega
        refine ⟨((m.set j (IntKind.wrap .u8 (List.getD m j (dflt (.int .u8)) + (1 : Int))), ((j + 1 : Nat) : Int), ()), ()), ?_, ⟨?_, j + 1, ?_, rfl⟩, ?_, rfl⟩
        · simp only [f1, f2, Int.toNat_natCast, f3, cond_true, List.length_set, decide_true, fw]
        · simpa using hm
        · omega
        · dsimp only
          omega
      · right
        have f1 : decide ((j : Int) < (m.length : Int)) = false := by simp; omega
        simp only [f1, cond_false, inrO, Option.map_some, hw]
    · dsimp only
      omega
  · right
    have hkl : k = l.length := by omega
    subst hkl
    have e1 : decide ((l.length : Int) < (l.length : Int)) = false := by simp
    have h1 := hlen l.length (Nat.le_refl _)
    simp only [e1, cond_false, cond_true, decide_true, inrO]
    rw [p27_is (by omega)]
    simp only [Option.bind_some, decide_true, cond_true, BEq.rfl, Option.map_some]
end
end Go.Proofs.YtfhdpeceppafiaaDoor
