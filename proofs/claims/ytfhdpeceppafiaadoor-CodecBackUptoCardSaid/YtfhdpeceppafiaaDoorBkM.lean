/-
  What reading and writing items give.
-/
import Derived.Test.YtfhdpeceppafiaaDoorDaP
import Derived.Test.YtfhdpeceppafiaaDoorDaL
import Derived.Test.YtfhdpeceppafiaaDoorPtB
namespace Go.Proofs.YtfhdpeceppafiaaDoor
open Go.RowKit
section
variable {fu : Nat}
theorem wuk {x : Int} (k : IntKind) (hk : k.signed = false) (h1 : 0 ≤ x) (h2 : x < 2 ^ k.bits) : IntKind.wrap k x = x := by
  unfold IntKind.wrap
  simp only [hk, Bool.false_and, Bool.false_eq_true, if_false]
  exact Int.emod_eq_of_lt h1 h2
theorem wu64 {x : Int} (h1 : 0 ≤ x) (h2 : x < 18446744073709551616) : IntKind.wrap .u64 x = x := wuk .u64 rfl h1 h2
theorem wu8 {x : Int} (h1 : 0 ≤ x) (h2 : x < 256) : IntKind.wrap .u8 x = x := wuk .u8 rfl h1 h2
theorem wrap_u8m (n : Nat) : IntKind.wrap .u8 (n : Int) = ((n % 256 : Nat) : Int) := by
  show (n : Int) % 256 = _
  omega
theorem wi64 {x : Int} (h1 : -9223372036854775808 ≤ x) (h2 : x < 9223372036854775808) : IntKind.wrap .i64 x = x := by
  have e1 : (2 : Int) ^ IntKind.bits .i64 = 18446744073709551616 := rfl
  have e2 : (2 : Int) ^ (IntKind.bits .i64 - 1) = 9223372036854775808 := rfl
  unfold IntKind.wrap
  simp only [e1, e2]
  split
  · rename_i h
    simp at h
    omega
  · rename_i h
    simp [IntKind.signed] at h
    omega
theorem fdiv7 (n : Nat) : Int.fdiv (n : Int) (2 ^ (min (Int.toNat (7 : Int)) (IntKind.bits .u64))) = ((n / 128 : Nat) : Int) := by
  show Int.fdiv (n : Int) 128 = _
  rw [Int.fdiv_eq_ediv_of_nonneg _ (by decide)]
  rfl
theorem or128 : ∀ x : BitVec 8, (x ||| 128#8).toNat = x.toNat % 128 + 128 := by decide +kernel
theorem or8 (n m : Nat) : ((BitVec.ofInt (IntKind.bits .u8) (n : Int) ||| BitVec.ofInt (IntKind.bits .u8) (m : Int)).toNat) = (BitVec.ofNat 8 n ||| BitVec.ofNat 8 m).toNat := by
  show (BitVec.ofInt 8 (n : Int) ||| BitVec.ofInt 8 (m : Int)).toNat = _
  rw [BitVec.ofInt_natCast, BitVec.ofInt_natCast]
theorem and64 (n m : Nat) : ((BitVec.ofInt (IntKind.bits .u64) (n : Int) &&& BitVec.ofInt (IntKind.bits .u64) (m : Int)).toNat) = (BitVec.ofNat 64 n &&& BitVec.ofNat 64 m).toNat := by
  show (BitVec.ofInt 64 (n : Int) &&& BitVec.ofInt 64 (m : Int)).toNat = _
  rw [BitVec.ofInt_natCast, BitVec.ofInt_natCast]
theorem xor64 (n m : Nat) : ((BitVec.ofInt (IntKind.bits .u64) (n : Int) ^^^ BitVec.ofInt (IntKind.bits .u64) (m : Int)).toNat) = (BitVec.ofNat 64 n ^^^ BitVec.ofNat 64 m).toNat := by
  show (BitVec.ofInt 64 (n : Int) ^^^ BitVec.ofInt 64 (m : Int)).toNat = _
  rw [BitVec.ofInt_natCast, BitVec.ofInt_natCast]
theorem lowP (n : Nat) : IntKind.wrap .u8 ((BitVec.ofInt (IntKind.bits .u8) (IntKind.wrap .u8 (n : Int)) ||| BitVec.ofInt (IntKind.bits .u8) (128 : Int)).toNat : Int) = ((n % 128 + 128 : Nat) : Int) := by
  have e1 : (BitVec.ofInt (IntKind.bits .u8) (IntKind.wrap .u8 (n : Int)) ||| BitVec.ofInt (IntKind.bits .u8) (128 : Int)).toNat = n % 128 + 128 := by
    rw [wrap_u8m]
    have := or8 (n % 256) 128
    have e3 := or128 (BitVec.ofNat 8 (n % 256))
    rw [BitVec.toNat_ofNat] at e3
    refine this.trans (e3.trans ?_)
    omega
  rw [e1]
  exact wu8 (by omega) (by omega)
theorem lowR (n : Nat) (h : n < 18446744073709551616) : IntKind.wrap .u8 ((IntKind.wrap .u8 (IntKind.wrap .u64 ((BitVec.ofInt (IntKind.bits .u64) (n : Int) &&& BitVec.ofInt (IntKind.bits .u64) (127 : Int)).toNat : Int))) + (128 : Int)) = ((n % 128 + 128 : Nat) : Int) := by
  have h2 : (BitVec.ofInt (IntKind.bits .u64) (n : Int) &&& BitVec.ofInt (IntKind.bits .u64) (127 : Int)).toNat = n % 128 := by
    refine (and64 n 127).trans ?_
    rw [BitVec.toNat_and, BitVec.toNat_ofNat, BitVec.toNat_ofNat, Nat.mod_eq_of_lt h]
    exact Nat.and_two_pow_sub_one_eq_mod n 7
  rw [h2, wu64 (by omega) (by omega), wu8 (x := ((n % 128 : Nat) : Int)) (by omega) (by omega), wu8 (by omega) (by omega)]
  omega
/-- A signed number as a number. -/
def zz (c : Int) : Int := if c < 0 then -2 * c - 1 else 2 * c
def isI (c : Int) : Prop := -9223372036854775808 ≤ c ∧ c ≤ 9223372036854775807
def isU (c : Int) : Prop := 0 ≤ c ∧ c ≤ 18446744073709551615
theorem zz_u {c : Int} (h : isI c) : isU (zz c) := by
  unfold isI at h
  unfold zz isU
  split <;> omega
theorem xorAll (n : Nat) (h : n < 18446744073709551616) : ((BitVec.ofNat 64 n ^^^ BitVec.ofNat 64 18446744073709551615)).toNat = 18446744073709551615 - n := by
  have e : BitVec.ofNat 64 18446744073709551615 = BitVec.allOnes 64 := by decide
  rw [e, BitVec.xor_allOnes, BitVec.toNat_not, BitVec.toNat_ofNat, Nat.mod_eq_of_lt h]
theorem zzP {c : Int} (h : isI c) : IntKind.wrap .u64 ((BitVec.ofInt (IntKind.bits .u64) (IntKind.wrap .u64 ((IntKind.wrap .u64 c) * 2 ^ (min (Int.toNat (1 : Int)) (IntKind.bits .u64)))) ^^^ BitVec.ofInt (IntKind.bits .u64) (IntKind.wrap .u64 (Int.fdiv c (2 ^ (min (Int.toNat (63 : Int)) (IntKind.bits .i64)))))).toNat : Int) = zz c := by
  obtain ⟨h1, h2⟩ := h
  have e2 : (2 : Int) ^ (min (Int.toNat (1 : Int)) (IntKind.bits .u64)) = 2 := rfl
  have e63 : (2 : Int) ^ (min (Int.toNat (63 : Int)) (IntKind.bits .i64)) = 9223372036854775808 := rfl
  have em : ∀ x : Int, IntKind.wrap .u64 x = x % 18446744073709551616 := fun x => rfl
  rw [e2, e63, Int.fdiv_eq_ediv_of_nonneg _ (by decide)]
  unfold zz
  by_cases hc : c < 0
  · rw [if_pos hc]
    have d1 : IntKind.wrap .u64 (c / 9223372036854775808) = ((18446744073709551615 : Nat) : Int) := by rw [em]; omega
    have d2 : IntKind.wrap .u64 (IntKind.wrap .u64 c * 2) = ((18446744073709551616 + 2 * c).toNat : Int) := by rw [em, em]; omega
    rw [d1, d2, xor64, xorAll _ (by omega), em]
    omega
  · rw [if_neg hc]
    have d1 : IntKind.wrap .u64 (c / 9223372036854775808) = ((0 : Nat) : Int) := by rw [em]; omega
    have d2 : IntKind.wrap .u64 (IntKind.wrap .u64 c * 2) = ((2 * c).toNat : Int) := by rw [em, em]; omega
    rw [d1, d2, xor64, show BitVec.ofNat 64 0 = 0#64 from rfl, BitVec.xor_zero, BitVec.toNat_ofNat, Nat.mod_eq_of_lt (by omega), em]
    omega
theorem zzN {c : Int} (h : isI c) (hc : c < 0) : IntKind.wrap .u64 ((IntKind.wrap .u64 ((2 : Int) * (IntKind.wrap .u64 (IntKind.wrap .i64 (0 - (IntKind.wrap .i64 (c + (1 : Int)))))))) + (1 : Int)) = zz c := by
  obtain ⟨h1, h2⟩ := h
  rw [wi64 (x := c + 1) (by omega) (by omega), wi64 (by omega) (by omega), wu64 (x := 0 - (c + 1)) (by omega) (by omega), wu64 (x := 2 * (0 - (c + 1))) (by omega) (by omega), wu64 (by omega) (by omega)]
  unfold zz
  rw [if_pos hc]
  omega
theorem zzQ {c : Int} (h : isI c) (hc : ¬ c < 0) : IntKind.wrap .u64 ((2 : Int) * (IntKind.wrap .u64 c)) = zz c := by
  obtain ⟨h1, h2⟩ := h
  rw [wu64 (x := c) (by omega) (by omega), wu64 (by omega) (by omega)]
  unfold zz
  rw [if_neg hc]

/-- The bytes of a number. -/
def ub (v : Nat) : List Int := if v < 128 then [(v : Int)] else ((v % 128 + 128 : Nat) : Int) :: ub (v / 128)
termination_by v
decreasing_by omega
theorem ub_small {v : Nat} (h : v < 128) : ub v = [(v : Int)] := by rw [ub, if_pos h]
theorem ub_big {v : Nat} (h : ¬ v < 128) : ub v = ((v % 128 + 128 : Nat) : Int) :: ub (v / 128) := by rw [ub, if_neg h]
theorem ub_len : ∀ (k v : Nat), v < 128 ^ (k + 1) → (ub v).length ≤ k + 1
  | 0, v, h => by rw [ub_small (by simpa using h)]; simp
  | k + 1, v, h => by
    by_cases hv : v < 128
    · rw [ub_small hv]; simp
    · rw [ub_big hv]
      have h2 : v / 128 < 128 ^ (k + 1) := by
        rw [Nat.div_lt_iff_lt_mul (by decide)]
        rw [Nat.pow_succ] at h
        exact h
      have := ub_len k (v / 128) h2
      simp only [List.length_cons]
      omega
def uB (v : Int) : List Int := ub v.toNat
theorem uB_len {v : Int} (h : isU v) : (uB v).length ≤ 10 := by
  obtain ⟨h1, h2⟩ := h
  exact ub_len 9 _ (by have : (128 : Nat) ^ 10 = 1180591620717411303424 := by decide
                       omega)
def iB (c : Int) : List Int := uB (zz c)
def tB (l : List Int) : List Int := uB (l.length : Int) ++ l
def nB (l : List Int) : List Int := uB (l.length : Int) ++ l.flatMap iB
theorem flat_len {l : List Int} (h : ∀ x ∈ l, isI x) : (l.flatMap iB).length ≤ 10 * l.length := by
  induction l with
  | nil => simp
  | cons x l ih =>
    have h1 := uB_len (zz_u (h x (by simp)))
    have h2 := ih fun y hy => h y (by simp [hy])
    simp only [List.flatMap_cons, List.length_append, List.length_cons]
    unfold iB at h1 ⊢
    unfold iB at h2
    omega
def top : Nat := 140737488355328
theorem fits_top {n : Nat} (h : n ≤ 140737488355328) : n ≤ maxLen := Nat.le_trans h (by decide)
theorem p34_is {a : List Int} {v : Int} (hv : isU v) (ha : a.length + (uB v).length ≤ 140737488355328) (hfu : 10 < fu) : p34_1 fu ((a, ()), v, ()) = some (((a ++ uB v, ()), (), ()), ()) := by
  unfold p34_1
  simp only [eqL_t, cond_true]
  refine loopO_eq (fun (s : (Int × Unit) × ((List Int × Unit) × Unit)) => isU s.1.1 ∧ s.2.1.1.length + (uB s.1.1).length ≤ 140737488355328) (fun s => (uB s.1.1).length) (fun s => (((s.2.1.1 ++ uB s.1.1, ()), (), ()), ())) ?_ fu _ ⟨hv, ha⟩ (Nat.lt_of_le_of_lt (uB_len hv) hfu)
  rintro ⟨⟨f, ⟨⟩⟩, ⟨⟨h, ⟨⟩⟩, ⟨⟩⟩⟩ ⟨⟨h0, h1⟩, h2⟩
  dsimp only at h0 h1 h2
  obtain ⟨n, rfl⟩ := Int.eq_ofNat_of_zero_le h0
  have e : uB ((n : Nat) : Int) = ub n := rfl
  simp only [e] at h2 ⊢
  by_cases hn : n < 128
  · right
    rw [ub_small hn] at h2 ⊢
    simp only [List.length_singleton] at h2
    have hw : IntKind.wrap .u8 (n : Int) = (n : Int) := wu8 (by omega) (by omega)
    have hl : h.length + 1 ≤ maxLen ∧ (h.length + 1) * 1 ≤ 140737488355328 := ⟨fits_top h2, by omega⟩
    have hge : ¬ ((n : Int) ≥ 128) := by omega
    simp only [hge, hw, hl, List.length_singleton, decide_false, decide_true, cond_false, cond_true, and_self, inrO, Option.map_some]
  · left
    rw [ub_big hn] at h2 ⊢
    simp only [List.length_cons] at h2
    have hl : h.length + 1 ≤ maxLen ∧ (h.length + 1) * 1 ≤ 140737488355328 := ⟨fits_top (by omega), by omega⟩
    refine ⟨((((n / 128 : Nat) : Int), ()), ((h ++ [((n % 128 + 128 : Nat) : Int)], ()), ())), ?_, ⟨⟨by dsimp only; omega, by dsimp only; omega⟩, ?_⟩, ?_, ?_⟩
    · have hge : (n : Int) ≥ 128 := by omega
      simp only [lowP, fdiv7, List.length_singleton, hl, hge, decide_true, cond_true, and_self]
    · show (h ++ [((n % 128 + 128 : Nat) : Int)]).length + (ub (n / 128)).length ≤ _
      simp only [List.length_append, List.length_singleton]
      omega
    · show (ub (n / 128)).length < _
      simp
    · show ((((h ++ [((n % 128 + 128 : Nat) : Int)]) ++ ub (n / 128), ()), (), ()), ()) = _
      simp
def cB (a b : List Int) : List Int := nB a ++ nB b
def eB (i t k : Int) (d a b : List Int) : List Int := uB i ++ (uB t ++ (iB k ++ (tB d ++ cB a b)))
def sB (i t : Int) (a b d : List Int) : List Int := uB i ++ (uB t ++ (cB a b ++ tB d))
def gB (lo hi : ByteArray) : List Int := tB (numsOf lo) ++ tB (numsOf hi)
def rB (o : Int) (k : ByteArray) (v : List Int) (p s : Int) : List Int := uB o ++ (tB (numsOf k) ++ (tB v ++ (uB p ++ uB s)))
def bB (b : Bool) : List Int := if b then [1] else [0]
theorem numsOf_len (s : ByteArray) : (numsOf s).length = s.size := by unfold numsOf; rw [List.length_map]; rfl
theorem isU_len {n : Nat} (h : n ≤ 140737488355328) : isU (n : Int) := ⟨by omega, by omega⟩
theorem wu_len {n : Nat} (h : n ≤ 140737488355328) : IntKind.wrap .u64 (n : Int) = (n : Int) := wu64 (by omega) (by omega)
/-- As much as may be written. -/
def fitsT (n : Nat) : Prop := n ≤ 140737488355328
theorem fits2 {n : Nat} (h : n ≤ 140737488355328) : (n ≤ maxLen ∧ n * 1 ≤ 140737488355328) = True := eq_true ⟨fits_top h, by omega⟩
theorem fits3 {n : Nat} (h : n ≤ 140737488355328) : (n ≤ maxLen ∧ n ≤ 140737488355328) = True := eq_true ⟨fits_top h, h⟩
theorem p37_is {a : List Int} {c : Int} (hc : isI c) (ha : a.length + (iB c).length ≤ 140737488355328) (hfu : 10 < fu) : p37_1 fu ((a, ()), c, ()) = some (((a ++ iB c, ()), (), ()), ()) := by
  unfold p37_1
  simp only [eqL_t, cond_true, zzP hc]
  rw [p34_is (zz_u hc) ha hfu]
  simp only [Option.bind_some]
  rfl
theorem p36_is {a l : List Int} (ha : a.length + (tB l).length ≤ 140737488355328) (hfu : 10 < fu) : p36 fu ((a, ()), l, ()) = some (((a ++ tB l, ()), (), ()), ()) := by
  unfold tB at ha
  rw [List.length_append] at ha
  unfold p36
  simp only [eqL_t, cond_true]
  rw [wu_len (by omega), p34_is (isU_len (by omega)) (by omega) hfu]
  have h2 : (a ++ uB (l.length : Int)).length + l.length ≤ 140737488355328 := by rw [List.length_append]; omega
  simp only [Option.bind_some, decide_true, cond_true, fits2 h2, tB, List.append_assoc]
theorem take_flat {l : List Int} {i : Nat} (h : i < l.length) : (l.take (i + 1)).flatMap iB = (l.take i).flatMap iB ++ iB (l.getD i 0) := by
  have e : l.getD i 0 = l[i] := by simp [h]
  rw [List.take_succ_eq_append_getElem h, List.flatMap_append, e]
  simp
theorem flat_le {l : List Int} {i : Nat} (h : i < l.length) : ((l.take i).flatMap iB).length + (iB (l.getD i 0)).length ≤ (l.flatMap iB).length := by
  have e : l.flatMap iB = (l.take (i + 1)).flatMap iB ++ (l.drop (i + 1)).flatMap iB := by rw [← List.flatMap_append, List.take_append_drop]
  rw [e, take_flat h]
  simp only [List.length_append]
  omega
theorem getD_isI {l : List Int} {i : Nat} (hl : ∀ x ∈ l, isI x) (h : i < l.length) : isI (l.getD i 0) := by
  have e : l.getD i 0 = l[i] := by simp [h]
  rw [e]
  exact hl _ (List.getElem_mem h)
theorem p92_is {a l : List Int} (hl : ∀ x ∈ l, isI x) (ha : a.length + (nB l).length ≤ 140737488355328) (hll : l.length ≤ 140737488355328) (hfu : 10 < fu) (hf2 : l.length < fu) : p92 fu ((a, ()), l, ()) = some (((a ++ nB l, ()), (), ()), ()) := by
  unfold nB at ha
  rw [List.length_append] at ha
  unfold p92
  simp only [eqL_t, cond_true]
  rw [wu_len hll, p34_is (isU_len hll) (by omega) hfu]
  simp only [Option.bind_some]
  refine loopO_eq (fun (s : (Int × Unit) × ((List Int × Unit) × Unit)) => ∃ k : Nat, k ≤ l.length ∧ s = (((k : Int), ()), (((a ++ uB (l.length : Int)) ++ (l.take k).flatMap iB, ()), ()))) (fun s => l.length - s.1.1.toNat) (fun _ => (((a ++ nB l, ()), (), ()), ())) ?_ fu _ ⟨0, Nat.zero_le _, by simp⟩ (by dsimp only; omega)
  rintro _ ⟨k, hk, rfl⟩
  by_cases hlt : k < l.length
  · left
    refine ⟨_, ?_, ⟨k + 1, hlt, rfl⟩, ?_, rfl⟩
    · have e1 : decide ((k : Int) < (l.length : Int)) = true := by simpa using hlt
      have e2 : decide ((0 : Int) ≤ (k : Int) ∧ (k : Int) < (l.length : Int)) = true := by simp; omega
      have e3 : decide (k < l.length) = true := by simpa using hlt
      have hb := flat_le hlt
      have hw : IntKind.wrap .i64 ((k : Int) + 1) = ((k + 1 : Nat) : Int) := by rw [wi64 (by omega) (by omega)]; omega
      simp only [e1, e2, Int.toNat_natCast, e3, cond_true]
      rw [show l.getD k (dflt (.int .i64)) = l.getD k 0 from rfl, p37_is (getD_isI hl hlt) (by first | omega | (simp only [List.length_append]; omega)) hfu]
      simp only [Option.bind_some, hw, take_flat hlt, List.append_assoc]
    · dsimp only
      omega
  · right
    have hkl : k = l.length := by omega
    subst hkl
    have e1 : decide ((l.length : Int) < (l.length : Int)) = false := by simp
    simp only [e1, cond_false, inrO, Option.map_some, List.take_length, nB, List.append_assoc]
/-- Two lists of nodes that may be written. -/
structure confOk (fu : Nat) (a b : List Int) : Prop where
  ha : ∀ x ∈ a, isI x
  hb : ∀ x ∈ b, isI x
  la : a.length ≤ 1048576
  lb : b.length ≤ 1048576
  fa : a.length < fu
  fb : b.length < fu
theorem nB_len {l : List Int} (h : ∀ x ∈ l, isI x) (hl : l.length ≤ 1048576) : (nB l).length ≤ 10 + 10 * l.length := by
  have h1 := uB_len (isU_len (n := l.length) (by omega))
  have h2 := flat_len h
  unfold nB
  rw [List.length_append]
  omega
theorem p57_is {a v l : List Int} (hc : confOk fu v l) (ha : a.length + (cB v l).length ≤ 140737488355328) (hfu : 10 < fu) : p57 fu ((a, ()), (v, l, ()), ()) = some (((a ++ cB v l, ()), (), ()), ()) := by
  have h1 := hc.la
  have h2 := hc.lb
  simp only [cB, List.length_append] at ha
  unfold p57
  simp only [eqL_t, cond_true]
  rw [p92_is hc.ha (by omega) (by omega) hfu hc.fa]
  simp only [Option.bind_some]
  rw [p92_is hc.hb (by first | omega | (simp only [List.length_append]; omega)) (by omega) hfu hc.fb]
  simp only [Option.bind_some, cB, List.append_assoc]
theorem cB_len {v l : List Int} (hc : confOk fu v l) : (cB v l).length ≤ 20971540 := by
  have h1 := hc.la
  have h2 := hc.lb
  have h3 := nB_len hc.ha h1
  have h4 := nB_len hc.hb h2
  unfold cB
  rw [List.length_append]
  omega
theorem tB_len {l : List Int} (h : l.length ≤ 140737488355328) : (tB l).length ≤ 10 + l.length := by
  have h1 := uB_len (isU_len h)
  unfold tB
  rw [List.length_append]
  omega
theorem p38_is {a : List Int} {i t k : Int} {d v l : List Int} (hi : isU i) (ht : isU t) (hk : isI k) (hc : confOk fu v l) (ha : a.length + (eB i t k d v l).length ≤ 140737488355328) (hfu : 10 < fu) : p38 fu ((a, ()), (i, t, k, d, v, l, ()), ()) = some (((a ++ eB i t k d v l, ()), (), ()), ()) := by
  simp only [eB, List.length_append] at ha
  unfold p38
  simp only [eqL_t, cond_true]
  rw [p34_is hi (by first | omega | (simp only [List.length_append]; omega)) hfu]
  simp only [Option.bind_some]
  rw [p34_is ht (by first | omega | (simp only [List.length_append]; omega)) hfu]
  simp only [Option.bind_some]
  rw [p37_is hk (by first | omega | (simp only [List.length_append]; omega)) hfu]
  simp only [Option.bind_some]
  rw [p36_is (by first | omega | (simp only [List.length_append]; omega)) hfu]
  simp only [Option.bind_some]
  rw [p57_is hc (by first | omega | (simp only [List.length_append]; omega)) hfu]
  simp only [Option.bind_some, eB, List.append_assoc]
theorem p39_is {a : List Int} {i t : Int} {d v l : List Int} (hi : isU i) (ht : isU t) (hc : confOk fu v l) (ha : a.length + (sB i t v l d).length ≤ 140737488355328) (hfu : 10 < fu) : p39 fu ((a, ()), (i, t, v, l, d, ()), ()) = some (((a ++ sB i t v l d, ()), (), ()), ()) := by
  simp only [sB, List.length_append] at ha
  unfold p39
  simp only [eqL_t, cond_true]
  rw [p34_is hi (by first | omega | (simp only [List.length_append]; omega)) hfu]
  simp only [Option.bind_some]
  rw [p34_is ht (by first | omega | (simp only [List.length_append]; omega)) hfu]
  simp only [Option.bind_some]
  rw [p57_is hc (by first | omega | (simp only [List.length_append]; omega)) hfu]
  simp only [Option.bind_some]
  rw [p36_is (by first | omega | (simp only [List.length_append]; omega)) hfu]
  simp only [Option.bind_some, sB, List.append_assoc]
theorem and8 (n m : Nat) : ((BitVec.ofInt (IntKind.bits .u8) (n : Int) &&& BitVec.ofInt (IntKind.bits .u8) (m : Int)).toNat) = (BitVec.ofNat 8 n &&& BitVec.ofNat 8 m).toNat := by
  show (BitVec.ofInt 8 (n : Int) &&& BitVec.ofInt 8 (m : Int)).toNat = _
  rw [BitVec.ofInt_natCast, BitVec.ofInt_natCast]
theorem or64 (n m : Nat) : ((BitVec.ofInt (IntKind.bits .u64) (n : Int) ||| BitVec.ofInt (IntKind.bits .u64) (m : Int)).toNat) = (BitVec.ofNat 64 n ||| BitVec.ofNat 64 m).toNat := by
  show (BitVec.ofInt 64 (n : Int) ||| BitVec.ofInt 64 (m : Int)).toNat = _
  rw [BitVec.ofInt_natCast, BitVec.ofInt_natCast]
theorem low7 (x : Nat) (h : x < 256) : IntKind.wrap .u8 ((BitVec.ofInt (IntKind.bits .u8) (x : Int) &&& BitVec.ofInt (IntKind.bits .u8) (127 : Int)).toNat : Int) = ((x % 128 : Nat) : Int) := by
  have h2 : (BitVec.ofInt (IntKind.bits .u8) (x : Int) &&& BitVec.ofInt (IntKind.bits .u8) (127 : Int)).toNat = x % 128 := by
    refine (and8 x 127).trans ?_
    rw [BitVec.toNat_and, BitVec.toNat_ofNat, BitVec.toNat_ofNat, Nat.mod_eq_of_lt h]
    exact Nat.and_two_pow_sub_one_eq_mod x 7
  rw [h2, wu8 (by omega) (by omega)]
theorem pow7 (i : Nat) (h : i ≤ 9) : (2 : Int) ^ (min (Int.toNat (IntKind.wrap .i64 ((7 : Int) * (i : Int)))) (IntKind.bits .u64)) = ((128 ^ i : Nat) : Int) := by
  have e : IntKind.wrap .i64 ((7 : Int) * (i : Int)) = ((7 * i : Nat) : Int) := by rw [wi64 (by omega) (by omega)]; omega
  rw [e, Int.toNat_natCast, Nat.min_eq_left (by show 7 * i ≤ 64; omega), show (128 : Nat) = 2 ^ 7 from rfl, ← Nat.pow_mul]
  simp
/-- What was read so far, and seven bits more. -/
theorem accum (c y i : Nat) (hi : i ≤ 9) (hc : c < 128 ^ i) (hy : c + y * 128 ^ i < 18446744073709551616) :
    IntKind.wrap .u64 ((BitVec.ofInt (IntKind.bits .u64) (c : Int) ||| BitVec.ofInt (IntKind.bits .u64) (IntKind.wrap .u64 ((IntKind.wrap .u64 (y : Int)) * 2 ^ (min (Int.toNat (IntKind.wrap .i64 ((7 : Int) * (i : Int)))) (IntKind.bits .u64))))).toNat : Int) = ((c + y * 128 ^ i : Nat) : Int) := by
  have hpos : 0 < 128 ^ i := Nat.pow_pos (by decide)
  have hy1 : y ≤ y * 128 ^ i := Nat.le_mul_of_pos_right y hpos
  rw [pow7 i hi, wu64 (x := (y : Int)) (by omega) (by omega), ← Int.natCast_mul, wu64 (x := ((y * 128 ^ i : Nat) : Int)) (by omega) (by omega)]
  have e1 : (BitVec.ofInt (IntKind.bits .u64) (c : Int) ||| BitVec.ofInt (IntKind.bits .u64) ((y * 128 ^ i : Nat) : Int)).toNat = c + y * 128 ^ i := by
    rw [or64, BitVec.toNat_or, BitVec.toNat_ofNat, BitVec.toNat_ofNat, Nat.mod_eq_of_lt (by omega), Nat.mod_eq_of_lt (by omega)]
    have e : (128 : Nat) ^ i = 2 ^ (7 * i) := by rw [show (128 : Nat) = 2 ^ 7 from rfl, ← Nat.pow_mul]
    rw [e] at hc ⊢
    have := Nat.two_pow_add_eq_or_of_lt hc y
    rw [Nat.or_comm, Nat.mul_comm y, ← this, Nat.add_comm]
  rw [e1, wu64 (by omega) (by omega)]
theorem ub_pos (v : Nat) : 0 < (ub v).length := by
  by_cases h : v < 128
  · rw [ub_small h]; exact Nat.one_pos
  · rw [ub_big h]; exact Nat.succ_pos _
theorem ub_head (v : Nat) (r : List Int) : (ub v ++ r).getD 0 0 = (((if v < 128 then v else v % 128 + 128 : Nat)) : Int) := by
  by_cases h : v < 128
  · rw [ub_small h, if_pos h]; rfl
  · rw [ub_big h, if_neg h]; rfl
/-- From the i-th byte on, what was read so far being that: the number, how many bytes it has, the error. -/
def numS : Nat → Nat → List Int → Int × Int × Int
  | _, _, [] => (0, 0, 11)
  | i, acc, x :: r => if i = 9 ∧ x ≠ 1 then (0, 0, 12) else if x = 0 ∧ 0 < i then (0, 0, 12) else if x < 128 then (((acc + x.toNat % 128 * 128 ^ i : Nat) : Int), ((i + 1 : Nat) : Int), 0) else numS (i + 1) (acc + x.toNat % 128 * 128 ^ i) r
theorem p40_any {a : List Int} (hb : ∀ x ∈ a, 0 ≤ x ∧ x ≤ 255) (_ : a.length ≤ 140737488355328) (hfu : 10 < fu) : p40 fu (a, ()) = some ((), ((numS 0 0 a).1, (numS 0 0 a).2.1, (numS 0 0 a).2.2, ())) := by
  unfold p40
  dsimp only
  refine loopO_eq (fun (s : (Int × (Int × Unit)) × Unit) => ∃ (i acc : Nat) (pre r : List Int), i ≤ 9 ∧ s = (((acc : Int), (i : Int), ()), ()) ∧ a = pre ++ r ∧ pre.length = i ∧ acc < 128 ^ i ∧ numS i acc r = numS 0 0 a) (fun s => 10 - s.1.2.1.toNat) (fun _ => ((), ((numS 0 0 a).1, (numS 0 0 a).2.1, (numS 0 0 a).2.2, ()))) ?_ fu _ ⟨0, 0, [], a, by omega, rfl, rfl, rfl, by simp, rfl⟩ (by dsimp only; omega)
  rintro _ ⟨i, acc, pre, r, hi, rfl, ha, hp, hacc, hnum⟩
  have e1 : decide ((i : Int) < 10) = true := by simp; omega
  have wi : IntKind.wrap .i64 ((i : Int) + 1) = ((i + 1 : Nat) : Int) := by rw [wi64 (by omega) (by omega)]; omega
  cases r with
  | nil =>
    right
    have hl : a.length = i := by rw [ha, List.append_nil, hp]
    have e2 : ((i : Int) == (a.length : Int)) = true := by rw [hl]; exact beq_self_eq_true _
    rw [← hnum]
    simp only [e1, e2, cond_true, numS, inrO, Option.map_some]
  | cons x r =>
    have hlen : a.length = i + (r.length + 1) := by rw [ha, List.length_append, hp, List.length_cons]
    have hx := hb x (by rw [ha]; simp)
    obtain ⟨n, rfl⟩ := Int.eq_ofNat_of_zero_le hx.1
    have hxg : List.getD a i (dflt (.int .u8)) = (n : Int) := by
      rw [ha, List.getD_eq_getElem?_getD, List.getElem?_append_right (by omega), hp, Nat.sub_self]
      rfl
    have e2 : ((i : Int) == (a.length : Int)) = false := by rw [hlen]; simp; omega
    have e3 : decide ((0 : Int) ≤ (i : Int) ∧ (i : Int) < (a.length : Int)) = true := by rw [hlen]; simp; omega
    have e4 : decide (i < a.length) = true := by rw [hlen]; simp
    have e7 : decide ((0 : Int) ≤ IntKind.wrap .i64 ((7 : Int) * (i : Int))) = true := by rw [wi64 (by omega) (by omega)]; simp; omega
    by_cases h9 : i = 9 ∧ (n : Int) ≠ 1
    · right
      obtain ⟨h9, hn1⟩ := h9
      have hd : numS i acc ((n : Int) :: r) = (0, 0, 12) := by rw [numS, if_pos ⟨h9, hn1⟩]
      rw [← hnum, hd]
      have g1 : ((i : Int) == 9) = true := by rw [h9]; rfl
      have g2 : ((n : Int) != 1) = true := bne_iff_ne.2 hn1
      simp only [e1, e2, e3, e4, Int.toNat_natCast, hxg, cond_true, cond_false, g1, g2, inrO, Option.map_some, orK_inr]
    · by_cases h0 : (n : Int) = 0 ∧ 0 < i
      · right
        obtain ⟨hn0, hi0⟩ := h0
        have hi9 : i ≠ 9 := fun e => h9 ⟨e, by omega⟩
        have hd : numS i acc ((n : Int) :: r) = (0, 0, 12) := by rw [numS, if_neg h9, if_pos ⟨hn0, hi0⟩]
        rw [← hnum, hd]
        have g1 : ((i : Int) == 9) = false := by simp; omega
        have g2 : ((n : Int) == 0) = true := beq_iff_eq.2 hn0
        have g3 : decide ((i : Int) > 0) = true := by simp; omega
        simp only [e1, e2, e3, e4, Int.toNat_natCast, hxg, cond_true, cond_false, g1, g2, g3, inrO, Option.map_some, orK_inr]
      · have hpow : i = 9 → (128 : Nat) ^ i = 9223372036854775808 := fun e => by rw [e]
        have hpow8 : i ≤ 8 → (128 : Nat) ^ i ≤ 72057594037927936 := fun e => by
          have := Nat.pow_le_pow_right (n := 128) (by decide) e
          have e8 : (128 : Nat) ^ 8 = 72057594037927936 := by decide
          omega
        have hmul : n % 128 * 128 ^ i ≤ 127 * 128 ^ i := Nat.mul_le_mul_right _ (by omega)
        have hbound : acc + n % 128 * 128 ^ i < 18446744073709551616 := by
          by_cases e9 : i = 9
          · have hn1 : (n : Int) = 1 := Decidable.byContradiction fun k => h9 ⟨e9, k⟩
            have hn1' : n = 1 := by omega
            have := hpow e9
            rw [hn1'] at hmul ⊢
            rw [this] at hacc ⊢
            omega
          · have := hpow8 (by omega)
            generalize 128 ^ i = q at *
            omega
        have hac := accum acc (n % 128) i hi hacc hbound
        by_cases h128 : (n : Int) < 128
        · right
          have hd : numS i acc ((n : Int) :: r) = (((acc + n % 128 * 128 ^ i : Nat) : Int), ((i + 1 : Nat) : Int), 0) := by rw [numS, if_neg h9, if_neg h0, if_pos h128]; rfl
          rw [← hnum, hd]
          have e8 : decide ((n : Int) < 128) = true := decide_eq_true h128
          simp only [e1, e2, e3, e4, Int.toNat_natCast, hxg, cond_true, cond_false, e7, e8, low7 n (by omega), hac, wi]
          by_cases e9 : i = 9
          · have hn1 : (n : Int) = 1 := Decidable.byContradiction fun k => h9 ⟨e9, k⟩
            have hn1' : n = 1 := by omega
            subst e9 hn1'
            rfl
          · have g1 : ((i : Int) == 9) = false := by simp; omega
            rw [g1]
            by_cases hn0 : n = 0
            · have hi0 : i = 0 := Decidable.byContradiction fun k => h0 ⟨by omega, by omega⟩
              subst hi0 hn0
              rfl
            · have g2 : ((n : Int) == 0) = false := by simp; omega
              rw [g2]
              rfl
        · left
          have e9 : i ≠ 9 := fun e => h9 ⟨e, by omega⟩
          have hd : numS i acc ((n : Int) :: r) = numS (i + 1) (acc + n % 128 * 128 ^ i) r := by rw [numS, if_neg h9, if_neg h0, if_neg h128]; rfl
          have e8 : decide ((n : Int) < 128) = false := decide_eq_false h128
          have g1 : ((i : Int) == 9) = false := by simp; omega
          have g2 : ((n : Int) == 0) = false := by simp; omega
          refine ⟨((((acc + n % 128 * 128 ^ i : Nat) : Int), ((i + 1 : Nat) : Int), ()), ()), ?_, ⟨i + 1, acc + n % 128 * 128 ^ i, pre ++ [(n : Int)], r, by omega, rfl, ?_, ?_, ?_, ?_⟩, ?_, rfl⟩
          · simp only [e1, e2, e3, e4, Int.toNat_natCast, hxg, cond_true, cond_false, e7, e8, g1, g2, low7 n (by omega), hac, wi, orK_inl]
          · rw [ha]; simp
          · simp [hp]
          · rw [Nat.pow_succ]
            generalize 128 ^ i = q at *
            omega
          · rw [← hd]; exact hnum
          · dsimp only
            omega
/-- The document's reader after a number. -/
def afterU (a : List Int) (c h : Int) (r : Int × Int × Int) : (((List Int × Int × Int × Int × Unit) × Unit) × Int) :=
  if r.2.2 = 0 then (((a, c + r.2.1, 0, h, ()), ()), r.1) else (((a, c, r.2.2, c, ()), ()), 0)
inductive RR (α : Type) where
  | ok (c : Nat) (v : α)
  | er (e q : Int)
def RR.bind {α β : Type} : RR α → (Nat → α → RR β) → RR β
  | .ok c v, k => k c v
  | .er e q, _ => .er e q
def uS (a : List Int) (c : Nat) : RR Int :=
  if (numS 0 0 (a.drop c)).2.2 = 0 then .ok (c + (numS 0 0 (a.drop c)).2.1.toNat) (numS 0 0 (a.drop c)).1 else .er (numS 0 0 (a.drop c)).2.2 c
def unzz (v : Int) : Int := if v % 2 = 1 then -(v / 2) - 1 else v / 2
def iS (a : List Int) (c : Nat) : RR Int := (uS a c).bind fun c v => .ok c (unzz v)
def cntS (a : List Int) (m : Int) (c : Nat) : RR Int :=
  (uS a c).bind fun c1 v => if m < 0 ∨ v > m then .er 13 (c : Int) else if v > ((a.length - c1 : Nat) : Int) then .er 11 (c : Int) else .ok c1 v
def bytS (a : List Int) (m : Int) (c : Nat) : RR (List Int) := (cntS a m c).bind fun c1 n => .ok (c1 + n.toNat) ((a.drop c1).take n.toNat)
def strS (a : List Int) (m : Int) (c : Nat) : RR ByteArray := (bytS a m c).bind fun c1 l => .ok c1 (strOfNums l)
def boolS (a : List Int) (c : Nat) : RR Bool := if a.length ≤ c then .er 11 (c : Int) else if a.getD c 0 > 1 then .er 16 (c : Int) else .ok (c + 1) (a.getD c 0 == 1)
def nodS (a : List Int) : Nat → List Int → Nat → RR (List Int)
  | 0, l, c => .ok c l
  | n + 1, l, c => (iS a c).bind fun c1 x => nodS a n (l ++ [x]) c1
def ndsS (a : List Int) (c : Nat) : RR (List Int) := (cntS a 7 c).bind fun c1 n => nodS a n.toNat [] c1
def confS (a : List Int) (c : Nat) : RR (List Int × List Int × Unit) := (ndsS a c).bind fun c1 l => (ndsS a c1).bind fun c2 m => .ok c2 (l, m, ())
def kindS (a : List Int) (c : Nat) : RR Int := (iS a c).bind fun c1 k => if k < 1 ∨ k > 3 then .er 16 (c : Int) else .ok c1 k
def entS (a : List Int) (c : Nat) : RR (Int × Int × Int × List Int × List Int × List Int × Unit) :=
  (uS a c).bind fun c i => (uS a c).bind fun c t => (kindS a c).bind fun c k => (bytS a 262144 c).bind fun c d => (confS a c).bind fun c f => .ok c (i, t, k, d, f)
def snapS (a : List Int) (c : Nat) : RR (Int × Int × List Int × List Int × List Int × Unit) :=
  (uS a c).bind fun c i => (uS a c).bind fun c t => (confS a c).bind fun c f => (bytS a 262144 c).bind fun c d => .ok c (i, t, f.1, f.2.1, d, ())
def rngS (a : List Int) (c : Nat) : RR (ByteArray × ByteArray × Unit) := (strS a 32 c).bind fun c l => (strS a 32 c).bind fun c h => .ok c (l, h, ())
def recS (a : List Int) (c : Nat) : RR (Int × ByteArray × List Int × Int × Int × Unit) :=
  (uS a c).bind fun c o => (strS a 32 c).bind fun c k => (bytS a 256 c).bind fun c v => (uS a c).bind fun c p => (uS a c).bind fun c s => .ok c (o, k, v, p, s, ())

abbrev ER := Bool × ((Int × (Int × Unit)) × Unit)
abbrev noR : ER := (false, dflt (.pair (.int .i64) (.pair (.int .i64) .unit)), ())
abbrev erR (e c : Int) : ER := (true, (e, c, ()), dflt .unit)
abbrev PT := List Int × Int × ER × Unit
abbrev DT := List Int × Int × Int × Int × Unit
/-- The program's answer, and the place. -/
def PR {α : Type} (a : List Int) (d : α) (r : RR α) (P : α → Prop) (o : Option ((PT × Unit × Unit) × α)) : Prop :=
  match r with
  | .ok c v => c ≤ a.length ∧ P v ∧ o = some (((a, (c : Int), noR, ()), (), ()), v)
  | .er e q => e ≠ 0 ∧ ∃ c, o = some (((a, c, erR e q, ()), (), ()), d)
/-- The document's. -/
def DR {α : Type} (a : List Int) (d : α) (r : RR α) (P : α → Prop) (o : Option ((DT × Unit) × α)) : Prop :=
  match r with
  | .ok c v => c ≤ a.length ∧ P v ∧ o = some (((a, (c : Int), 0, 0, ()), ()), v)
  | .er e q => e ≠ 0 ∧ ∃ c, o = some (((a, c, e, q, ()), ()), d)
structure okA (fu : Nat) (a : List Int) : Prop where
  hb : ∀ x ∈ a, 0 ≤ x ∧ x ≤ 255
  hn : a.length ≤ 140737488355328
  hfu : 10 < fu
theorem okA.dr {fu : Nat} {a : List Int} (h : okA fu a) (c : Nat) : ∀ x ∈ a.drop c, 0 ≤ x ∧ x ≤ 255 := fun x hx => h.hb x (List.mem_of_mem_drop hx)
theorem numS_facts : ∀ (r : List Int) (i acc : Nat), (∃ v k : Nat, numS i acc r = ((v : Int), (k : Int), 0) ∧ i < k ∧ k ≤ i + r.length) ∨ (∃ e : Int, e ≠ 0 ∧ numS i acc r = (0, 0, e))
  | [], _, _ => .inr ⟨11, by decide, rfl⟩
  | x :: r, i, acc => by
    rw [numS]
    split
    · exact .inr ⟨12, by decide, rfl⟩
    · split
      · exact .inr ⟨12, by decide, rfl⟩
      · split
        · exact .inl ⟨_, _, rfl, by omega, by simp only [List.length_cons]; omega⟩
        · rcases numS_facts r (i + 1) (acc + x.toNat % 128 * 128 ^ i) with ⟨v, k, h1, h2, h3⟩ | h
          · exact .inl ⟨v, k, h1, by omega, by simp only [List.length_cons]; omega⟩
          · exact .inr h
/-- A number that is read is one. -/
theorem numS_u : ∀ (r : List Int) (i acc : Nat) (v k : Int), (∀ x ∈ r, 0 ≤ x ∧ x ≤ 255) → i ≤ 9 → acc < 128 ^ i → numS i acc r = (v, k, 0) → isU v
  | [], i, acc, v, k, _, _, _, h => by simp [numS] at h
  | x :: r, i, acc, v, k, hb, hi, ha, h => by
    have hx := hb x (by simp)
    obtain ⟨n, rfl⟩ := Int.eq_ofNat_of_zero_le hx.1
    have hpow : i = 9 → (128 : Nat) ^ i = 9223372036854775808 := fun e => by rw [e]
    have hpow8 : i ≤ 8 → (128 : Nat) ^ i ≤ 72057594037927936 := fun e => by
      have := Nat.pow_le_pow_right (n := 128) (by decide) e
      have e8 : (128 : Nat) ^ 8 = 72057594037927936 := by decide
      omega
    have hmul : n % 128 * 128 ^ i ≤ 127 * 128 ^ i := Nat.mul_le_mul_right _ (by omega)
    rw [numS] at h
    split at h
    · simp at h
    · rename_i h9
      split at h
      · simp at h
      · split at h
        · simp only [Prod.mk.injEq, Int.toNat_natCast, and_true] at h
          rw [← h.1]
          unfold isU
          by_cases e9 : i = 9
          · have hn1 : (n : Int) = 1 := Decidable.byContradiction fun k => h9 ⟨e9, k⟩
            have hn1' : n = 1 := by omega
            have := hpow e9
            rw [hn1'] at hmul ⊢
            rw [this] at ha ⊢
            omega
          · have := hpow8 (by omega)
            generalize 128 ^ i = q at *
            omega
        · rename_i h128
          have e9 : i ≠ 9 := fun e => h9 ⟨e, by omega⟩
          refine numS_u r (i + 1) _ v k (fun y hy => hb y (by simp [hy])) (by omega) ?_ h
          rw [Nat.pow_succ, Int.toNat_natCast]
          generalize 128 ^ i = q at *
          omega
/-- What a number's reading gives. -/
theorem uS_cases {fu : Nat} {a : List Int} {c : Nat} (h : okA fu a) (hc : c ≤ a.length) :
    (∃ v k : Nat, numS 0 0 (a.drop c) = ((v : Int), (k : Int), 0) ∧ uS a c = .ok (c + k) (v : Int) ∧ c + k ≤ a.length ∧ isU (v : Int)) ∨ (∃ e : Int, e ≠ 0 ∧ numS 0 0 (a.drop c) = (0, 0, e) ∧ uS a c = .er e c) := by
  rcases numS_facts (a.drop c) 0 0 with ⟨v, k, hnum, hk0, hk⟩ | ⟨e, he, hnum⟩
  · refine .inl ⟨v, k, hnum, ?_, ?_, numS_u _ 0 0 _ _ (h.dr c) (by omega) (by decide) hnum⟩
    · unfold uS
      rw [hnum, if_pos rfl]
      rfl
    · rw [List.length_drop] at hk; omega
  · refine .inr ⟨e, he, hnum, ?_⟩
    unfold uS
    rw [hnum, if_neg he]
theorem unzz_i {v : Int} (h : isU v) : isI (unzz v) := by
  obtain ⟨h1, h2⟩ := h
  unfold unzz isI
  split <;> omega
theorem xor1 (n : Nat) (h : n < 18446744073709551616) : IntKind.wrap .i64 (IntKind.wrap .u64 ((BitVec.ofInt (IntKind.bits .u64) (Int.fdiv (n : Int) (2 ^ (min (Int.toNat (1 : Int)) (IntKind.bits .u64)))) ^^^ BitVec.ofInt (IntKind.bits .u64) (IntKind.wrap .u64 (0 - (IntKind.wrap .u64 ((BitVec.ofInt (IntKind.bits .u64) (n : Int) &&& BitVec.ofInt (IntKind.bits .u64) (1 : Int)).toNat : Int))))).toNat : Int)) = unzz (n : Int) := by
  have e1 : (BitVec.ofInt (IntKind.bits .u64) (n : Int) &&& BitVec.ofInt (IntKind.bits .u64) (1 : Int)).toNat = n % 2 := by
    refine (and64 n 1).trans ?_
    rw [BitVec.toNat_and, BitVec.toNat_ofNat, BitVec.toNat_ofNat, Nat.mod_eq_of_lt h]
    exact Nat.and_two_pow_sub_one_eq_mod n 1
  have e2 : Int.fdiv (n : Int) (2 ^ (min (Int.toNat (1 : Int)) (IntKind.bits .u64))) = ((n / 2 : Nat) : Int) := by
    show Int.fdiv (n : Int) 2 = _
    rw [Int.fdiv_eq_ediv_of_nonneg _ (by decide)]
    rfl
  have em : ∀ x : Int, IntKind.wrap .u64 x = x % 18446744073709551616 := fun x => rfl
  rw [e1, e2, wu64 (x := ((n % 2 : Nat) : Int)) (by omega) (by omega)]
  unfold unzz
  by_cases hodd : n % 2 = 1
  · have d1 : IntKind.wrap .u64 (0 - ((n % 2 : Nat) : Int)) = ((18446744073709551615 : Nat) : Int) := by rw [em]; omega
    rw [d1, xor64, xorAll _ (by omega), if_pos (by omega), wu64 (by omega) (by omega)]
    have hm : IntKind.wrap .i64 ((18446744073709551615 - n / 2 : Nat) : Int) = -((n : Int) / 2) - 1 := by
      have e1 : (2 : Int) ^ IntKind.bits .i64 = 18446744073709551616 := rfl
      have e2 : (2 : Int) ^ (IntKind.bits .i64 - 1) = 9223372036854775808 := rfl
      unfold IntKind.wrap
      simp only [e1, e2]
      split
      · omega
      · rename_i h
        simp [IntKind.signed] at h
        omega
    rw [hm]
  · have d1 : IntKind.wrap .u64 (0 - ((n % 2 : Nat) : Int)) = ((0 : Nat) : Int) := by rw [em]; omega
    rw [d1, xor64, show BitVec.ofNat 64 0 = 0#64 from rfl, BitVec.xor_zero, BitVec.toNat_ofNat, Nat.mod_eq_of_lt (by omega), wu64 (by omega) (by omega), wi64 (by omega) (by omega), if_neg (by omega)]
    omega
theorem len8 {n : Nat} (h : n ≤ 16) : (n ≤ maxLen ∧ n * 8 ≤ 140737488355328) := ⟨Nat.le_trans h (by decide), by omega⟩
theorem sub_all {a : List Int} {c : Nat} (_ : c ≤ a.length) : sub' a c (a.length - c) = a.drop c := by
  rw [sub'_eq, List.take_of_length_le (by rw [List.length_drop]; omega)]
theorem p43_2_er {a : List Int} {c e q j k : Int} : p43_2 fu ((a, c, erR e q, ()), j, k, ()) = some (((a, c, erR e q, ()), (), ()), ()) := by
  unfold p43_2
  simp only [cond_true, eqL_t]
theorem p43_2_ok {a : List Int} {c j k : Int} (hk : k ≠ 0) : p43_2 fu ((a, c, noR, ()), j, k, ()) = some (((a, c, erR k j, ()), (), ()), ()) := by
  have g : (k != 0) = true := bne_iff_ne.2 hk
  unfold p43_2
  simp only [cond_true, cond_false, eqL_t, g]
theorem p43_2_no {a : List Int} {c j : Int} : p43_2 fu ((a, c, noR, ()), j, 0, ()) = some (((a, c, noR, ()), (), ()), ()) := by
  unfold p43_2
  simp only [cond_true, cond_false, eqL_t, bne_self_eq_false]
theorem p41R_ok {a : List Int} {c : Int} : p41 fu ((a, c, (), ()), 0, ()) = some (((a, c, noR, ()), (), ()), ()) := by
  unfold p41 p43
  simp only [bne_self_eq_false, cond_false, Option.bind_some, eqL_t, cond_true]
theorem p41R_er {a : List Int} {c e : Int} (he : e ≠ 0) : p41 fu ((a, c, (), ()), e, ()) = some (((a, c, erR e c, ()), (), ()), ()) := by
  have g : (e != 0) = true := bne_iff_ne.2 he
  unfold p41 p43
  simp only [g, cond_true, Option.bind_some, eqL_t]
theorem p15_er {a : List Int} {c e q : Int} : p15_2 fu ((a, c, erR e q, ()), ()) = some (((a, c, erR e q, ()), (), ()), 0) := by
  unfold p15_2
  simp only [cond_true, eqL_t]
theorem p15P {a : List Int} {c : Nat} (h : okA fu a) (hc : c ≤ a.length) : PR a 0 (uS a c) isU (p15_2 fu ((a, (c : Int), noR, ()), ())) := by
  have e1 : decide ((0 : Int) ≤ (c : Int)) = true := by simp
  have e2 : decide (c ≤ a.length ∧ 0 + a.length ≤ a.length) = true := by simp; omega
  have e3 : decide (c + (a.length - c) ≤ a.length) = true := by simp; omega
  have hl := h.hn
  rcases uS_cases h hc with ⟨v, k, hnum, hu, hk, hv⟩ | ⟨e, he, hnum, hu⟩
  · have hw : IntKind.wrap .i64 ((c : Int) + (k : Int)) = ((c + k : Nat) : Int) := by rw [wi64 (by omega) (by omega)]; omega
    rw [hu]
    refine ⟨hk, hv, ?_⟩
    unfold p15_2
    simp only [cond_false, e1, Int.toNat_natCast, e2, e3, cond_true, eqL_t]
    rw [sub_all hc, p40_any (h.dr c) (by rw [List.length_drop]; omega) h.hfu, hnum]
    simp only [Option.bind_some]
    rw [p41R_ok]
    simp only [Option.bind_some, cond_false, hw]
  · have hw : IntKind.wrap .i64 ((c : Int) + 0) = (c : Int) := by rw [wi64 (by omega) (by omega)]; omega
    rw [hu]
    refine ⟨he, c, ?_⟩
    unfold p15_2
    simp only [cond_false, e1, Int.toNat_natCast, e2, e3, cond_true, eqL_t]
    rw [sub_all hc, p40_any (h.dr c) (by rw [List.length_drop]; omega) h.hfu, hnum]
    simp only [Option.bind_some]
    rw [p41R_er he]
    simp only [Option.bind_some, cond_true, hw]
theorem xor0 : IntKind.wrap .i64 (IntKind.wrap .u64 ((BitVec.ofInt (IntKind.bits .u64) (Int.fdiv (0 : Int) (2 ^ (min (Int.toNat (1 : Int)) (IntKind.bits .u64)))) ^^^ BitVec.ofInt (IntKind.bits .u64) (IntKind.wrap .u64 (0 - (IntKind.wrap .u64 ((BitVec.ofInt (IntKind.bits .u64) (0 : Int) &&& BitVec.ofInt (IntKind.bits .u64) (1 : Int)).toNat : Int))))).toNat : Int)) = 0 := xor1 0 (by decide)
theorem p48_er {a : List Int} {c e q : Int} : p48_2 fu ((a, c, erR e q, ()), ()) = some (((a, c, erR e q, ()), (), ()), 0) := by
  unfold p48_2
  simp only [cond_true]
  rw [p15_er]
  simp only [Option.bind_some, cond_true, eqL_t]
  rw [xor0]
theorem p48P {a : List Int} {c : Nat} (h : okA fu a) (hc : c ≤ a.length) : PR a 0 (iS a c) isI (p48_2 fu ((a, (c : Int), noR, ()), ())) := by
  have hp := p15P h hc
  unfold iS p48_2
  simp only [cond_false]
  rcases hu : uS a c with ⟨c1, v⟩ | ⟨e, q⟩
  · rw [hu] at hp
    obtain ⟨h1, h2, h3⟩ := hp
    rw [h3]
    obtain ⟨n, rfl⟩ := Int.eq_ofNat_of_zero_le h2.1
    simp only [Option.bind_some, cond_false, eqL_t, cond_true, RR.bind]
    rw [xor1 n (by have := h2.2; omega)]
    exact ⟨h1, unzz_i h2, rfl⟩
  · rw [hu] at hp
    obtain ⟨h1, c2, h3⟩ := hp
    rw [h3]
    simp only [Option.bind_some, eqL_t, cond_true, RR.bind]
    rw [xor0]
    exact ⟨h1, c2, rfl⟩
theorem p44_er {a : List Int} {c e q j : Int} : p44_2 fu ((a, c, erR e q, ()), j, ()) = some (((a, c, erR e q, ()), (), ()), 0) := by
  unfold p44_2
  simp only [cond_true, eqL_t]
theorem p44_ok {a : List Int} {c j : Int} : p44_2 fu ((a, c, noR, ()), j, ()) = some (((a, c, noR, ()), (), ()), j) := by
  unfold p44_2
  simp only [cond_true, cond_false, eqL_t]
theorem p17_er {a : List Int} {c e q j : Int} : p17_2 fu ((a, c, erR e q, ()), j, ()) = some (((a, c, erR e q, ()), (), ()), 0) := by
  unfold p17_2
  simp only [cond_true]
  rw [p15_er]
  simp only [Option.bind_some, cond_true, eqL_t, p43_2_er, p44_er]
  rcases Bool.eq_false_or_eq_true (decide (j < 0)) with g | g <;> rcases Bool.eq_false_or_eq_true (decide ((0 : Int) > IntKind.wrap .u64 j)) with g2 | g2 <;> simp only [g, g2, cond_true, cond_false, orK_inl, Bool.cond_self]
theorem p17P {a : List Int} {c : Nat} {j : Int} (h : okA fu a) (hc : c ≤ a.length) (hj : isI j) : PR a 0 (cntS a j c) (fun n => ∃ k : Nat, n = (k : Int) ∧ k ≤ a.length ∧ ∀ c1 v, uS a c = .ok c1 v → c1 + k ≤ a.length ∧ n ≤ j) (p17_2 fu ((a, (c : Int), noR, ()), j, ())) := by
  have hp := p15P h hc
  have hl := h.hn
  obtain ⟨hj1, hj2⟩ := hj
  unfold cntS p17_2
  simp only [cond_false]
  rcases hu : uS a c with ⟨c1, v⟩ | ⟨e, q⟩
  · rw [hu] at hp
    obtain ⟨h1, ⟨h2, h2'⟩, h3⟩ := hp
    rw [h3]
    simp only [Option.bind_some, cond_false, RR.bind]
    have hw2 : IntKind.wrap .u64 (IntKind.wrap .i64 ((a.length : Int) - (c1 : Int))) = ((a.length - c1 : Nat) : Int) := by rw [wi64 (by omega) (by omega), wu64 (by omega) (by omega)]; omega
    by_cases hbad : j < 0 ∨ v > j
    · rw [if_pos hbad]
      refine ⟨by decide, c1, ?_⟩
      by_cases g : j < 0
      · simp only [decide_eq_true g, cond_true, eqL_t, orK_inl, p43_2_ok (show (13 : Int) ≠ 0 by decide), Option.bind_some, p43_2_er, p44_er, Bool.cond_self]
      · have g2 : v > IntKind.wrap .u64 j := by rw [wu64 (by omega) (by omega)]; omega
        simp only [decide_eq_false g, decide_eq_true g2, cond_true, eqL_t, orK_inl, p43_2_ok (show (13 : Int) ≠ 0 by decide), Option.bind_some, p43_2_er, p44_er, Bool.cond_self]
    · rw [if_neg hbad]
      have g : ¬ j < 0 := fun k => hbad (.inl k)
      have g2 : ¬ v > IntKind.wrap .u64 j := by rw [wu64 (by omega) (by omega)]; omega
      simp only [decide_eq_false g, decide_eq_false g2, cond_true, cond_false, eqL_t, orK_inl, hw2]
      by_cases g3 : v > ((a.length - c1 : Nat) : Int)
      · rw [if_pos g3]
        refine ⟨by decide, c1, ?_⟩
        simp only [decide_eq_true g3, cond_true, orK_inl, p43_2_ok (show (11 : Int) ≠ 0 by decide), Option.bind_some, p44_er]
      · rw [if_neg g3]
        have hwv : IntKind.wrap .i64 v = v := wi64 (by omega) (by omega)
        refine ⟨h1, ⟨v.toNat, by omega, by omega, fun c1' v' e => ?_⟩, ?_⟩
        · injection e with e1 e2
          subst e1 e2
          omega
        · simp only [decide_eq_false g3, cond_false, orK_inl, p44_ok, Option.bind_some, hwv]
  · rw [hu] at hp
    obtain ⟨h1, c2, h3⟩ := hp
    rw [h3]
    simp only [Option.bind_some, eqL_t, cond_true, RR.bind, p43_2_er, p44_er]
    refine ⟨h1, c2, ?_⟩
    rcases Bool.eq_false_or_eq_true (decide (j < 0)) with g | g <;> rcases Bool.eq_false_or_eq_true (decide ((0 : Int) > IntKind.wrap .u64 j)) with g2 | g2 <;> simp only [g, g2, cond_true, cond_false, orK_inl, Bool.cond_self]
theorem sl_eq (l : List Int) (i j : Nat) : slice' l i (some j) = (l.drop i).take (j - i) := by
  cases i <;> simp [slice']
theorem p45_er {a : List Int} {c e q j : Int} : p45_2 fu ((a, c, erR e q, ()), j, ()) = some (((a, c, erR e q, ()), (), ()), []) := by
  unfold p45_2
  simp only [cond_true, eqL_t]
theorem p45_short {a : List Int} {c j : Nat} (hc : c ≤ a.length) (hn : a.length ≤ 140737488355328) (h : a.length < c + j) : p45_2 fu ((a, (c : Int), noR, ()), (j : Int), ()) = some (((a, (c : Int), erR 11 (c : Int), ()), (), ()), []) := by
  have e1 : decide ((j : Int) > IntKind.wrap .i64 ((a.length : Int) - (c : Int))) = true := by rw [wi64 (by omega) (by omega)]; simp; omega
  unfold p45_2
  simp only [cond_false, e1, cond_true, eqL_t]
  rw [p41R_er (by decide)]
  simp only [Option.bind_some, cond_true]
theorem p45_ok {a : List Int} {c j : Nat} (hn : a.length ≤ 140737488355328) (h : c + j ≤ a.length) : p45_2 fu ((a, (c : Int), noR, ()), (j : Int), ()) = some (((a, ((c + j : Nat) : Int), noR, ()), (), ()), (a.drop c).take j) := by
  have e1 : decide ((j : Int) > IntKind.wrap .i64 ((a.length : Int) - (c : Int))) = false := by rw [wi64 (by omega) (by omega)]; simp; omega
  have w1 : IntKind.wrap .i64 ((c : Int) + (j : Int)) = ((c + j : Nat) : Int) := by rw [wi64 (by omega) (by omega)]; omega
  have w2 : IntKind.wrap .i64 (((c + j : Nat) : Int) - (j : Int)) = (c : Int) := by rw [wi64 (by omega) (by omega)]; omega
  have e2 : decide ((0 : Int) ≤ (c : Int)) = true := by simp
  have e3 : decide ((0 : Int) ≤ ((c + j : Nat) : Int)) = true := by simp; omega
  have e4 : decide (c ≤ c + j ∧ 0 + (c + j) ≤ a.length) = true := by simp; omega
  have e6 : decide (c + (c + j - c) ≤ a.length) = true := by simp; omega
  have es : sub' a c (c + j - c) = (a.drop c).take j := by rw [sub'_eq, Nat.add_sub_cancel_left]
  have hl : ((a.drop c).take j).length ≤ 140737488355328 := by rw [List.length_take, List.length_drop]; omega
  have e5 : (((a.drop c).take j).length ≤ maxLen ∧ ((a.drop c).take j).length * 1 ≤ 140737488355328) = True := eq_true ⟨Nat.le_trans hl (by decide), by omega⟩
  unfold p45_2
  simp only [cond_false, e1, w1, w2, e2, e3, Int.toNat_natCast, e4, e6, es, e5, decide_true, eqL_t, cond_true]
theorem p67_er {a : List Int} {c e q j : Int} : p67_2 fu ((a, c, erR e q, ()), j, ()) = some (((a, c, erR e q, ()), (), ()), []) := by
  unfold p67_2
  simp only [cond_true, p17_er, p45_er, Option.bind_some, eqL_t]
def isBs (a l : List Int) : Prop := l.length ≤ a.length ∧ ∀ x ∈ l, 0 ≤ x ∧ x ≤ 255
theorem p67P {a : List Int} {c : Nat} {j : Int} (h : okA fu a) (hc : c ≤ a.length) (hj : isI j) : PR a [] (bytS a j c) (isBs a) (p67_2 fu ((a, (c : Int), noR, ()), j, ())) := by
  have hp := p17P (fu := fu) h hc hj
  unfold bytS p67_2
  simp only [cond_false]
  rcases hu : cntS a j c with ⟨c1, v⟩ | ⟨e, q⟩
  · rw [hu] at hp
    obtain ⟨h1, ⟨k, rfl, h2, h2'⟩, h3⟩ := hp
    rw [h3]
    simp only [Option.bind_some, cond_false, RR.bind, Int.toNat_natCast]
    have hck : c1 + k ≤ a.length := by
      rcases hu1 : uS a c with ⟨c1', v'⟩ | ⟨e, q⟩
      · have h4 := h2' _ _ hu1
        unfold cntS at hu
        rw [hu1] at hu
        simp only [RR.bind] at hu
        split at hu
        · cases hu
        · split at hu
          · cases hu
          · injection hu with hu2 hu3
            omega
      · unfold cntS at hu
        rw [hu1] at hu
        cases hu
    rw [p45_ok h.hn hck]
    simp only [Option.bind_some, cond_false, eqL_t, cond_true]
    exact ⟨hck, ⟨by rw [List.length_take, List.length_drop]; omega, fun x hx => h.hb x (List.mem_of_mem_drop (List.mem_of_mem_take hx))⟩, rfl⟩
  · rw [hu] at hp
    obtain ⟨h1, c2, h3⟩ := hp
    rw [h3]
    simp only [Option.bind_some, eqL_t, cond_true, RR.bind, p45_er]
    exact ⟨h1, c2, rfl⟩
theorem p96_er {a : List Int} {c e q : Int} (hfu : 10 < fu) : p96_2 fu ((a, c, erR e q, ()), ()) = some (((a, c, erR e q, ()), (), ()), []) := by
  obtain ⟨f, rfl⟩ : ∃ f, fu = f + 1 := ⟨fu - 1, by omega⟩
  unfold p96_2
  simp only [cond_true, p17_er, Option.bind_some]
  simp only [loopO, cond_true, eqL_t, Int.lt_irrefl, decide_false, cond_false, inrO, Option.map_some]
/-- Behind an error nothing more is read, and in the end nothing is told. -/
theorem nodS_len : ∀ (n : Nat) (a l : List Int) (c c' : Nat) (l' : List Int), nodS a n l c = .ok c' l' → l'.length = l.length + n
  | 0, a, l, c, c', l', h => by
    injection h with _ h2
    rw [← h2]
    rfl
  | n + 1, a, l, c, c', l', h => by
    rw [nodS] at h
    rcases hu : iS a c with ⟨c1, v⟩ | ⟨e, q⟩
    · rw [hu] at h
      have := nodS_len n a _ _ _ _ h
      rw [this, List.length_append, List.length_singleton]
      omega
    · rw [hu] at h
      cases h
/-- The rounds of a list's reading, told by what is left. -/
def NodI (a : List Int) (m : Nat) (s : (List Int × Int × Unit) × (PT × Unit)) : Prop :=
  ∃ (k : Nat) (l : List Int), k ≤ m ∧ l.length = k ∧ ((∃ c : Nat, c ≤ a.length ∧ (∀ x ∈ l, isI x) ∧ s = ((l, (k : Int), ()), ((a, (c : Int), noR, ()), ()))) ∨ (∃ c e q : Int, e ≠ 0 ∧ s = ((l, (k : Int), ()), ((a, c, erR e q, ()), ()))))
/-- The program's answer, and the place; behind an error whatever it is. -/
def PX {α : Type} (a : List Int) (r : RR α) (P : α → Prop) (o : Option ((PT × Unit × Unit) × α)) : Prop :=
  match r with
  | .ok c v => c ≤ a.length ∧ P v ∧ o = some (((a, (c : Int), noR, ()), (), ()), v)
  | .er e q => e ≠ 0 ∧ ∃ c d, o = some (((a, c, erR e q, ()), (), ()), d)
theorem loop_G {S R : Type} {f : S → Option (S ⊕ R)} {n : Nat} {s : S} (G : Option R → Prop) (I : S → Prop) (m : S → Nat) (hs : I s) (hn : m s < n) (h : ∀ s, I s → ∃ o, f s = some o ∧ LStep I m (fun r => G (some r)) s o) : G (loopO n f s) := by
  obtain ⟨r, h1, h2⟩ := loopO_rule I m _ h n s hs hn
  rw [h1]
  exact h2
theorem cntS_ok {a : List Int} {m : Int} {c c1 : Nat} {v : Int} (h : cntS a m c = .ok c1 v) : v ≤ m ∧ v ≤ ((a.length - c1 : Nat) : Int) ∧ ∃ k, uS a c = .ok c1 k := by
  unfold cntS at h
  rcases hu : uS a c with ⟨c1', v'⟩ | ⟨e, q⟩
  · rw [hu] at h
    simp only [RR.bind] at h
    split at h
    · cases h
    · split at h
      · cases h
      · injection h with h1 h2
        subst h1 h2
        exact ⟨by omega, by omega, _, rfl⟩
  · rw [hu] at h
    cases h
def okL (l : List Int) : Prop := l.length ≤ 7 ∧ ∀ x ∈ l, isI x
def NI (a : List Int) (m : Nat) (r : RR (List Int)) (s : (List Int × Int × Unit) × (PT × Unit)) : Prop :=
  ∃ (k : Nat) (l : List Int), k ≤ m ∧ l.length = k ∧ (∀ x ∈ l, isI x) ∧ ((∃ c : Nat, c ≤ a.length ∧ nodS a (m - k) l c = r ∧ s = ((l, (k : Int), ()), ((a, (c : Int), noR, ()), ()))) ∨ (∃ c e q : Int, e ≠ 0 ∧ r = .er e q ∧ s = ((l, (k : Int), ()), ((a, c, erR e q, ()), ()))))
theorem p96P {a : List Int} {c : Nat} (h : okA fu a) (hc : c ≤ a.length) : PX a (ndsS a c) okL (p96_2 fu ((a, (c : Int), noR, ()), ())) := by
  have hp := p17P (fu := fu) (j := 7) h hc (by unfold isI; omega)
  have hfu := h.hfu
  unfold ndsS p96_2
  simp only [cond_false]
  rcases hu : cntS a 7 c with ⟨c1, v⟩ | ⟨e, q⟩
  · rw [hu] at hp
    obtain ⟨h1, ⟨m, rfl, _⟩, h3⟩ := hp
    have hm7 := (cntS_ok hu).1
    rw [h3]
    simp only [Option.bind_some, cond_false, RR.bind, Int.toNat_natCast, eqL_t, cond_true]
    generalize hR : nodS a m [] c1 = R
    refine loop_G (G := fun o => PX a R okL o) (NI a m R) (fun s => m - s.1.2.1.toNat) ⟨0, [], Nat.zero_le _, rfl, fun x hx => by simp at hx, .inl ⟨c1, h1, hR, rfl⟩⟩ (Nat.lt_of_le_of_lt (Nat.sub_le m _) (show m < fu by omega)) ?_
    rintro _ ⟨k, l, hk, hl, hi, ⟨c, hc, hr, rfl⟩ | ⟨c, e, q, he, hr, rfl⟩⟩
    · by_cases hlt : k < m
      · have e1 : decide ((k : Int) < (m : Int)) = true := by simpa using hlt
        have hw : IntKind.wrap .i64 ((k : Int) + 1) = ((k + 1 : Nat) : Int) := by rw [wi64 (by omega) (by omega)]; omega
        have h8 := len8 (n := k + 1) (by omega)
        have hq := p48P (fu := fu) h hc
        rw [show m - k = (m - (k + 1)) + 1 by omega, nodS] at hr
        rcases hu2 : iS a c with ⟨c2, x⟩ | ⟨e, q⟩
        · rw [hu2] at hq hr
          obtain ⟨g1, g2, g3⟩ := hq
          refine ⟨.inl (((l ++ [x]), ((k + 1 : Nat) : Int), ()), ((a, (c2 : Int), noR, ()), ())), ?_, ⟨k + 1, l ++ [x], hlt, by simp [hl], ?_, .inl ⟨c2, g1, hr, rfl⟩⟩, by dsimp only; omega⟩
          · simp only [cond_false, e1, cond_true, g3, Option.bind_some, decide_true, List.length_singleton, hl, h8, and_self, hw]
          · intro y hy
            rcases List.mem_append.1 hy with h | h
            · exact hi y h
            · rw [List.mem_singleton.1 h]; exact g2
        · rw [hu2] at hq hr
          obtain ⟨g1, c2, g3⟩ := hq
          refine ⟨.inl (((l ++ [0]), ((k + 1 : Nat) : Int), ()), ((a, c2, erR e q, ()), ())), ?_, ⟨k + 1, l ++ [0], hlt, by simp [hl], ?_, .inr ⟨c2, e, q, g1, hr.symm, rfl⟩⟩, by dsimp only; omega⟩
          · simp only [cond_false, e1, cond_true, g3, Option.bind_some, decide_true, List.length_singleton, hl, h8, and_self, hw]
          · intro y hy
            rcases List.mem_append.1 hy with h | h
            · exact hi y h
            · rw [List.mem_singleton.1 h]; unfold isI; omega
      · have hkm : k = m := by omega
        subst hkm
        have e1 : decide ((k : Int) < (k : Int)) = false := by simp
        rw [Nat.sub_self] at hr
        rw [nodS] at hr
        refine ⟨.inr (((a, (c : Int), noR, ()), (), ()), l), ?_, ?_⟩
        · simp only [cond_false, e1, inrO, Option.map_some]
        · show PX a R okL (some _)
          rw [← hr]
          exact ⟨hc, ⟨by omega, hi⟩, rfl⟩
    · by_cases hlt : k < m
      · have e1 : decide ((k : Int) < (m : Int)) = true := by simpa using hlt
        have hw : IntKind.wrap .i64 ((k : Int) + 1) = ((k + 1 : Nat) : Int) := by rw [wi64 (by omega) (by omega)]; omega
        have h8 := len8 (n := k + 1) (by omega)
        refine ⟨.inl (((l ++ [0]), ((k + 1 : Nat) : Int), ()), ((a, c, erR e q, ()), ())), ?_, ⟨k + 1, l ++ [0], hlt, by simp [hl], ?_, .inr ⟨c, e, q, he, hr, rfl⟩⟩, by dsimp only; omega⟩
        · simp only [e1, cond_true, p48_er, Option.bind_some, decide_true, List.length_singleton, hl, h8, and_self, hw]
        · intro y hy
          rcases List.mem_append.1 hy with h | h
          · exact hi y h
          · rw [List.mem_singleton.1 h]; unfold isI; omega
      · have hkm : k = m := by omega
        subst hkm
        have e1 : decide ((k : Int) < (k : Int)) = false := by simp
        refine ⟨.inr (((a, c, erR e q, ()), (), ()), l), ?_, ?_⟩
        · simp only [e1, cond_true, cond_false, inrO, Option.map_some]
        · show PX a R okL (some _)
          rw [hr]
          exact ⟨he, c, l, rfl⟩
  · rw [hu] at hp
    obtain ⟨h1, c2, h3⟩ := hp
    rw [h3]
    obtain ⟨f, rfl⟩ : ∃ f, fu = f + 1 := ⟨fu - 1, by omega⟩
    simp only [Option.bind_some, eqL_t, cond_true, RR.bind]
    simp only [loopO, cond_true, Int.lt_irrefl, decide_false, cond_false, inrO, Option.map_some]
    exact ⟨h1, c2, [], rfl⟩
theorem p95_er {a : List Int} {c e q : Int} {l m : List Int} : p95_8 fu ((a, c, erR e q, ()), (l, m, ()), ()) = some (((a, c, erR e q, ()), (), ()), ([], [], ())) := by
  unfold p95_8
  simp only [cond_true, eqL_t]
theorem p95_ok {a : List Int} {c : Int} {l m : List Int} : p95_8 fu ((a, c, noR, ()), (l, m, ()), ()) = some (((a, c, noR, ()), (), ()), (l, m, ())) := by
  unfold p95_8
  simp only [cond_true, cond_false, eqL_t]
theorem p71_er {a : List Int} {c e q : Int} (hfu : 10 < fu) : p71_2 fu ((a, c, erR e q, ()), ()) = some (((a, c, erR e q, ()), (), ()), ([], [], ())) := by
  unfold p71_2
  simp only [cond_true, p96_er hfu, Option.bind_some, eqL_t, p95_er]
theorem p71P {a : List Int} {c : Nat} (h : okA fu a) (hc : c ≤ a.length) : PR a ([], [], ()) (confS a c) (fun f => okL f.1 ∧ okL f.2.1) (p71_2 fu ((a, (c : Int), noR, ()), ())) := by
  have hp := p96P (fu := fu) h hc
  unfold confS p71_2
  simp only [cond_false]
  rcases hu : ndsS a c with ⟨c1, l⟩ | ⟨e, q⟩
  · rw [hu] at hp
    obtain ⟨h1, h2, h3⟩ := hp
    have hp2 := p96P (fu := fu) h h1
    rw [h3]
    simp only [Option.bind_some, cond_false, RR.bind, eqL_t, cond_true]
    rcases hu2 : ndsS a c1 with ⟨c2, m⟩ | ⟨e, q⟩
    · rw [hu2] at hp2
      obtain ⟨g1, g2, g3⟩ := hp2
      rw [g3]
      simp only [Option.bind_some, cond_false, p95_ok]
      exact ⟨g1, ⟨h2, g2⟩, rfl⟩
    · rw [hu2] at hp2
      obtain ⟨g1, c3, d, g3⟩ := hp2
      rw [g3]
      simp only [Option.bind_some, cond_true, p95_er]
      exact ⟨g1, c3, rfl⟩
  · rw [hu] at hp
    obtain ⟨h1, c2, d, h3⟩ := hp
    rw [h3]
    simp only [Option.bind_some, eqL_t, cond_true, RR.bind, p96_er h.hfu, p95_er]
    exact ⟨h1, c2, rfl⟩
theorem p89_er {a : List Int} {c e q : Int} : p89_2 fu ((a, c, erR e q, ()), ()) = some (((a, c, erR e q, ()), (), ()), 0) := by
  unfold p89_2
  simp only [cond_true, p48_er, Option.bind_some, eqL_t, p43_2_er]
  rfl
theorem p89P {a : List Int} {c : Nat} (h : okA fu a) (hc : c ≤ a.length) : PX a (kindS a c) (fun k => 1 ≤ k ∧ k ≤ 3) (p89_2 fu ((a, (c : Int), noR, ()), ())) := by
  have hp := p48P (fu := fu) h hc
  unfold kindS p89_2
  simp only [cond_false]
  rcases hu : iS a c with ⟨c1, k⟩ | ⟨e, q⟩
  · rw [hu] at hp
    obtain ⟨h1, h2, h3⟩ := hp
    rw [h3]
    simp only [Option.bind_some, cond_false, RR.bind]
    by_cases hk : k < 1 ∨ k > 3
    · rw [if_pos hk]
      refine ⟨by decide, c1, k, ?_⟩
      by_cases g : k < 1
      · simp only [decide_eq_true g, cond_true, eqL_t, orK_inl, p43_2_ok (show (16 : Int) ≠ 0 by decide), Option.bind_some]
      · have g2 : k > 3 := by omega
        simp only [decide_eq_false g, decide_eq_true g2, cond_true, cond_false, eqL_t, orK_inl, p43_2_ok (show (16 : Int) ≠ 0 by decide), Option.bind_some]
    · rw [if_neg hk]
      have g : ¬ k < 1 := fun x => hk (.inl x)
      have g2 : ¬ k > 3 := fun x => hk (.inr x)
      refine ⟨h1, ⟨by omega, by omega⟩, ?_⟩
      simp only [decide_eq_false g, decide_eq_false g2, cond_true, cond_false, eqL_t, orK_inl]
  · rw [hu] at hp
    obtain ⟨h1, c2, h3⟩ := hp
    rw [h3]
    simp only [Option.bind_some, eqL_t, cond_true, RR.bind, p43_2_er]
    exact ⟨h1, c2, 0, rfl⟩
theorem p88_4_er {a : List Int} {c e q : Int} {i t k : Int} {d l m : List Int} : p88_4 fu ((a, c, erR e q, ()), (i, t, k, d, l, m, ()), ()) = some (((a, c, erR e q, ()), (), ()), (0, 0, 0, [], [], [], ())) := by
  unfold p88_4
  simp only [cond_true, eqL_t]
theorem p88_4_ok {a : List Int} {c : Int} {i t k : Int} {d l m : List Int} : p88_4 fu ((a, c, noR, ()), (i, t, k, d, l, m, ()), ()) = some (((a, c, noR, ()), (), ()), (i, t, k, d, l, m, ())) := by
  unfold p88_4
  simp only [cond_true, cond_false, eqL_t]
theorem p47_2_er {a : List Int} {c e q : Int} (hfu : 10 < fu) : p47_2 fu ((a, c, erR e q, ()), ()) = some (((a, c, erR e q, ()), (), ()), (0, 0, 0, [], [], [], ())) := by
  unfold p47_2
  simp only [cond_true, Option.bind_some, eqL_t, p15_er, p89_er, p67_er, p71_er hfu, p88_4_er]
theorem p47P {a : List Int} {c : Nat} (h : okA fu a) (hc : c ≤ a.length) : PR a (0, 0, 0, [], [], [], ()) (entS a c) (fun x => isU x.1 ∧ isU x.2.1 ∧ (1 ≤ x.2.2.1 ∧ x.2.2.1 ≤ 3) ∧ isBs a x.2.2.2.1 ∧ okL x.2.2.2.2.1 ∧ okL x.2.2.2.2.2.1) (p47_2 fu ((a, (c : Int), noR, ()), ())) := by
  unfold entS p47_2
  simp only [cond_false]
  have hp0 := p15P (fu := fu) h hc
  rcases hu0 : uS a c with ⟨c0, v0⟩ | ⟨e, q⟩
  rotate_left
  · rw [hu0] at hp0
    obtain ⟨h1, c9, h3⟩ := hp0
    rw [h3]
    simp only [Option.bind_some, eqL_t, cond_true, RR.bind, p15_er, p67_er, p71_er h.hfu, p89_er, p88_4_er]
    exact ⟨h1, c9, rfl⟩
  rw [hu0] at hp0
  obtain ⟨h10, h20, h30⟩ := hp0
  rw [h30]
  simp only [Option.bind_some, cond_false, RR.bind, eqL_t, cond_true]
  have hp1 := p15P (fu := fu) h h10
  rcases hu1 : uS a c0 with ⟨c1, v1⟩ | ⟨e, q⟩
  rotate_left
  · rw [hu1] at hp1
    obtain ⟨h1, c9, h3⟩ := hp1
    rw [h3]
    simp only [Option.bind_some, cond_true, p67_er, p71_er h.hfu, p89_er, p88_4_er]
    exact ⟨h1, c9, rfl⟩
  rw [hu1] at hp1
  obtain ⟨h11, h21, h31⟩ := hp1
  rw [h31]
  simp only [Option.bind_some, cond_false]
  have hp2 := p89P (fu := fu) h h11
  rcases hu2 : kindS a c1 with ⟨c2, v2⟩ | ⟨e, q⟩
  rotate_left
  · rw [hu2] at hp2
    obtain ⟨h1, c9, d9, h3⟩ := hp2
    rw [h3]
    simp only [Option.bind_some, cond_true, p67_er, p71_er h.hfu, p88_4_er]
    exact ⟨h1, c9, rfl⟩
  rw [hu2] at hp2
  obtain ⟨h12, h22, h32⟩ := hp2
  rw [h32]
  simp only [Option.bind_some, cond_false]
  have hp3 := p67P (fu := fu) h h12 (j := 262144) (by unfold isI; omega)
  rcases hu3 : bytS a 262144 c2 with ⟨c3, v3⟩ | ⟨e, q⟩
  rotate_left
  · rw [hu3] at hp3
    obtain ⟨h1, c9, h3⟩ := hp3
    rw [h3]
    simp only [Option.bind_some, cond_true, p71_er h.hfu, p88_4_er]
    exact ⟨h1, c9, rfl⟩
  rw [hu3] at hp3
  obtain ⟨h13, h23, h33⟩ := hp3
  rw [h33]
  simp only [Option.bind_some, cond_false]
  have hp4 := p71P (fu := fu) h h13
  rcases hu4 : confS a c3 with ⟨c4, v4⟩ | ⟨e, q⟩
  rotate_left
  · rw [hu4] at hp4
    obtain ⟨h1, c9, h3⟩ := hp4
    rw [h3]
    simp only [Option.bind_some, cond_true, p88_4_er]
    exact ⟨h1, c9, rfl⟩
  rw [hu4] at hp4
  obtain ⟨h14, h24, h34⟩ := hp4
  obtain ⟨fl, fm, ⟨⟩⟩ := v4
  rw [h34]
  simp only [Option.bind_some, cond_false]
  simp only [p88_4_ok, Option.bind_some, cond_false]
  exact ⟨h14, ⟨h20, h21, h22, h23, h24⟩, rfl⟩
theorem p90_4_er {a : List Int} {c e q : Int} {i t : Int} {d l m : List Int} : p90_4 fu ((a, c, erR e q, ()), (i, t, l, m, d, ()), ()) = some (((a, c, erR e q, ()), (), ()), (0, 0, [], [], [], ())) := by
  unfold p90_4
  simp only [cond_true, eqL_t]
theorem p90_4_ok {a : List Int} {c : Int} {i t : Int} {d l m : List Int} : p90_4 fu ((a, c, noR, ()), (i, t, l, m, d, ()), ()) = some (((a, c, noR, ()), (), ()), (i, t, l, m, d, ())) := by
  unfold p90_4
  simp only [cond_true, cond_false, eqL_t]
theorem p49_2_er {a : List Int} {c e q : Int} (hfu : 10 < fu) : p49_2 fu ((a, c, erR e q, ()), ()) = some (((a, c, erR e q, ()), (), ()), (0, 0, [], [], [], ())) := by
  unfold p49_2
  simp only [cond_true, Option.bind_some, eqL_t, p15_er, p67_er, p71_er hfu, p90_4_er]
theorem p49P {a : List Int} {c : Nat} (h : okA fu a) (hc : c ≤ a.length) : PR a (0, 0, [], [], [], ()) (snapS a c) (fun x => isU x.1 ∧ isU x.2.1 ∧ okL x.2.2.1 ∧ okL x.2.2.2.1 ∧ isBs a x.2.2.2.2.1) (p49_2 fu ((a, (c : Int), noR, ()), ())) := by
  unfold snapS p49_2
  simp only [cond_false]
  have hp0 := p15P (fu := fu) h hc
  rcases hu0 : uS a c with ⟨c0, v0⟩ | ⟨e, q⟩
  rotate_left
  · rw [hu0] at hp0
    obtain ⟨h1, c9, h3⟩ := hp0
    rw [h3]
    simp only [Option.bind_some, eqL_t, cond_true, RR.bind, p15_er, p67_er, p71_er h.hfu, p90_4_er]
    exact ⟨h1, c9, rfl⟩
  rw [hu0] at hp0
  obtain ⟨h10, h20, h30⟩ := hp0
  rw [h30]
  simp only [Option.bind_some, cond_false, RR.bind, eqL_t, cond_true]
  have hp1 := p15P (fu := fu) h h10
  rcases hu1 : uS a c0 with ⟨c1, v1⟩ | ⟨e, q⟩
  rotate_left
  · rw [hu1] at hp1
    obtain ⟨h1, c9, h3⟩ := hp1
    rw [h3]
    simp only [Option.bind_some, cond_true, p67_er, p71_er h.hfu, p90_4_er]
    exact ⟨h1, c9, rfl⟩
  rw [hu1] at hp1
  obtain ⟨h11, h21, h31⟩ := hp1
  rw [h31]
  simp only [Option.bind_some, cond_false]
  have hp2 := p71P (fu := fu) h h11
  rcases hu2 : confS a c1 with ⟨c2, v2⟩ | ⟨e, q⟩
  rotate_left
  · rw [hu2] at hp2
    obtain ⟨h1, c9, h3⟩ := hp2
    rw [h3]
    simp only [Option.bind_some, cond_true, p67_er, p90_4_er]
    exact ⟨h1, c9, rfl⟩
  rw [hu2] at hp2
  obtain ⟨h12, h22, h32⟩ := hp2
  obtain ⟨fl, fm, ⟨⟩⟩ := v2
  rw [h32]
  simp only [Option.bind_some, cond_false]
  have hp3 := p67P (fu := fu) h h12 (j := 262144) (by unfold isI; omega)
  rcases hu3 : bytS a 262144 c2 with ⟨c3, v3⟩ | ⟨e, q⟩
  rotate_left
  · rw [hu3] at hp3
    obtain ⟨h1, c9, h3⟩ := hp3
    rw [h3]
    simp only [Option.bind_some, cond_true, p90_4_er]
    exact ⟨h1, c9, rfl⟩
  rw [hu3] at hp3
  obtain ⟨h13, h23, h33⟩ := hp3
  rw [h33]
  simp only [Option.bind_some, cond_false]
  simp only [p90_4_ok, Option.bind_some, cond_false]
  exact ⟨h13, ⟨h20, h21, h22.1, h22.2, h23⟩, rfl⟩
theorem strNil : strOfNums [] = (⟨#[]⟩ : ByteArray) := by rfl
theorem p16_ok {a : List Int} {c : Int} : p16_2 fu ((a, c, noR, ()), ()) = some (((a, c, noR, ()), (), ()), (0, 0, ())) := by
  unfold p16_2 pAs
  simp only [cond_false, cond_true, Option.bind_some, Bool.not_true, eqL_t]
theorem p16_er {a : List Int} {c e q : Int} : p16_2 fu ((a, c, erR e q, ()), ()) = some (((a, c, erR e q, ()), (), ()), (e, q, ())) := by
  unfold p16_2 pAs
  simp only [cond_true, cond_false, Option.bind_some, Bool.not_false, eqL_t]
theorem p19_er {a : List Int} {c e q : Int} (he : e ≠ 0) : p19_2 fu ((a, c, erR e q, ()), ()) = some (((a, c, erR e q, ()), (), ()), e) := by
  have g : (e == 0) = false := beq_eq_false_iff_ne.2 he
  unfold p19_2
  simp only [cond_true, p16_er, Option.bind_some, eqL_t, g, cond_false]
theorem p19_ok {a : List Int} {c : Int} : p19_2 fu ((a, c, noR, ()), ()) = some (((a, c, noR, ()), (), ()), if c < (a.length : Int) then 15 else 0) := by
  unfold p19_2
  simp only [cond_true, cond_false, p16_ok, Option.bind_some, eqL_t, BEq.rfl]
  by_cases g : c < (a.length : Int)
  · simp only [decide_eq_true g, cond_true, if_pos g]
  · simp only [decide_eq_false g, cond_false, if_neg g]
/-- The rounds of a list's reading, by the document. -/
def ND (a : List Int) (m : Nat) (r : RR (List Int)) (s : (List Int × Int × Unit) × (DT × Unit)) : Prop :=
  ∃ (k : Nat) (l : List Int), k ≤ m ∧ l.length = k ∧ (∀ x ∈ l, isI x) ∧ ((∃ c : Nat, c ≤ a.length ∧ nodS a (m - k) l c = r ∧ s = ((l, (k : Int), ()), ((a, (c : Int), 0, 0, ()), ()))) ∨ (∃ c e q : Int, e ≠ 0 ∧ r = .er e q ∧ s = ((l, (k : Int), ()), ((a, c, e, q, ()), ()))))
theorem orK_G {S E R : Type} {f : S → Option (S ⊕ (E ⊕ R))} {n : Nat} {s : S} {k : E → Option R} (G : Option R → Prop) (I : S → Prop) (m : S → Nat) (hs : I s) (hn : m s < n) (h : ∀ s, I s → ∃ o, f s = some o ∧ LStep I m (fun r => G (orK (some r) k)) s o) : G (orK (loopO n f s) k) := by
  obtain ⟨r, h1, h2⟩ := loopO_rule I m _ h n s hs hn
  rw [h1]
  exact h2
/-- Lists that are the same. -/
theorem p94_is {l : List Int} (hl : l.length ≤ 1048576) (hfu : l.length < fu) : p94 fu (l, l, ()) = some ((), true) := by
  unfold p94
  simp only [bne_self_eq_false, cond_false]
  refine loopO_eq (fun (s : (Int × Unit) × Unit) => ∃ k : Nat, k ≤ l.length ∧ s = (((k : Int), ()), ())) (fun s => l.length - s.1.1.toNat) (fun _ => ((), true)) ?_ fu _ ⟨0, Nat.zero_le _, rfl⟩ (by dsimp only; omega)
  rintro _ ⟨k, hk, rfl⟩
  by_cases hlt : k < l.length
  · left
    have e1 : decide ((k : Int) < (l.length : Int)) = true := by simpa using hlt
    have e2 : decide ((0 : Int) ≤ (k : Int) ∧ (k : Int) < (l.length : Int)) = true := by simp; omega
    have e3 : decide (k < l.length) = true := by simpa using hlt
    have hw : IntKind.wrap .i64 ((k : Int) + 1) = ((k + 1 : Nat) : Int) := by rw [wi64 (by omega) (by omega)]; omega
    refine ⟨_, ?_, ⟨k + 1, hlt, rfl⟩, by dsimp only; omega, rfl⟩
    simp only [e1, e2, Int.toNat_natCast, e3, cond_true, hw]
  · right
    have e1 : decide ((k : Int) < (l.length : Int)) = false := by simp; omega
    simp only [e1, cond_false, inrO, Option.map_some]
theorem p70_is {l m : List Int} (hl : l.length ≤ 7) (hm : m.length ≤ 7) (hfu : 10 < fu) : p70 fu ((l, m, ()), (l, m, ()), ()) = some ((), true) := by
  unfold p70
  dsimp only
  rw [p94_is (by omega) (by omega), bind_val]
  simp only [cond_true]
  rw [p94_is (by omega) (by omega)]
  rfl
theorem p73_is {i t k : Int} {d l m : List Int} (hl : l.length ≤ 7) (hm : m.length ≤ 7) (hfu : 10 < fu) : p73 fu ((i, t, k, d, l, m, ()), (i, t, k, d, l, m, ()), ()) = some ((), true) := by
  unfold p73
  dsimp only
  rw [p70_is hl hm hfu]
  simp only [bind_val, cond_true, BEq.rfl]
theorem p75_is {i t : Int} {d l m : List Int} (hl : l.length ≤ 7) (hm : m.length ≤ 7) (hfu : 10 < fu) : p75 fu ((i, t, l, m, d, ()), (i, t, l, m, d, ()), ()) = some ((), true) := by
  unfold p75
  dsimp only
  rw [p70_is hl hm hfu]
  simp only [bind_val, cond_true, BEq.rfl]
/-- The program's reader and the document's. -/
def RelR (a : List Int) (x : PT) (y : DT) : Prop :=
  (∃ c : Nat, c ≤ a.length ∧ x = (a, (c : Int), noR, ()) ∧ y = (a, (c : Int), 0, 0, ())) ∨ (∃ c c' e q : Int, e ≠ 0 ∧ x = (a, c, erR e q, ()) ∧ y = (a, c', e, q, ()))
theorem both {α : Type} {a : List Int} {d : α} {r : RR α} {P : α → Prop} {o : Option ((PT × Unit × Unit) × α)} {u : Option ((DT × Unit) × α)} (h1 : PR a d r P o) (h2 : DR a d r P u) (hd : P d) :
    ∃ x y v, RelR a x y ∧ P v ∧ o = some ((x, (), ()), v) ∧ u = some ((y, ()), v) ∧ ((∃ c e q, e ≠ 0 ∧ x = (a, c, erR e q, ())) ∨ ∃ c : Int, x = (a, c, noR, ())) := by
  cases r with
  | ok c v =>
    obtain ⟨a1, a2, a3⟩ := h1
    obtain ⟨b1, b2, b3⟩ := h2
    exact ⟨_, _, v, .inl ⟨c, a1, rfl, rfl⟩, a2, a3, b3, .inr ⟨_, rfl⟩⟩
  | er e q =>
    obtain ⟨a1, c, a3⟩ := h1
    obtain ⟨b1, c', b3⟩ := h2
    exact ⟨_, _, d, .inr ⟨c, c', e, q, a1, rfl, rfl⟩, hd, a3, b3, .inl ⟨_, _, _, a1, rfl⟩⟩
theorem beqB (s : ByteArray) : (s == s) = true := by
  first | exact beq_self_eq_true s | simp | (cases s; rename_i d; show (d == d) = true; simp)
theorem okL_nil : okL [] := ⟨by simp, fun x hx => by simp at hx⟩
theorem isU0 : isU 0 := ⟨by omega, by omega⟩
theorem isI0 : isI 0 := ⟨by omega, by omega⟩
theorem isBs_nil {a : List Int} : isBs a [] := ⟨by simp, fun x hx => by simp at hx⟩
theorem PRw {α : Type} {a : List Int} {d : α} {r : RR α} {P Q : α → Prop} {o : Option ((PT × Unit × Unit) × α)} (h : PR a d r P o) (hq : ∀ v, P v → Q v) : PR a d r Q o := by
  cases r with
  | ok c v => exact ⟨h.1, hq _ h.2.1, h.2.2⟩
  | er e q => exact h
theorem DRw {α : Type} {a : List Int} {d : α} {r : RR α} {P Q : α → Prop} {o : Option ((DT × Unit) × α)} (h : DR a d r P o) (hq : ∀ v, P v → Q v) : DR a d r Q o := by
  cases r with
  | ok c v => exact ⟨h.1, hq _ h.2.1, h.2.2⟩
  | er e q => exact h
abbrev IT := Int × Int × Int × Int × Int × List Int × List Int × List Int × Int × Int × Int × Int × Int × Int × List Int × List Int × List Int × Unit
def zeroI : IT := (0, 0, 0, 0, 0, [], [], [], 0, 0, 0, 0, 0, 0, [], [], [], ())
def itkS (a : List Int) (c : Nat) : RR Int := (iS a c).bind fun c1 k => if k < 1 ∨ k > 5 then .er 16 (c : Int) else .ok c1 k
def bodS (a : List Int) (k g : Int) (c : Nat) : RR IT :=
  if k = 1 then (entS a c).bind fun c e => .ok c (k, g, e.1, e.2.1, e.2.2.1, e.2.2.2.1, e.2.2.2.2.1, e.2.2.2.2.2.1, 0, 0, 0, 0, 0, 0, [], [], [], ())
  else if k = 2 then (uS a c).bind fun c t => (iS a c).bind fun c v => (uS a c).bind fun c m => .ok c (k, g, 0, 0, 0, [], [], [], t, v, m, 0, 0, 0, [], [], [], ())
  else if k = 3 then (uS a c).bind fun c i => .ok c (k, g, 0, 0, 0, [], [], [], 0, 0, 0, i, 0, 0, [], [], [], ())
  else if k = 4 then (snapS a c).bind fun c s => .ok c (k, g, 0, 0, 0, [], [], [], 0, 0, 0, 0, s.1, s.2.1, s.2.2.1, s.2.2.2.1, s.2.2.2.2.1, ())
  else .ok c (k, g, 0, 0, 0, [], [], [], 0, 0, 0, 0, 0, 0, [], [], [], ())
def itemS (a : List Int) : RR IT := (itkS a 0).bind fun c k => (uS a c).bind fun c g => bodS a k g c
def outI (a : List Int) : IT × Int × Unit :=
  match itemS a with
  | .ok c x => if (c : Int) < (a.length : Int) then (zeroI, 15, ()) else (x, 0, ())
  | .er e _ => (zeroI, e, ())
theorem inrO_of {E R : Type} {o : Option R} {r : R} (h : o = some r) : inrO (E := E) o = some (.inr r) := by rw [h]; rfl
theorem p14_is {a : List Int} (h : a.length ≤ 140737488355328) : p14 fu (a, ()) = some ((), (a, (0 : Int), (), ())) := by
  have e : (a.length ≤ maxLen ∧ a.length * 1 ≤ 140737488355328) = True := eq_true ⟨Nat.le_trans h (show 140737488355328 ≤ maxLen by decide), by omega⟩
  unfold p14
  simp only [e, decide_true, eqL_t, cond_true]
theorem p15N {a : List Int} {c : Nat} (h : okA fu a) (hc : c ≤ a.length) : PR a 0 (uS a c) isU (p15 fu ((a, (c : Int), (), ()), ())) := by
  have e1 : decide ((0 : Int) ≤ (c : Int)) = true := by simp
  have e2 : decide (c ≤ a.length ∧ 0 + a.length ≤ a.length) = true := by simp; omega
  have e3 : decide (c + (a.length - c) ≤ a.length) = true := by simp; omega
  have hl := h.hn
  rcases uS_cases h hc with ⟨v, k, hnum, hu, hk, hv⟩ | ⟨e, he, hnum, hu⟩
  · have hw : IntKind.wrap .i64 ((c : Int) + (k : Int)) = ((c + k : Nat) : Int) := by rw [wi64 (by omega) (by omega)]; omega
    rw [hu]
    refine ⟨hk, hv, ?_⟩
    unfold p15
    simp only [e1, Int.toNat_natCast, e2, e3, cond_true, eqL_t]
    rw [sub_all hc, p40_any (h.dr c) (by rw [List.length_drop]; omega) h.hfu, hnum]
    simp only [Option.bind_some]
    rw [p41R_ok]
    simp only [Option.bind_some, cond_false, hw]
  · have hw : IntKind.wrap .i64 ((c : Int) + 0) = (c : Int) := by rw [wi64 (by omega) (by omega)]; omega
    rw [hu]
    refine ⟨he, c, ?_⟩
    unfold p15
    simp only [e1, Int.toNat_natCast, e2, e3, cond_true, eqL_t]
    rw [sub_all hc, p40_any (h.dr c) (by rw [List.length_drop]; omega) h.hfu, hnum]
    simp only [Option.bind_some]
    rw [p41R_er he]
    simp only [Option.bind_some, cond_true, hw]
theorem p48N {a : List Int} {c : Nat} (h : okA fu a) (hc : c ≤ a.length) : PR a 0 (iS a c) isI (p48 fu ((a, (c : Int), (), ()), ())) := by
  have hp := p15N h hc
  unfold iS p48
  simp only [cond_true, eqL_t]
  rcases hu : uS a c with ⟨c1, v⟩ | ⟨e, q⟩
  · rw [hu] at hp
    obtain ⟨h1, h2, h3⟩ := hp
    rw [h3]
    obtain ⟨n, rfl⟩ := Int.eq_ofNat_of_zero_le h2.1
    simp only [Option.bind_some, cond_false, RR.bind]
    rw [xor1 n (by have := h2.2; omega)]
    exact ⟨h1, unzz_i h2, rfl⟩
  · rw [hu] at hp
    obtain ⟨h1, c2, h3⟩ := hp
    rw [h3]
    simp only [Option.bind_some, cond_true, RR.bind]
    rw [xor0]
    exact ⟨h1, c2, rfl⟩
theorem p46P {a : List Int} {c : Nat} (h : okA fu a) (hc : c ≤ a.length) : PX a (itkS a c) (fun k => 1 ≤ k ∧ k ≤ 5) (p46 fu ((a, (c : Int), (), ()), ())) := by
  have hp := p48N (fu := fu) h hc
  unfold itkS p46
  simp only [cond_true, eqL_t]
  rcases hu : iS a c with ⟨c1, k⟩ | ⟨e, q⟩
  · rw [hu] at hp
    obtain ⟨h1, h2, h3⟩ := hp
    rw [h3]
    simp only [Option.bind_some, cond_false, RR.bind]
    by_cases hk : k < 1 ∨ k > 5
    · rw [if_pos hk]
      refine ⟨by decide, c1, k, ?_⟩
      by_cases g : k < 1
      · simp only [decide_eq_true g, cond_true, orK_inl, p43_2_ok (show (16 : Int) ≠ 0 by decide), Option.bind_some]
      · have g2 : k > 5 := by omega
        simp only [decide_eq_false g, decide_eq_true g2, cond_true, cond_false, orK_inl, p43_2_ok (show (16 : Int) ≠ 0 by decide), Option.bind_some]
    · rw [if_neg hk]
      have g : ¬ k < 1 := fun x => hk (.inl x)
      have g2 : ¬ k > 5 := fun x => hk (.inr x)
      refine ⟨h1, ⟨by omega, by omega⟩, ?_⟩
      simp only [decide_eq_false g, decide_eq_false g2, cond_false, orK_inl]
  · rw [hu] at hp
    obtain ⟨h1, c2, h3⟩ := hp
    rw [h3]
    simp only [Option.bind_some, cond_true, RR.bind, p43_2_er]
    exact ⟨h1, c2, 0, rfl⟩
theorem p20_is {a : List Int} (hA : okA fu a) : p20 fu (a, ()) = some ((), outI a) := by
  have hk := p46P (fu := fu) (c := 0) hA (Nat.zero_le _)
  have hq0 : p46 fu ((a, (0 : Int), (), ()), ()) = p46 fu ((a, ((0 : Nat) : Int), (), ()), ()) := rfl
  unfold p20
  dsimp only
  rw [p14_is hA.hn]
  simp only [bind_val, eqL_t, cond_true]
  rw [hq0]
  rcases hu0 : itkS a 0 with ⟨c0, k⟩ | ⟨e, q⟩
  rotate_left
  · have ho : outI a = (zeroI, e, ()) := by unfold outI itemS; rw [hu0]; rfl
    rw [hu0] at hk
    obtain ⟨h1, c9, m, h3⟩ := hk
    have ge : (e != 0) = true := bne_iff_ne.2 h1
    rw [h3, ho]
    by_cases k1 : m = 1
    · have g1 : (m == (1 : Int)) = true := beq_iff_eq.2 k1
      simp only [g1, bind_val, cond_true, orK_inl, p15_er, p48_er, p47_2_er hA.hfu, p49_2_er hA.hfu, p19_er h1, ge]
      rfl
    have g1 : (m == (1 : Int)) = false := beq_eq_false_iff_ne.2 k1
    by_cases k2 : m = 2
    · have g2 : (m == (2 : Int)) = true := beq_iff_eq.2 k2
      simp only [g1, g2, bind_val, cond_true, cond_false, orK_inl, p15_er, p48_er, p47_2_er hA.hfu, p49_2_er hA.hfu, p19_er h1, ge]
      rfl
    have g2 : (m == (2 : Int)) = false := beq_eq_false_iff_ne.2 k2
    by_cases k3 : m = 3
    · have g3 : (m == (3 : Int)) = true := beq_iff_eq.2 k3
      simp only [g1, g2, g3, bind_val, cond_true, cond_false, orK_inl, p15_er, p48_er, p47_2_er hA.hfu, p49_2_er hA.hfu, p19_er h1, ge]
      rfl
    have g3 : (m == (3 : Int)) = false := beq_eq_false_iff_ne.2 k3
    by_cases k4 : m = 4
    · have g4 : (m == (4 : Int)) = true := beq_iff_eq.2 k4
      simp only [g1, g2, g3, g4, bind_val, cond_true, cond_false, orK_inl, p15_er, p48_er, p47_2_er hA.hfu, p49_2_er hA.hfu, p19_er h1, ge]
      rfl
    have g4 : (m == (4 : Int)) = false := beq_eq_false_iff_ne.2 k4
    simp only [g1, g2, g3, g4, bind_val, cond_true, cond_false, orK_inl, p15_er, p48_er, p47_2_er hA.hfu, p49_2_er hA.hfu, p19_er h1, ge]
    rfl
  rw [hu0] at hk
  obtain ⟨hc0, ⟨hk1, hk5⟩, h3⟩ := hk
  rw [h3]
  have hp := p15P (fu := fu) hA hc0
  rcases hu1 : uS a c0 with ⟨c1, g⟩ | ⟨e, q⟩
  rotate_left
  · have ho : outI a = (zeroI, e, ()) := by unfold outI itemS; rw [hu0]; simp only [RR.bind]; rw [hu1]
    rw [hu1] at hp
    obtain ⟨h1, c9, h3⟩ := hp
    have ge : (e != 0) = true := bne_iff_ne.2 h1
    rw [ho]
    simp only [bind_val, cond_true, cond_false, h3]
    by_cases k1 : k = 1
    · have g1 : (k == (1 : Int)) = true := beq_iff_eq.2 k1
      simp only [g1, bind_val, cond_true, orK_inl, p15_er, p48_er, p47_2_er hA.hfu, p49_2_er hA.hfu, p19_er h1, ge]
      rfl
    have g1 : (k == (1 : Int)) = false := beq_eq_false_iff_ne.2 k1
    by_cases k2 : k = 2
    · have g2 : (k == (2 : Int)) = true := beq_iff_eq.2 k2
      simp only [g1, g2, bind_val, cond_true, cond_false, orK_inl, p15_er, p48_er, p47_2_er hA.hfu, p49_2_er hA.hfu, p19_er h1, ge]
      rfl
    have g2 : (k == (2 : Int)) = false := beq_eq_false_iff_ne.2 k2
    by_cases k3 : k = 3
    · have g3 : (k == (3 : Int)) = true := beq_iff_eq.2 k3
      simp only [g1, g2, g3, bind_val, cond_true, cond_false, orK_inl, p15_er, p48_er, p47_2_er hA.hfu, p49_2_er hA.hfu, p19_er h1, ge]
      rfl
    have g3 : (k == (3 : Int)) = false := beq_eq_false_iff_ne.2 k3
    by_cases k4 : k = 4
    · have g4 : (k == (4 : Int)) = true := beq_iff_eq.2 k4
      simp only [g1, g2, g3, g4, bind_val, cond_true, cond_false, orK_inl, p15_er, p48_er, p47_2_er hA.hfu, p49_2_er hA.hfu, p19_er h1, ge]
      rfl
    have g4 : (k == (4 : Int)) = false := beq_eq_false_iff_ne.2 k4
    simp only [g1, g2, g3, g4, bind_val, cond_true, cond_false, orK_inl, p15_er, p48_er, p47_2_er hA.hfu, p49_2_er hA.hfu, p19_er h1, ge]
    rfl
  have hi : itemS a = bodS a k g c1 := by unfold itemS; rw [hu0]; simp only [RR.bind]; rw [hu1]
  rw [hu1] at hp
  obtain ⟨hc1, hg, h3⟩ := hp
  simp only [bind_val, cond_false, h3]
  by_cases k1 : k = 1
  · have g1 : (k == (1 : Int)) = true := beq_iff_eq.2 k1
    unfold bodS at hi
    rw [if_pos k1] at hi
    have hp0 := p47P (fu := fu) hA hc1
    rcases hv0 : entS a c1 with ⟨d0, v0⟩ | ⟨e, q⟩
    rotate_left
    · rw [hv0] at hp0 hi
      have ho : outI a = (zeroI, e, ()) := by unfold outI; (rw [hi]) <;> rfl
      obtain ⟨h1, c9, h9⟩ := hp0
      have ge : (e != 0) = true := bne_iff_ne.2 h1
      rw [ho]
      simp only [g1, bind_val, cond_true, orK_inl, h9, p15_er, p48_er, p19_er h1, ge]
      rfl
    rw [hv0] at hp0 hi
    obtain ⟨hd0, hw0, h40⟩ := hp0
    by_cases hlt : (d0 : Int) < (a.length : Int)
    · have ho : outI a = (zeroI, 15, ()) := by unfold outI; rw [hi]; exact if_pos hlt
      rw [ho]
      simp only [g1, bind_val, cond_true, cond_false, orK_inl, h40, p19_ok, if_pos hlt, show ((15 : Int) != 0) = true from rfl]
      rfl
    · unfold outI
      rw [hi]
      simp only [RR.bind, g1, bind_val, cond_true, cond_false, orK_inl, h40, p19_ok, if_neg hlt, bne_self_eq_false]
  have g1 : (k == (1 : Int)) = false := beq_eq_false_iff_ne.2 k1
  by_cases k2 : k = 2
  · have g2 : (k == (2 : Int)) = true := beq_iff_eq.2 k2
    unfold bodS at hi
    rw [if_neg k1] at hi
    rw [if_pos k2] at hi
    have hp0 := p15P (fu := fu) hA hc1
    rcases hv0 : uS a c1 with ⟨d0, v0⟩ | ⟨e, q⟩
    rotate_left
    · rw [hv0] at hp0 hi
      have ho : outI a = (zeroI, e, ()) := by unfold outI; (rw [hi]) <;> rfl
      obtain ⟨h1, c9, h9⟩ := hp0
      have ge : (e != 0) = true := bne_iff_ne.2 h1
      rw [ho]
      simp only [g1, g2, bind_val, cond_true, cond_false, orK_inl, h9, p15_er, p48_er, p19_er h1, ge]
      rfl
    rw [hv0] at hp0 hi
    obtain ⟨hd0, hw0, h40⟩ := hp0
    simp only [RR.bind] at hi
    have hp1 := p48P (fu := fu) hA hd0
    rcases hv1 : iS a d0 with ⟨d1, v1⟩ | ⟨e, q⟩
    rotate_left
    · rw [hv1] at hp1 hi
      have ho : outI a = (zeroI, e, ()) := by unfold outI; (rw [hi]) <;> rfl
      obtain ⟨h1, c9, h9⟩ := hp1
      have ge : (e != 0) = true := bne_iff_ne.2 h1
      rw [ho]
      simp only [g1, g2, bind_val, cond_true, cond_false, orK_inl, h40, h9, p15_er, p48_er, p19_er h1, ge]
      rfl
    rw [hv1] at hp1 hi
    obtain ⟨hd1, hw1, h41⟩ := hp1
    simp only at hi
    have hp2 := p15P (fu := fu) hA hd1
    rcases hv2 : uS a d1 with ⟨d2, v2⟩ | ⟨e, q⟩
    rotate_left
    · rw [hv2] at hp2 hi
      have ho : outI a = (zeroI, e, ()) := by unfold outI; (rw [hi]) <;> rfl
      obtain ⟨h1, c9, h9⟩ := hp2
      have ge : (e != 0) = true := bne_iff_ne.2 h1
      rw [ho]
      simp only [g1, g2, bind_val, cond_true, cond_false, orK_inl, h40, h41, h9, p15_er, p48_er, p19_er h1, ge]
      rfl
    rw [hv2] at hp2 hi
    obtain ⟨hd2, hw2, h42⟩ := hp2
    by_cases hlt : (d2 : Int) < (a.length : Int)
    · have ho : outI a = (zeroI, 15, ()) := by unfold outI; rw [hi]; exact if_pos hlt
      rw [ho]
      simp only [g1, g2, bind_val, cond_true, cond_false, orK_inl, h40, h41, h42, p19_ok, if_pos hlt, show ((15 : Int) != 0) = true from rfl]
      rfl
    · unfold outI
      rw [hi]
      simp only [g1, g2, bind_val, cond_true, cond_false, orK_inl, h40, h41, h42, p19_ok, if_neg hlt, bne_self_eq_false]
  have g2 : (k == (2 : Int)) = false := beq_eq_false_iff_ne.2 k2
  by_cases k3 : k = 3
  · have g3 : (k == (3 : Int)) = true := beq_iff_eq.2 k3
    unfold bodS at hi
    rw [if_neg k1] at hi
    rw [if_neg k2] at hi
    rw [if_pos k3] at hi
    have hp0 := p15P (fu := fu) hA hc1
    rcases hv0 : uS a c1 with ⟨d0, v0⟩ | ⟨e, q⟩
    rotate_left
    · rw [hv0] at hp0 hi
      have ho : outI a = (zeroI, e, ()) := by unfold outI; (rw [hi]) <;> rfl
      obtain ⟨h1, c9, h9⟩ := hp0
      have ge : (e != 0) = true := bne_iff_ne.2 h1
      rw [ho]
      simp only [g1, g2, g3, bind_val, cond_true, cond_false, orK_inl, h9, p15_er, p48_er, p19_er h1, ge]
      rfl
    rw [hv0] at hp0 hi
    obtain ⟨hd0, hw0, h40⟩ := hp0
    by_cases hlt : (d0 : Int) < (a.length : Int)
    · have ho : outI a = (zeroI, 15, ()) := by unfold outI; rw [hi]; exact if_pos hlt
      rw [ho]
      simp only [g1, g2, g3, bind_val, cond_true, cond_false, orK_inl, h40, p19_ok, if_pos hlt, show ((15 : Int) != 0) = true from rfl]
      rfl
    · unfold outI
      rw [hi]
      simp only [RR.bind, g1, g2, g3, bind_val, cond_true, cond_false, orK_inl, h40, p19_ok, if_neg hlt, bne_self_eq_false]
  have g3 : (k == (3 : Int)) = false := beq_eq_false_iff_ne.2 k3
  by_cases k4 : k = 4
  · have g4 : (k == (4 : Int)) = true := beq_iff_eq.2 k4
    unfold bodS at hi
    rw [if_neg k1] at hi
    rw [if_neg k2] at hi
    rw [if_neg k3] at hi
    rw [if_pos k4] at hi
    have hp0 := p49P (fu := fu) hA hc1
    rcases hv0 : snapS a c1 with ⟨d0, v0⟩ | ⟨e, q⟩
    rotate_left
    · rw [hv0] at hp0 hi
      have ho : outI a = (zeroI, e, ()) := by unfold outI; (rw [hi]) <;> rfl
      obtain ⟨h1, c9, h9⟩ := hp0
      have ge : (e != 0) = true := bne_iff_ne.2 h1
      rw [ho]
      simp only [g1, g2, g3, g4, bind_val, cond_true, cond_false, orK_inl, h9, p15_er, p48_er, p19_er h1, ge]
      rfl
    rw [hv0] at hp0 hi
    obtain ⟨hd0, hw0, h40⟩ := hp0
    by_cases hlt : (d0 : Int) < (a.length : Int)
    · have ho : outI a = (zeroI, 15, ()) := by unfold outI; rw [hi]; exact if_pos hlt
      rw [ho]
      simp only [g1, g2, g3, g4, bind_val, cond_true, cond_false, orK_inl, h40, p19_ok, if_pos hlt, show ((15 : Int) != 0) = true from rfl]
      rfl
    · unfold outI
      rw [hi]
      simp only [RR.bind, g1, g2, g3, g4, bind_val, cond_true, cond_false, orK_inl, h40, p19_ok, if_neg hlt, bne_self_eq_false]
  have g4 : (k == (4 : Int)) = false := beq_eq_false_iff_ne.2 k4
  unfold bodS at hi
  rw [if_neg k1] at hi
  rw [if_neg k2] at hi
  rw [if_neg k3] at hi
  rw [if_neg k4] at hi
  by_cases hlt : (c1 : Int) < (a.length : Int)
  · have ho : outI a = (zeroI, 15, ()) := by unfold outI; rw [hi]; exact if_pos hlt
    rw [ho]
    simp only [g1, g2, g3, g4, bind_val, cond_true, cond_false, orK_inl, p19_ok, if_pos hlt, show ((15 : Int) != 0) = true from rfl]
    rfl
  · unfold outI
    rw [hi]
    simp only [g1, g2, g3, g4, bind_val, cond_false, orK_inl, p19_ok, if_neg hlt, bne_self_eq_false]
theorem p34uF_is {v : Int} (hv : isU v) (hfu : 10 < fu) : p34 fu (((), ()), v, ()) = some (((uB v, ()), ()), ()) := by
  have h10 := uB_len hv
  unfold p34
  dsimp only
  refine loopO_eq (fun (s : (Int × Unit) × ((List Int × Unit) × Unit)) => isU s.1.1 ∧ s.2.1.1.length + (uB s.1.1).length ≤ 10) (fun s => (uB s.1.1).length) (fun s => (((s.2.1.1 ++ uB s.1.1, ()), ()), ())) ?_ fu ((v, ()), (([], ()), ())) ⟨hv, by simpa using h10⟩ (Nat.lt_of_le_of_lt h10 hfu)
  rintro ⟨⟨f, ⟨⟩⟩, ⟨⟨h, ⟨⟩⟩, ⟨⟩⟩⟩ ⟨⟨h0, h1⟩, h2⟩
  dsimp only at h0 h1 h2
  obtain ⟨n, rfl⟩ := Int.eq_ofNat_of_zero_le h0
  have e : uB ((n : Nat) : Int) = ub n := rfl
  simp only [e] at h2 ⊢
  by_cases hn : n < 128
  · right
    rw [ub_small hn] at h2 ⊢
    simp only [List.length_singleton] at h2
    have hw : IntKind.wrap .u8 (n : Int) = (n : Int) := wu8 (by omega) (by omega)
    have hge : ¬ ((n : Int) ≥ 128) := by omega
    have hl : (h.length + 1 ≤ maxLen ∧ (h.length + 1) * 1 ≤ 140737488355328) = True := eq_true ⟨fits_top (by omega), by omega⟩
    simp only [hge, hw, hl, List.length_singleton, decide_false, decide_true, eqL_t, cond_false, cond_true, inrO, Option.map_some]
  · left
    rw [ub_big hn] at h2 ⊢
    simp only [List.length_cons] at h2
    have hl : (h.length + 1 ≤ maxLen ∧ (h.length + 1) * 1 ≤ 140737488355328) = True := eq_true ⟨fits_top (by omega), by omega⟩
    refine ⟨((((n / 128 : Nat) : Int), ()), ((h ++ [((n % 128 + 128 : Nat) : Int)], ()), ())), ?_, ⟨⟨by dsimp only; omega, by dsimp only; omega⟩, ?_⟩, ?_, ?_⟩
    · have hge : (n : Int) ≥ 128 := by omega
      simp only [lowP, fdiv7, List.length_singleton, hl, hge, decide_true, eqL_t, cond_true]
    · show (h ++ [((n % 128 + 128 : Nat) : Int)]).length + (ub (n / 128)).length ≤ _
      simp only [List.length_append, List.length_singleton]
      omega
    · show (ub (n / 128)).length < _
      simp
    · show (((((h ++ [((n % 128 + 128 : Nat) : Int)]) ++ ub (n / 128), ()), ()), ())) = _
      simp
theorem fitF {n : Nat} (h : n ≤ 140737488355328) : (n ≤ maxLen ∧ n * 1 ≤ 140737488355328) = True := eq_true ⟨fits_top h, by omega⟩
theorem p37u_is {c : Int} (hc : isI c) (hfu : 10 < fu) : p37 fu (((), ()), c, ()) = some (((iB c, ()), ()), ()) := by
  unfold p37
  simp only [zzP hc]
  rw [p34uF_is (zz_u hc) hfu]
  simp only [Option.bind_some, eqL_t, cond_true]
  rfl
theorem p27_is {a : List Int} (h : a.length ≤ 140737488355328) : p27 fu ((a, ()), ()) = some ((), a) := by
  unfold p27
  simp only [fits2 h, decide_true, eqL_t, cond_true]
theorem p11i_is (hfu : 30 < fu) : p11 fu () = some ((), true) := by
  obtain ⟨m, rfl⟩ : ∃ m, fu = m + 30 := ⟨fu - 30, by omega⟩
  kernel_rfl
/-- An item that may be written. -/
structure itOk (fu : Nat) (x : IT) : Prop where
  k : isI x.1
  g : isU x.2.1
  i : isU x.2.2.1
  t : isU x.2.2.2.1
  ek : isI x.2.2.2.2.1
  d : x.2.2.2.2.2.1.length ≤ 1048576
  c : confOk fu x.2.2.2.2.2.2.1 x.2.2.2.2.2.2.2.1
  ht : isU x.2.2.2.2.2.2.2.2.1
  hv : isI x.2.2.2.2.2.2.2.2.2.1
  hc : isU x.2.2.2.2.2.2.2.2.2.2.1
  ix : isU x.2.2.2.2.2.2.2.2.2.2.2.1
  si : isU x.2.2.2.2.2.2.2.2.2.2.2.2.1
  st : isU x.2.2.2.2.2.2.2.2.2.2.2.2.2.1
  sc : confOk fu x.2.2.2.2.2.2.2.2.2.2.2.2.2.2.1 x.2.2.2.2.2.2.2.2.2.2.2.2.2.2.2.1
  sd : x.2.2.2.2.2.2.2.2.2.2.2.2.2.2.2.2.1.length ≤ 1048576
def hdB (k g : Int) : List Int := iB k ++ uB g
def itB (x : IT) : List Int :=
  if x.1 = 1 then hdB x.1 x.2.1 ++ eB x.2.2.1 x.2.2.2.1 x.2.2.2.2.1 x.2.2.2.2.2.1 x.2.2.2.2.2.2.1 x.2.2.2.2.2.2.2.1
  else if x.1 = 2 then hdB x.1 x.2.1 ++ (uB x.2.2.2.2.2.2.2.2.1 ++ (iB x.2.2.2.2.2.2.2.2.2.1 ++ uB x.2.2.2.2.2.2.2.2.2.2.1))
  else if x.1 = 3 then hdB x.1 x.2.1 ++ uB x.2.2.2.2.2.2.2.2.2.2.2.1
  else if x.1 = 4 then hdB x.1 x.2.1 ++ sB x.2.2.2.2.2.2.2.2.2.2.2.2.1 x.2.2.2.2.2.2.2.2.2.2.2.2.2.1 x.2.2.2.2.2.2.2.2.2.2.2.2.2.2.1 x.2.2.2.2.2.2.2.2.2.2.2.2.2.2.2.1 x.2.2.2.2.2.2.2.2.2.2.2.2.2.2.2.2.1
  else if x.1 = 5 then hdB x.1 x.2.1
  else []
theorem eB_len {i t k : Int} {d v l : List Int} (hi : isU i) (ht : isU t) (hk : isI k) (hd : d.length ≤ 1048576) (hc : confOk fu v l) : (eB i t k d v l).length ≤ 22020200 := by
  have l0 := uB_len hi
  have l1 := uB_len ht
  have l2 : (iB k).length ≤ 10 := uB_len (zz_u hk)
  have l3 := tB_len (l := d) (by omega)
  have l4 := cB_len hc
  unfold eB
  simp only [List.length_append]
  omega
theorem sB_len {i t : Int} {d v l : List Int} (hi : isU i) (ht : isU t) (hd : d.length ≤ 1048576) (hc : confOk fu v l) : (sB i t v l d).length ≤ 22020200 := by
  have l0 := uB_len hi
  have l1 := uB_len ht
  have l3 := tB_len (l := d) (by omega)
  have l4 := cB_len hc
  unfold sB
  simp only [List.length_append]
  omega
theorem hdB_len {k g : Int} (hk : isI k) (hg : isU g) : (hdB k g).length ≤ 20 := by
  have l0 := uB_len hg
  have l2 : (iB k).length ≤ 10 := uB_len (zz_u hk)
  unfold hdB
  rw [List.length_append]
  omega
theorem p13_is {k g i t ek ht hv hc ix si st : Int} {d v l sv sl sd : List Int} (h : itOk fu (k, g, i, t, ek, d, v, l, ht, hv, hc, ix, si, st, sv, sl, sd, ())) (hfu : 10 < fu) : p13 fu ((k, g, i, t, ek, d, v, l, ht, hv, hc, ix, si, st, sv, sl, sd, ()), ()) = some ((), itB (k, g, i, t, ek, d, v, l, ht, hv, hc, ix, si, st, sv, sl, sd, ())) := by
  have Hi : isU i := h.i
  have Ht : isU t := h.t
  have Hek : isI ek := h.ek
  have Hd : d.length ≤ 1048576 := h.d
  have Hc : confOk fu v l := h.c
  have Hht : isU ht := h.ht
  have Hhv : isI hv := h.hv
  have Hhc : isU hc := h.hc
  have Hix : isU ix := h.ix
  have Hsi : isU si := h.si
  have Hst : isU st := h.st
  have Hsc : confOk fu sv sl := h.sc
  have Hsd : sd.length ≤ 1048576 := h.sd
  have hk : isI k := h.k
  have hg : isU g := h.g
  have lh := hdB_len hk hg
  have l1 : (iB k).length ≤ 10 := uB_len (zz_u hk)
  have l2 := uB_len hg
  have eh : iB k ++ uB g = hdB k g := rfl
  unfold p13
  dsimp only
  rw [p37u_is hk hfu]
  simp only [Option.bind_some, eqL_t, cond_true]
  rw [p34_is hg (by omega) hfu]
  simp only [Option.bind_some, eh]
  by_cases k1 : k = 1
  · have g1 : (k == (1 : Int)) = true := beq_iff_eq.2 k1
    have hb : itB (k, g, i, t, ek, d, v, l, ht, hv, hc, ix, si, st, sv, sl, sd, ()) = hdB k g ++ eB i t ek d v l := by unfold itB; exact if_pos k1
    rw [hb]
    have le := eB_len (fu := fu) Hi Ht Hek Hd Hc
    simp only [g1, cond_true]
    rw [p38_is Hi Ht Hek Hc (by omega) hfu]
    simp only [Option.bind_some]
    rw [p27_is (by first | omega | (simp only [List.length_append]; omega))]
    simp only [Option.bind_some]
  have g1 : (k == (1 : Int)) = false := beq_eq_false_iff_ne.2 k1
  by_cases k2 : k = 2
  · have g2 : (k == (2 : Int)) = true := beq_iff_eq.2 k2
    have hb : itB (k, g, i, t, ek, d, v, l, ht, hv, hc, ix, si, st, sv, sl, sd, ()) = hdB k g ++ (uB ht ++ (iB hv ++ uB hc)) := by unfold itB; rw [if_neg k1]; exact if_pos k2
    rw [hb]
    have m1 := uB_len Hht
    have m2 : (iB hv).length ≤ 10 := uB_len (zz_u Hhv)
    have m3 := uB_len Hhc
    simp only [g1, g2, cond_true, cond_false]
    rw [p34_is Hht (by first | omega | (dsimp only; omega) | (simp only [List.length_append]; omega)) hfu]
    simp only [Option.bind_some]
    rw [p37_is Hhv (by first | omega | (dsimp only; omega) | (simp only [List.length_append]; omega)) hfu]
    simp only [Option.bind_some, List.append_assoc]
    rw [p34_is Hhc (by first | omega | (dsimp only; omega) | (simp only [List.length_append]; omega)) hfu]
    simp only [Option.bind_some, List.append_assoc]
    rw [p27_is (by first | omega | (dsimp only; omega) | (simp only [List.length_append]; omega))]
    simp only [Option.bind_some]
  have g2 : (k == (2 : Int)) = false := beq_eq_false_iff_ne.2 k2
  by_cases k3 : k = 3
  · have g3 : (k == (3 : Int)) = true := beq_iff_eq.2 k3
    have hb : itB (k, g, i, t, ek, d, v, l, ht, hv, hc, ix, si, st, sv, sl, sd, ()) = hdB k g ++ uB ix := by unfold itB; rw [if_neg k1]; rw [if_neg k2]; exact if_pos k3
    rw [hb]
    have m1 := uB_len Hix
    simp only [g1, g2, g3, cond_true, cond_false]
    rw [p34_is Hix (by first | omega | (dsimp only; omega) | (simp only [List.length_append]; omega)) hfu]
    simp only [Option.bind_some]
    rw [p27_is (by first | omega | (dsimp only; omega) | (simp only [List.length_append]; omega))]
    simp only [Option.bind_some]
  have g3 : (k == (3 : Int)) = false := beq_eq_false_iff_ne.2 k3
  by_cases k4 : k = 4
  · have g4 : (k == (4 : Int)) = true := beq_iff_eq.2 k4
    have hb : itB (k, g, i, t, ek, d, v, l, ht, hv, hc, ix, si, st, sv, sl, sd, ()) = hdB k g ++ sB si st sv sl sd := by unfold itB; rw [if_neg k1]; rw [if_neg k2]; rw [if_neg k3]; exact if_pos k4
    rw [hb]
    have le := sB_len (fu := fu) Hsi Hst Hsd Hsc
    simp only [g1, g2, g3, g4, cond_true, cond_false]
    rw [p39_is Hsi Hst Hsc (by first | omega | (dsimp only; omega) | (simp only [List.length_append]; omega)) hfu]
    simp only [Option.bind_some]
    rw [p27_is (by first | omega | (dsimp only; omega) | (simp only [List.length_append]; omega))]
    simp only [Option.bind_some]
  have g4 : (k == (4 : Int)) = false := beq_eq_false_iff_ne.2 k4
  by_cases k5 : k = 5
  · have g5 : (k == (5 : Int)) = true := beq_iff_eq.2 k5
    have hb : itB (k, g, i, t, ek, d, v, l, ht, hv, hc, ix, si, st, sv, sl, sd, ()) = hdB k g := by unfold itB; rw [if_neg k1]; rw [if_neg k2]; rw [if_neg k3]; rw [if_neg k4]; exact if_pos k5
    rw [hb]
    simp only [g1, g2, g3, g4, g5, cond_true, cond_false]
    rw [p27_is (by omega)]
    simp only [Option.bind_some]
  have g5 : (k == (5 : Int)) = false := beq_eq_false_iff_ne.2 k5
  have hb : itB (k, g, i, t, ek, d, v, l, ht, hv, hc, ix, si, st, sv, sl, sd, ()) = [] := by unfold itB; rw [if_neg k1]; rw [if_neg k2]; rw [if_neg k3]; rw [if_neg k4]; exact if_neg k5
  rw [hb]
  simp only [g1, g2, g3, g4, g5, cond_false]
theorem p31_is {k g i t ek ht hv hc ix si st : Int} {d v l sv sl sd : List Int} (h1 : v.length ≤ 7) (h2 : l.length ≤ 7) (h3 : sv.length ≤ 7) (h4 : sl.length ≤ 7) (hfu : 10 < fu) : p31 fu ((k, g, i, t, ek, d, v, l, ht, hv, hc, ix, si, st, sv, sl, sd, ()), (k, g, i, t, ek, d, v, l, ht, hv, hc, ix, si, st, sv, sl, sd, ()), ()) = some ((), true) := by
  unfold p31
  dsimp only
  rw [p73_is h1 h2 hfu, bind_val, p75_is h3 h4 hfu]
  simp only [bind_val, cond_true, BEq.rfl, Bool.and_self]
theorem conf_okL {a b : List Int} (h1 : okL a) (h2 : okL b) (hfu : 10 < fu) : confOk fu a b := ⟨h1.2, h2.2, Nat.le_trans h1.1 (by decide), Nat.le_trans h2.1 (by decide), Nat.lt_of_le_of_lt h1.1 (by omega), Nat.lt_of_le_of_lt h2.1 (by omega)⟩
/-- An item as it is read. -/
structure goodI (fu : Nat) (x : IT) : Prop where
  w : itOk fu x
  k1 : 1 ≤ x.1
  k5 : x.1 ≤ 5
  v : x.2.2.2.2.2.2.1.length ≤ 7
  l : x.2.2.2.2.2.2.2.1.length ≤ 7
  sv : x.2.2.2.2.2.2.2.2.2.2.2.2.2.2.1.length ≤ 7
  sl : x.2.2.2.2.2.2.2.2.2.2.2.2.2.2.2.1.length ≤ 7
theorem c0 (hfu : 10 < fu) : confOk fu [] [] := conf_okL okL_nil okL_nil hfu
theorem l0 : ([] : List Int).length ≤ 1048576 := by simp
theorem l7 : ([] : List Int).length ≤ 7 := by simp
theorem itemS_good {a : List Int} {c : Nat} {x : IT} (hA : okA fu a) (hl : a.length ≤ 1048576) (h : itemS a = .ok c x) : c ≤ a.length ∧ goodI fu x := by
  have hfu := hA.hfu
  have hk := p46P (fu := fu) (c := 0) hA (Nat.zero_le _)
  unfold itemS at h
  rcases hu0 : itkS a 0 with ⟨c0', k⟩ | ⟨e, q⟩
  rotate_left
  · rw [hu0] at h; cases h
  rw [hu0] at h hk
  obtain ⟨hc0, ⟨hk1, hk5⟩, _⟩ := hk
  have hkI : isI k := ⟨by omega, by omega⟩
  simp only [RR.bind] at h
  have hp := p15P (fu := fu) hA hc0
  rcases hu1 : uS a c0' with ⟨c1, g⟩ | ⟨e, q⟩
  rotate_left
  · rw [hu1] at h; cases h
  rw [hu1] at h hp
  obtain ⟨hc1, hg, _⟩ := hp
  simp only [] at h
  unfold bodS at h
  by_cases k1 : k = 1
  · rw [if_pos k1] at h
    have hp0 := p47P (fu := fu) hA hc1
    rcases hv0 : entS a c1 with ⟨d0, v0⟩ | ⟨e, q⟩
    · rw [hv0] at h hp0
      obtain ⟨g1, ⟨w1, w2, w3, w4, w5, w6⟩, _⟩ := hp0
      injection h with h1 h2
      subst h1 h2
      exact ⟨g1, ⟨⟨hkI, hg, w1, w2, ⟨by have := w3.1; dsimp only; omega, by have := w3.2; dsimp only; omega⟩, Nat.le_trans w4.1 hl, conf_okL w5 w6 hfu, isU0, isI0, isU0, isU0, isU0, isU0, c0 hfu, l0⟩, hk1, hk5, w5.1, w6.1, l7, l7⟩⟩
    · rw [hv0] at h; cases h
  rw [if_neg k1] at h
  by_cases k2 : k = 2
  · rw [if_pos k2] at h
    have hp0 := p15P (fu := fu) hA hc1
    rcases hv0 : uS a c1 with ⟨d0, v0⟩ | ⟨e, q⟩
    rotate_left
    · rw [hv0] at h; cases h
    rw [hv0] at h hp0
    obtain ⟨g1, w1, _⟩ := hp0
    simp only [RR.bind] at h
    have hp1 := p48P (fu := fu) hA g1
    rcases hv1 : iS a d0 with ⟨d1, v1⟩ | ⟨e, q⟩
    rotate_left
    · rw [hv1] at h; cases h
    rw [hv1] at h hp1
    obtain ⟨g2, w2, _⟩ := hp1
    simp only [] at h
    have hp2 := p15P (fu := fu) hA g2
    rcases hv2 : uS a d1 with ⟨d2, v2⟩ | ⟨e, q⟩
    rotate_left
    · rw [hv2] at h; cases h
    rw [hv2] at h hp2
    obtain ⟨g3, w3, _⟩ := hp2
    injection h with h1 h2
    subst h1 h2
    exact ⟨g3, ⟨⟨hkI, hg, isU0, isU0, isI0, l0, c0 hfu, w1, w2, w3, isU0, isU0, isU0, c0 hfu, l0⟩, hk1, hk5, l7, l7, l7, l7⟩⟩
  rw [if_neg k2] at h
  by_cases k3 : k = 3
  · rw [if_pos k3] at h
    have hp0 := p15P (fu := fu) hA hc1
    rcases hv0 : uS a c1 with ⟨d0, v0⟩ | ⟨e, q⟩
    rotate_left
    · rw [hv0] at h; cases h
    rw [hv0] at h hp0
    obtain ⟨g1, w1, _⟩ := hp0
    injection h with h1 h2
    subst h1 h2
    exact ⟨g1, ⟨⟨hkI, hg, isU0, isU0, isI0, l0, c0 hfu, isU0, isI0, isU0, w1, isU0, isU0, c0 hfu, l0⟩, hk1, hk5, l7, l7, l7, l7⟩⟩
  rw [if_neg k3] at h
  by_cases k4 : k = 4
  · rw [if_pos k4] at h
    have hp0 := p49P (fu := fu) hA hc1
    rcases hv0 : snapS a c1 with ⟨d0, v0⟩ | ⟨e, q⟩
    rotate_left
    · rw [hv0] at h; cases h
    rw [hv0] at h hp0
    obtain ⟨g1, ⟨w1, w2, w3, w4, w5⟩, _⟩ := hp0
    injection h with h1 h2
    subst h1 h2
    exact ⟨g1, ⟨⟨hkI, hg, isU0, isU0, isI0, l0, c0 hfu, isU0, isI0, isU0, isU0, w1, w2, conf_okL w3 w4 hfu, Nat.le_trans w5.1 hl⟩, hk1, hk5, l7, l7, w3.1, w4.1⟩⟩
  rw [if_neg k4] at h
  injection h with h1 h2
  subst h1 h2
  exact ⟨hc1, ⟨⟨hkI, hg, isU0, isU0, isI0, l0, c0 hfu, isU0, isI0, isU0, isU0, isU0, isU0, c0 hfu, l0⟩, hk1, hk5, l7, l7, l7, l7⟩⟩
/-- What is read: an item with short lists. -/
theorem outI_is {a : List Int} (hA : okA fu a) (hl : a.length ≤ 1048576) : ∃ x e, outI a = (x, e, ()) ∧ x.2.2.2.2.2.2.1.length ≤ 7 ∧ x.2.2.2.2.2.2.2.1.length ≤ 7 ∧ x.2.2.2.2.2.2.2.2.2.2.2.2.2.2.1.length ≤ 7 ∧ x.2.2.2.2.2.2.2.2.2.2.2.2.2.2.2.1.length ≤ 7 := by
  unfold outI
  rcases h : itemS a with ⟨c, x⟩ | ⟨e, q⟩
  · have hg := (itemS_good hA hl h).2
    by_cases hlt : (c : Int) < (a.length : Int)
    · exact ⟨_, _, if_pos hlt, l7, l7, l7, l7⟩
    · exact ⟨_, _, if_neg hlt, hg.v, hg.l, hg.sv, hg.sl⟩
  · exact ⟨_, _, rfl, l7, l7, l7, l7⟩
end
section
variable {fu : Nat}
def byt (l : List Int) : Prop := ∀ x ∈ l, 0 ≤ x ∧ x ≤ 255
theorem byt_app {a b : List Int} (h1 : byt a) (h2 : byt b) : byt (a ++ b) := fun x hx => by
  rcases List.mem_append.1 hx with h | h
  · exact h1 x h
  · exact h2 x h
theorem byt_nil : byt [] := fun x hx => by simp at hx
theorem byt_ub : ∀ (k v : Nat), v < k → byt (ub v)
  | 0, v, h => absurd h (Nat.not_lt_zero v)
  | k + 1, v, h => by
    by_cases hv : v < 128
    · rw [ub_small hv]
      intro x hx
      rw [List.mem_singleton.1 hx]
      omega
    · rw [ub_big hv]
      intro x hx
      rcases List.mem_cons.1 hx with e | e
      · rw [e]; omega
      · exact byt_ub k (v / 128) (by omega) x e
theorem byt_uB (v : Int) : byt (uB v) := byt_ub _ _ (Nat.lt_succ_self _)
theorem byt_nB (l : List Int) : byt (nB l) := byt_app (byt_uB _) fun x hx => by
  obtain ⟨y, _, h⟩ := List.mem_flatMap.1 hx
  exact byt_uB _ x h
theorem byt_tB {l : List Int} (h : byt l) : byt (tB l) := byt_app (byt_uB _) h
theorem byt_cB (a b : List Int) : byt (cB a b) := byt_app (byt_nB a) (byt_nB b)
/-- What is written so is read so, whatever stands ahead and behind; or it is refused. -/
def Wr {α : Type} (S : List Int → Nat → RR α) (w : List Int) (v : α) : Prop :=
  ∀ pre r, (∃ e q, S (pre ++ (w ++ r)) pre.length = .er e q) ∨ S (pre ++ (w ++ r)) pre.length = .ok (pre.length + w.length) v
theorem Wr_bind {α β : Type} {S1 : List Int → Nat → RR α} {S2 : α → List Int → Nat → RR β} {w1 w2 : List Int} {v1 : α} {v : β} (h1 : Wr S1 w1 v1) (h2 : Wr (S2 v1) w2 v) :
    Wr (fun a c => (S1 a c).bind fun c x => S2 x a c) (w1 ++ w2) v := by
  intro pre r
  rw [List.append_assoc]
  rcases h1 pre (w2 ++ r) with ⟨e, q, h⟩ | h
  · exact .inl ⟨e, q, by dsimp only; rw [h]; rfl⟩
  · dsimp only
    rw [h]
    have h3 := h2 (pre ++ w1) r
    rw [List.append_assoc, List.length_append] at h3
    rcases h3 with ⟨e, q, h⟩ | h
    · exact .inl ⟨e, q, h⟩
    · refine .inr ?_
      rw [List.length_append, ← Nat.add_assoc]
      exact h
theorem Wr_map {α β : Type} {S1 : List Int → Nat → RR α} {w1 : List Int} {v1 : α} {f : α → β} (h1 : Wr S1 w1 v1) : Wr (fun a c => (S1 a c).bind fun c x => .ok c (f x)) w1 (f v1) := by
  intro pre r
  rcases h1 pre r with ⟨e, q, h⟩ | h
  · exact .inl ⟨e, q, by dsimp only; rw [h]; rfl⟩
  · exact .inr (by dsimp only; rw [h]; rfl)
theorem numS_ub : ∀ (k n i acc : Nat) (r : List Int), n < k → (0 < i → 1 ≤ n) → i ≤ 9 → acc < 128 ^ i → acc + n * 128 ^ i < 18446744073709551616 → numS i acc (ub n ++ r) = (((acc + n * 128 ^ i : Nat) : Int), ((i + (ub n).length : Nat) : Int), 0)
  | 0, n, _, _, _, h, _, _, _, _ => absurd h (Nat.not_lt_zero n)
  | k + 1, n, i, acc, r, hk, h1, hi, ha, hb => by
    have hpow : i = 9 → (128 : Nat) ^ i = 9223372036854775808 := fun e => by rw [e]
    by_cases hn : n < 128
    · rw [ub_small hn]
      have c1 : ¬ (i = 9 ∧ (n : Int) ≠ 1) := by
        rintro ⟨e, hne⟩
        have := hpow e
        rw [this] at hb
        have h2 := h1 (by omega)
        omega
      have c2 : ¬ ((n : Int) = 0 ∧ 0 < i) := by
        rintro ⟨e, h3⟩
        have := h1 h3
        omega
      show numS i acc ((n : Int) :: r) = _
      rw [numS, if_neg c1, if_neg c2, if_pos (by omega), Int.toNat_natCast, Nat.mod_eq_of_lt hn]
      rfl
    · rw [ub_big hn]
      have hi9 : i ≠ 9 := fun e => by
        have := hpow e
        rw [this] at hb
        omega
      show numS i acc (((n % 128 + 128 : Nat) : Int) :: (ub (n / 128) ++ r)) = _
      rw [numS, if_neg (fun h => hi9 h.1), if_neg (by omega), if_neg (by omega), Int.toNat_natCast, show (n % 128 + 128) % 128 = n % 128 by omega]
      have hq : n % 128 * 128 ^ i + n / 128 * 128 ^ (i + 1) = n * 128 ^ i := by
        rw [Nat.pow_succ, Nat.mul_comm (128 ^ i) 128, ← Nat.mul_assoc, ← Nat.add_mul]
        congr 1
        omega
      have hm : n % 128 * 128 ^ i ≤ 127 * 128 ^ i := Nat.mul_le_mul_right _ (by omega)
      rw [numS_ub k (n / 128) (i + 1) (acc + n % 128 * 128 ^ i) r (by omega) (fun _ => by omega) (by omega) (by rw [Nat.pow_succ]; omega) (by rw [Nat.add_assoc, hq]; exact hb), Nat.add_assoc, hq, List.length_cons]
      congr 2
      rw [show i + 1 + (ub (n / 128)).length = i + ((ub (n / 128)).length + 1) by omega]
theorem Wr_u {v : Int} (h : isU v) : Wr uS (uB v) v := by
  intro pre r
  refine .inr ?_
  obtain ⟨n, rfl⟩ := Int.eq_ofNat_of_zero_le h.1
  have hn := h.2
  have e := numS_ub (n + 1) n 0 0 r (Nat.lt_succ_self n) (fun h => absurd h (Nat.lt_irrefl 0)) (by omega) (by decide) (by simp only [Nat.pow_zero, Nat.mul_one, Nat.zero_add]; omega)
  simp only [Nat.pow_zero, Nat.mul_one, Nat.zero_add] at e
  unfold uS
  rw [List.drop_left]
  show (if (numS 0 0 (ub n ++ r)).2.2 = 0 then _ else _) = _
  rw [show uB ((n : Nat) : Int) = ub n from rfl, e, if_pos rfl]
  rfl
theorem unzz_zz {c : Int} : unzz (zz c) = c := by
  unfold unzz zz
  split <;> split <;> omega
theorem Wr_i {k : Int} (h : isI k) : Wr iS (iB k) k := by
  have := Wr_map (f := unzz) (Wr_u (zz_u h))
  rw [unzz_zz] at this
  exact this
theorem Wr_byt {m : Int} {d : List Int} (hd : d.length ≤ 140737488355328) : Wr (fun a c => bytS a m c) (tB d) d := by
  intro pre r
  have hu := Wr_u (v := (d.length : Int)) ⟨by omega, by omega⟩ pre (d ++ r)
  unfold tB
  rw [List.append_assoc]
  dsimp only
  unfold bytS cntS
  rcases hu with ⟨e, q, h⟩ | h
  · exact .inl ⟨e, q, by rw [h]; rfl⟩
  · rw [h]
    simp only [RR.bind]
    by_cases c1 : m < 0 ∨ (d.length : Int) > m
    · rw [if_pos c1]
      exact .inl ⟨_, _, rfl⟩
    · rw [if_neg c1]
      have c2 : ¬ ((d.length : Int) > (((pre ++ (uB (d.length : Int) ++ (d ++ r))).length - (pre.length + (uB (d.length : Int)).length) : Nat) : Int)) := by
        simp only [List.length_append]
        omega
      rw [if_neg c2]
      refine .inr ?_
      dsimp only
      rw [← List.append_assoc, ← List.length_append, List.drop_left, Int.toNat_natCast, List.take_left, List.length_append, List.length_append, Nat.add_assoc]
theorem Wr_nod : ∀ (l s : List Int), (∀ x ∈ l, isI x) → Wr (fun a c => nodS a l.length s c) (l.flatMap iB) (s ++ l)
  | [], s, _ => fun pre r => .inr (by simp [nodS])
  | x :: l, s, h => by
    have := Wr_bind (S2 := fun x a c => nodS a l.length (s ++ [x]) c) (Wr_i (h x (by simp))) (Wr_nod l (s ++ [x]) fun y hy => h y (by simp [hy]))
    rw [List.append_assoc] at this
    exact this
theorem Wr_nds {l : List Int} (h : ∀ x ∈ l, isI x) (hl : l.length ≤ 1048576) : Wr ndsS (nB l) l := by
  have h1 : Wr (fun a c => cntS a 7 c) (uB (l.length : Int)) (l.length : Int) := by
    intro pre r
    dsimp only
    unfold cntS
    rcases Wr_u (v := (l.length : Int)) ⟨by omega, by omega⟩ pre r with ⟨e, q, h⟩ | h
    · exact .inl ⟨e, q, by rw [h]; rfl⟩
    · rw [h]
      simp only [RR.bind]
      split
      · exact .inl ⟨_, _, rfl⟩
      · split
        · exact .inl ⟨_, _, rfl⟩
        · exact .inr rfl
  have h2 := Wr_bind (S2 := fun n a c => nodS a n.toNat [] c) h1 (by rw [Int.toNat_natCast]; exact Wr_nod l [] h)
  exact h2
theorem Wr_conf {a b : List Int} (h : confOk fu a b) : Wr confS (cB a b) (a, b, ()) :=
  Wr_bind (S2 := fun l a c => (ndsS a c).bind fun c2 m => .ok c2 (l, m, ())) (Wr_nds h.ha h.la) (Wr_map (f := fun m => (a, m, ())) (Wr_nds h.hb h.lb))
theorem Wr_kind {k : Int} (h : isI k) : Wr kindS (iB k) k := by
  intro pre r
  unfold kindS
  rcases Wr_i h pre r with ⟨e, q, h⟩ | h
  · exact .inl ⟨e, q, by rw [h]; rfl⟩
  · rw [h]
    simp only [RR.bind]
    split
    · exact .inl ⟨_, _, rfl⟩
    · exact .inr rfl
theorem Wr_itk {k : Int} (h : isI k) : Wr itkS (iB k) k := by
  intro pre r
  unfold itkS
  rcases Wr_i h pre r with ⟨e, q, h⟩ | h
  · exact .inl ⟨e, q, by rw [h]; rfl⟩
  · rw [h]
    simp only [RR.bind]
    split
    · exact .inl ⟨_, _, rfl⟩
    · exact .inr rfl
theorem Wr_ent {i t k : Int} {d v l : List Int} (hi : isU i) (ht : isU t) (hk : isI k) (hd : d.length ≤ 1048576) (hc : confOk fu v l) : Wr entS (eB i t k d v l) (i, t, k, d, v, l, ()) :=
  Wr_bind (S2 := fun i a c => (uS a c).bind fun c t => (kindS a c).bind fun c k => (bytS a 262144 c).bind fun c d => (confS a c).bind fun c f => .ok c (i, t, k, d, f)) (Wr_u hi)
    (Wr_bind (S2 := fun t a c => (kindS a c).bind fun c k => (bytS a 262144 c).bind fun c d => (confS a c).bind fun c f => .ok c (i, t, k, d, f)) (Wr_u ht)
      (Wr_bind (S2 := fun k a c => (bytS a 262144 c).bind fun c d => (confS a c).bind fun c f => .ok c (i, t, k, d, f)) (Wr_kind hk)
        (Wr_bind (S2 := fun d a c => (confS a c).bind fun c f => .ok c (i, t, k, d, f)) (Wr_byt (by omega)) (Wr_map (f := fun f => (i, t, k, d, f)) (Wr_conf hc)))))
theorem Wr_snap {i t : Int} {d v l : List Int} (hi : isU i) (ht : isU t) (hd : d.length ≤ 1048576) (hc : confOk fu v l) : Wr snapS (sB i t v l d) (i, t, v, l, d, ()) :=
  Wr_bind (S2 := fun i a c => (uS a c).bind fun c t => (confS a c).bind fun c f => (bytS a 262144 c).bind fun c d => .ok c (i, t, f.1, f.2.1, d, ())) (Wr_u hi)
    (Wr_bind (S2 := fun t a c => (confS a c).bind fun c f => (bytS a 262144 c).bind fun c d => .ok c (i, t, f.1, f.2.1, d, ())) (Wr_u ht)
      (Wr_bind (S2 := fun f a c => (bytS a 262144 c).bind fun c d => .ok c (i, t, f.1, f.2.1, d, ())) (Wr_conf hc) (Wr_map (f := fun d => (i, t, v, l, d, ())) (Wr_byt (by omega)))))
/-- An item with the fields alone that its kind names. -/
def plainI (x : IT) : IT :=
  if x.1 = 1 then (x.1, x.2.1, x.2.2.1, x.2.2.2.1, x.2.2.2.2.1, x.2.2.2.2.2.1, x.2.2.2.2.2.2.1, x.2.2.2.2.2.2.2.1, 0, 0, 0, 0, 0, 0, [], [], [], ())
  else if x.1 = 2 then (x.1, x.2.1, 0, 0, 0, [], [], [], x.2.2.2.2.2.2.2.2.1, x.2.2.2.2.2.2.2.2.2.1, x.2.2.2.2.2.2.2.2.2.2.1, 0, 0, 0, [], [], [], ())
  else if x.1 = 3 then (x.1, x.2.1, 0, 0, 0, [], [], [], 0, 0, 0, x.2.2.2.2.2.2.2.2.2.2.2.1, 0, 0, [], [], [], ())
  else if x.1 = 4 then (x.1, x.2.1, 0, 0, 0, [], [], [], 0, 0, 0, 0, x.2.2.2.2.2.2.2.2.2.2.2.2.1, x.2.2.2.2.2.2.2.2.2.2.2.2.2.1, x.2.2.2.2.2.2.2.2.2.2.2.2.2.2.1, x.2.2.2.2.2.2.2.2.2.2.2.2.2.2.2.1, x.2.2.2.2.2.2.2.2.2.2.2.2.2.2.2.2.1, ())
  else (x.1, x.2.1, 0, 0, 0, [], [], [], 0, 0, 0, 0, 0, 0, [], [], [], ())
theorem Wr_bod {x : IT} (h : itOk fu x) : ∃ w, (x.1 = 1 ∨ x.1 = 2 ∨ x.1 = 3 ∨ x.1 = 4 ∨ x.1 = 5 → itB x = hdB x.1 x.2.1 ++ w) ∧ Wr (fun a c => bodS a x.1 x.2.1 c) w (plainI x) := by
  obtain ⟨k, g, i, t, ek, d, v, l, ht, hv, hc, ix, si, st, sv, sl, sd, ⟨⟩⟩ := x
  unfold plainI itB bodS
  dsimp only
  by_cases k1 : k = 1
  · simp only [if_pos k1]
    exact ⟨_, fun _ => rfl, Wr_map (f := fun (e : Int × Int × Int × List Int × List Int × List Int × Unit) => ((k, g, e.1, e.2.1, e.2.2.1, e.2.2.2.1, e.2.2.2.2.1, e.2.2.2.2.2.1, 0, 0, 0, 0, 0, 0, [], [], [], ()) : IT)) (Wr_ent (fu := fu) h.i h.t h.ek h.d h.c)⟩
  simp only [if_neg k1]
  by_cases k2 : k = 2
  · simp only [if_pos k2]
    exact ⟨_, fun _ => rfl, Wr_bind (S2 := fun t a c => (iS a c).bind fun c v => (uS a c).bind fun c m => .ok c ((k, g, 0, 0, 0, [], [], [], t, v, m, 0, 0, 0, [], [], [], ()) : IT)) (Wr_u h.ht)
      (Wr_bind (S2 := fun v a c => (uS a c).bind fun c m => .ok c ((k, g, 0, 0, 0, [], [], [], ht, v, m, 0, 0, 0, [], [], [], ()) : IT)) (Wr_i h.hv) (Wr_map (f := fun m => ((k, g, 0, 0, 0, [], [], [], ht, hv, m, 0, 0, 0, [], [], [], ()) : IT)) (Wr_u h.hc)))⟩
  simp only [if_neg k2]
  by_cases k3 : k = 3
  · simp only [if_pos k3]
    exact ⟨_, fun _ => rfl, Wr_map (f := fun i => ((k, g, 0, 0, 0, [], [], [], 0, 0, 0, i, 0, 0, [], [], [], ()) : IT)) (Wr_u h.ix)⟩
  simp only [if_neg k3]
  by_cases k4 : k = 4
  · simp only [if_pos k4]
    exact ⟨_, fun _ => rfl, Wr_map (f := fun (s : Int × Int × List Int × List Int × List Int × Unit) => ((k, g, 0, 0, 0, [], [], [], 0, 0, 0, 0, s.1, s.2.1, s.2.2.1, s.2.2.2.1, s.2.2.2.2.1, ()) : IT)) (Wr_snap (fu := fu) h.si h.st h.sd h.sc)⟩
  simp only [if_neg k4]
  refine ⟨[], fun h5 => ?_, fun pre r => .inr rfl⟩
  rw [if_pos (by omega), List.append_nil]
/-- An item that is written is read, as far as its kind names it; or it is refused. -/
theorem item_back {x : IT} (h : itOk fu x) (hk : x.1 = 1 ∨ x.1 = 2 ∨ x.1 = 3 ∨ x.1 = 4 ∨ x.1 = 5) : (∃ e q, itemS (itB x) = .er e q) ∨ itemS (itB x) = .ok (itB x).length (plainI x) := by
  obtain ⟨w, h1, h2⟩ := Wr_bod h
  have h3 : Wr (fun a c => (itkS a c).bind fun c k => (uS a c).bind fun c g => bodS a k g c) (iB x.1 ++ (uB x.2.1 ++ w)) (plainI x) :=
    Wr_bind (S2 := fun k a c => (uS a c).bind fun c g => bodS a k g c) (Wr_itk h.k) (Wr_bind (S2 := fun g a c => bodS a x.1 g c) (Wr_u h.g) h2)
  have h4 := h3 [] []
  rw [List.nil_append, List.append_nil] at h4
  rw [h1 hk, show hdB x.1 x.2.1 ++ w = iB x.1 ++ (uB x.2.1 ++ w) from List.append_assoc ..]
  rcases h4 with h4 | h4
  · exact .inl h4
  · refine .inr ?_
    rw [List.length_nil, Nat.zero_add] at h4
    exact h4
end
section
variable {fu : Nat}
theorem numS_canon : ∀ (r : List Int) (i acc : Nat) (v k : Int), (∀ x ∈ r, 0 ≤ x ∧ x ≤ 255) → numS i acc r = (v, k, 0) →
    ∃ w m : Nat, v = ((acc + w * 128 ^ i : Nat) : Int) ∧ k = ((i + m : Nat) : Int) ∧ r.take m = ub w ∧ (0 < i → 1 ≤ w)
  | [], i, acc, v, k, _, h => by
    simp [numS] at h
  | x :: r, i, acc, v, k, hb, h => by
    have hx := hb x (by simp)
    obtain ⟨n, rfl⟩ := Int.eq_ofNat_of_zero_le hx.1
    rw [numS] at h
    split at h
    · simp at h
    · split at h
      · simp at h
      · rename_i h0
        split at h
        · rename_i h128
          simp only [Prod.mk.injEq, Int.toNat_natCast, and_true] at h
          refine ⟨n, 1, ?_, ?_, ?_, fun hi => ?_⟩
          · rw [← h.1, Nat.mod_eq_of_lt (by omega)]
          · rw [← h.2]
          · rw [ub_small (by omega)]
            rfl
          · by_cases hn : n = 0
            · exact absurd ⟨by omega, hi⟩ h0
            · omega
        · rename_i h128
          obtain ⟨w, m, e1, e2, e3, e4⟩ := numS_canon r (i + 1) _ v k (fun y hy => hb y (by simp [hy])) h
          have hw := e4 (Nat.succ_pos i)
          refine ⟨n % 128 + 128 * w, m + 1, ?_, ?_, ?_, fun _ => by omega⟩
          · rw [e1]
            congr 1
            rw [Int.toNat_natCast, Nat.pow_succ, Nat.add_mul, Nat.add_assoc]
            congr 2
            rw [Nat.mul_comm (128 ^ i) 128, ← Nat.mul_assoc, Nat.mul_comm w 128]
          · rw [e2]
            omega
          · rw [List.take_succ_cons, e3, ub_big (v := n % 128 + 128 * w) (by omega), show (n % 128 + 128 * w) % 128 + 128 = n by omega, show (n % 128 + 128 * w) / 128 = w by omega]
/-- Whatever is read has the bytes that are written of it. -/
def Cn {α : Type} (S : List Int → Nat → RR α) (enc : α → List Int) : Prop :=
  ∀ (a : List Int) (c c' : Nat) (v : α), byt a → S a c = .ok c' v → a.drop c = enc v ++ a.drop c'
theorem Cn_map {α β : Type} {S1 : List Int → Nat → RR α} {e1 : α → List Int} {f : α → β} {enc : β → List Int} (h1 : Cn S1 e1) (he : ∀ v, enc (f v) = e1 v) : Cn (fun a c => (S1 a c).bind fun c x => .ok c (f x)) enc := by
  intro a c c' v hb h
  dsimp only at h
  rcases h2 : S1 a c with ⟨c1, x⟩ | ⟨e, q⟩
  · rw [h2] at h
    injection h with e1 e2
    subst e1 e2
    rw [he]
    exact h1 a c c1 x hb h2
  · rw [h2] at h; cases h
theorem Cn_bind {α β : Type} {S1 : List Int → Nat → RR α} {S2 : α → List Int → Nat → RR β} {e1 : α → List Int} {e2 : α → β → List Int} {enc : β → List Int} (h1 : Cn S1 e1) (h2 : ∀ x, Cn (S2 x) (e2 x)) (he : ∀ x (a : List Int) (c c' : Nat) y, S2 x a c = .ok c' y → enc y = e1 x ++ e2 x y) :
    Cn (fun a c => (S1 a c).bind fun c x => S2 x a c) enc := by
  intro a c c' v hb h
  dsimp only at h
  rcases h3 : S1 a c with ⟨c1, x⟩ | ⟨e, q⟩
  · rw [h3] at h
    rw [h1 a c c1 x hb h3, h2 x a c1 c' v hb h, he x a c1 c' v h, List.append_assoc]
  · rw [h3] at h; cases h
theorem Cn_u : Cn uS uB := by
  intro a c c' v hb h
  unfold uS at h
  split at h
  · rename_i h0
    injection h with h1 h2
    obtain ⟨w, m, e1, e2, e3, _⟩ := numS_canon (a.drop c) 0 0 (numS 0 0 (a.drop c)).1 (numS 0 0 (a.drop c)).2.1 (fun x hx => hb x (List.mem_of_mem_drop hx)) (by rw [← h0])
    rw [e2] at h1
    rw [e1] at h2
    simp only [Nat.pow_zero, Nat.mul_one, Nat.zero_add, Int.toNat_natCast] at h1 h2
    subst h1 h2
    show _ = ub w ++ _
    rw [← e3, ← List.drop_drop, List.take_append_drop]
  · cases h
theorem uS_u {a : List Int} {c c' : Nat} {v : Int} (hb : byt a) (h : uS a c = .ok c' v) : isU v := by
  unfold uS at h
  split at h
  · rename_i h0
    injection h with h1 h2
    subst h2
    exact numS_u (a.drop c) 0 0 _ (numS 0 0 (a.drop c)).2.1 (fun x hx => hb x (List.mem_of_mem_drop hx)) (by omega) (by decide) (by rw [← h0])
  · cases h
theorem zz_unzz {v : Int} (h : isU v) : zz (unzz v) = v := by
  obtain ⟨h1, h2⟩ := h
  unfold unzz zz
  split <;> split <;> omega
theorem Cn_i : Cn iS iB := by
  intro a c c' v hb h
  unfold iS at h
  rcases h2 : uS a c with ⟨c1, x⟩ | ⟨e, q⟩
  · rw [h2] at h
    injection h with e1 e2
    subst e1 e2
    have := Cn_u a c c1 x hb h2
    unfold iB
    rw [zz_unzz (uS_u hb h2)]
    exact this
  · rw [h2] at h; cases h
theorem Cn_byt {m : Int} : Cn (fun a c => bytS a m c) tB := by
  intro a c c' v hb h
  dsimp only at h
  unfold bytS at h
  rcases h1 : cntS a m c with ⟨c1, x⟩ | ⟨e, q⟩
  · rw [h1] at h
    injection h with e3 e4
    subst e3 e4
    unfold cntS at h1
    rcases h2 : uS a c with ⟨c2, y⟩ | ⟨e, q⟩
    · rw [h2] at h1
      simp only [RR.bind] at h1
      split at h1
      · cases h1
      · split at h1
        · cases h1
        · injection h1 with e1 e2
          subst e1 e2
          have h3 := Cn_u a c c2 y hb h2
          have hx := uS_u hb h2
          obtain ⟨n, rfl⟩ := Int.eq_ofNat_of_zero_le hx.1
          unfold tB
          have hl : ((a.drop c2).take (Int.toNat (n : Int))).length = n := by
            rw [Int.toNat_natCast, List.length_take, List.length_drop]
            omega
          rw [hl, List.append_assoc, ← List.drop_drop, List.take_append_drop]
          exact h3
    · rw [h2] at h1; cases h1
  · rw [h1] at h; cases h
theorem nodS_cn : ∀ (n : Nat) (s : List Int) (a : List Int) (c c' : Nat) (l : List Int), byt a → nodS a n s c = .ok c' l → ∃ t, l = s ++ t ∧ t.length = n ∧ a.drop c = t.flatMap iB ++ a.drop c'
  | 0, s, a, c, c', l, hb, h => by
    injection h with e1 e2
    subst e1 e2
    exact ⟨[], by simp, rfl, by simp⟩
  | n + 1, s, a, c, c', l, hb, h => by
    rw [nodS] at h
    rcases h2 : iS a c with ⟨c1, x⟩ | ⟨e, q⟩
    · rw [h2] at h
      obtain ⟨t, e1, e2, e3⟩ := nodS_cn n (s ++ [x]) a c1 c' l hb h
      refine ⟨x :: t, by rw [e1]; simp, by rw [List.length_cons, e2], ?_⟩
      rw [Cn_i a c c1 x hb h2, e3, List.flatMap_cons, List.append_assoc]
    · rw [h2] at h; cases h
theorem Cn_nds : Cn ndsS nB := by
  intro a c c' l hb h
  unfold ndsS at h
  rcases h1 : cntS a 7 c with ⟨c1, x⟩ | ⟨e, q⟩
  · rw [h1] at h
    unfold cntS at h1
    rcases h2 : uS a c with ⟨c2, y⟩ | ⟨e, q⟩
    · rw [h2] at h1
      simp only [RR.bind] at h1
      split at h1
      · cases h1
      · split at h1
        · cases h1
        · injection h1 with e1 e2
          subst e1 e2
          have hx := uS_u hb h2
          obtain ⟨n, rfl⟩ := Int.eq_ofNat_of_zero_le hx.1
          obtain ⟨t, e1, e2, e3⟩ := nodS_cn _ _ a c2 c' l hb h
          rw [List.nil_append] at e1
          subst e1
          rw [Int.toNat_natCast] at e2
          rw [Cn_u a c c2 _ hb h2, e3]
          unfold nB
          rw [e2, List.append_assoc]
    · rw [h2] at h1; cases h1
  · rw [h1] at h; cases h
theorem Cn_conf : Cn confS (fun f => cB f.1 f.2.1) :=
  Cn_bind (S2 := fun l a c => (ndsS a c).bind fun c2 m => .ok c2 (l, m, ())) (e2 := fun _ f => nB f.2.1) Cn_nds (fun l => Cn_map (f := fun m => (l, m, ())) Cn_nds fun _ => rfl) (fun x a c c' y h => by
    rcases h2 : ndsS a c with ⟨c1, m⟩ | ⟨e, q⟩
    · rw [h2] at h
      injection h with e1 e2
      subst e2
      rfl
    · rw [h2] at h; cases h)
theorem Cn_kind : Cn kindS iB := by
  intro a c c' v hb h
  unfold kindS at h
  rcases h2 : iS a c with ⟨c1, x⟩ | ⟨e, q⟩
  · rw [h2] at h
    simp only [RR.bind] at h
    split at h
    · cases h
    · injection h with e1 e2
      subst e1 e2
      exact Cn_i a c c1 x hb h2
  · rw [h2] at h; cases h
theorem Cn_itk : Cn itkS iB := by
  intro a c c' v hb h
  unfold itkS at h
  rcases h2 : iS a c with ⟨c1, x⟩ | ⟨e, q⟩
  · rw [h2] at h
    simp only [RR.bind] at h
    split at h
    · cases h
    · injection h with e1 e2
      subst e1 e2
      exact Cn_i a c c1 x hb h2
  · rw [h2] at h; cases h
theorem Cn_ent {a : List Int} {c c' : Nat} {x : Int × Int × Int × List Int × List Int × List Int × Unit} (hb : byt a) (h : entS a c = .ok c' x) : a.drop c = eB x.1 x.2.1 x.2.2.1 x.2.2.2.1 x.2.2.2.2.1 x.2.2.2.2.2.1 ++ a.drop c' := by
  unfold entS at h
  rcases h1 : uS a c with ⟨c1, i⟩ | ⟨e, q⟩
  rotate_left
  · rw [h1] at h; cases h
  rw [h1] at h
  simp only [RR.bind] at h
  rcases h2 : uS a c1 with ⟨c2, t⟩ | ⟨e, q⟩
  rotate_left
  · rw [h2] at h; cases h
  rw [h2] at h
  simp only [] at h
  rcases h3 : kindS a c2 with ⟨c3, k⟩ | ⟨e, q⟩
  rotate_left
  · rw [h3] at h; cases h
  rw [h3] at h
  simp only [] at h
  rcases h4 : bytS a 262144 c3 with ⟨c4, d⟩ | ⟨e, q⟩
  rotate_left
  · rw [h4] at h; cases h
  rw [h4] at h
  simp only [] at h
  rcases h5 : confS a c4 with ⟨c5, f⟩ | ⟨e, q⟩
  rotate_left
  · rw [h5] at h; cases h
  rw [h5] at h
  injection h with e1 e2
  subst e1 e2
  unfold eB
  rw [Cn_u a c c1 i hb h1, Cn_u a c1 c2 t hb h2, Cn_kind a c2 c3 k hb h3, Cn_byt a c3 c4 d hb h4, Cn_conf a c4 c5 f hb h5]
  simp only [List.append_assoc]
theorem Cn_snap {a : List Int} {c c' : Nat} {x : Int × Int × List Int × List Int × List Int × Unit} (hb : byt a) (h : snapS a c = .ok c' x) : a.drop c = sB x.1 x.2.1 x.2.2.1 x.2.2.2.1 x.2.2.2.2.1 ++ a.drop c' := by
  unfold snapS at h
  rcases h1 : uS a c with ⟨c1, i⟩ | ⟨e, q⟩
  rotate_left
  · rw [h1] at h; cases h
  rw [h1] at h
  simp only [RR.bind] at h
  rcases h2 : uS a c1 with ⟨c2, t⟩ | ⟨e, q⟩
  rotate_left
  · rw [h2] at h; cases h
  rw [h2] at h
  simp only [] at h
  rcases h3 : confS a c2 with ⟨c3, f⟩ | ⟨e, q⟩
  rotate_left
  · rw [h3] at h; cases h
  rw [h3] at h
  simp only [] at h
  rcases h4 : bytS a 262144 c3 with ⟨c4, d⟩ | ⟨e, q⟩
  rotate_left
  · rw [h4] at h; cases h
  rw [h4] at h
  injection h with e1 e2
  subst e1 e2
  unfold sB
  rw [Cn_u a c c1 i hb h1, Cn_u a c1 c2 t hb h2, Cn_conf a c2 c3 f hb h3, Cn_byt a c3 c4 d hb h4]
  simp only [List.append_assoc]
/-- An item that is read has just the bytes that are written of it. -/
theorem item_canon {a : List Int} {c : Nat} {x : IT} (hA : okA fu a) (h : itemS a = .ok c x) : a = itB x ++ a.drop c := by
  have hb : byt a := hA.hb
  have hk := p46P (fu := fu) (c := 0) hA (Nat.zero_le _)
  unfold itemS at h
  rcases hu0 : itkS a 0 with ⟨c0, k⟩ | ⟨e, q⟩
  rotate_left
  · rw [hu0] at h; cases h
  rw [hu0] at h hk
  obtain ⟨_, ⟨hk1, hk5⟩, _⟩ := hk
  have e0 := Cn_itk a 0 c0 k hb hu0
  rw [List.drop_zero] at e0
  simp only [RR.bind] at h
  rcases hu1 : uS a c0 with ⟨c1, g⟩ | ⟨e, q⟩
  rotate_left
  · rw [hu1] at h; cases h
  rw [hu1] at h
  have e1 := Cn_u a c0 c1 g hb hu1
  simp only [] at h
  have key : a = hdB k g ++ a.drop c1 := by
    unfold hdB
    rw [List.append_assoc, ← e1]
    exact e0
  unfold bodS at h
  by_cases k1 : k = 1
  · rw [if_pos k1] at h
    rcases hv0 : entS a c1 with ⟨d0, v0⟩ | ⟨e, q⟩
    · have e2 := Cn_ent hb hv0
      rw [hv0] at h
      injection h with h1 h2
      subst h1 h2
      unfold itB
      dsimp only
      rw [if_pos k1, List.append_assoc, ← e2]
      exact key
    · rw [hv0] at h; cases h
  rw [if_neg k1] at h
  by_cases k2 : k = 2
  · rw [if_pos k2] at h
    rcases hv0 : uS a c1 with ⟨d0, v0⟩ | ⟨e, q⟩
    rotate_left
    · rw [hv0] at h; cases h
    rw [hv0] at h
    simp only [RR.bind] at h
    rcases hv1 : iS a d0 with ⟨d1, v1⟩ | ⟨e, q⟩
    rotate_left
    · rw [hv1] at h; cases h
    rw [hv1] at h
    simp only [] at h
    rcases hv2 : uS a d1 with ⟨d2, v2⟩ | ⟨e, q⟩
    rotate_left
    · rw [hv2] at h; cases h
    have e2 := Cn_u a _ _ _ hb hv0
    have e3 := Cn_i a _ _ _ hb hv1
    have e4 := Cn_u a _ _ _ hb hv2
    rw [hv2] at h
    injection h with h1 h2
    subst h1 h2
    unfold itB
    dsimp only
    rw [if_neg k1, if_pos k2, List.append_assoc, List.append_assoc, List.append_assoc, ← e4, ← e3, ← e2]
    exact key
  rw [if_neg k2] at h
  by_cases k3 : k = 3
  · rw [if_pos k3] at h
    rcases hv0 : uS a c1 with ⟨d0, v0⟩ | ⟨e, q⟩
    rotate_left
    · rw [hv0] at h; cases h
    have e2 := Cn_u a _ _ _ hb hv0
    rw [hv0] at h
    injection h with h1 h2
    subst h1 h2
    unfold itB
    dsimp only
    rw [if_neg k1, if_neg k2, if_pos k3, List.append_assoc, ← e2]
    exact key
  rw [if_neg k3] at h
  by_cases k4 : k = 4
  · rw [if_pos k4] at h
    rcases hv0 : snapS a c1 with ⟨d0, v0⟩ | ⟨e, q⟩
    rotate_left
    · rw [hv0] at h; cases h
    have e2 := Cn_snap hb hv0
    rw [hv0] at h
    injection h with h1 h2
    subst h1 h2
    unfold itB
    dsimp only
    rw [if_neg k1, if_neg k2, if_neg k3, if_pos k4, List.append_assoc, ← e2]
    exact key
  rw [if_neg k4] at h
  have k5 : k = 5 := by omega
  injection h with h1 h2
  subst h1 h2
  unfold itB
  dsimp only
  rw [if_neg k1, if_neg k2, if_neg k3, if_neg k4, if_pos k5]
  exact key
/-- Where nothing is read there is an error. -/
def NE {α : Type} (S : List Int → Nat → RR α) : Prop := ∀ a c e q, S a c = .er e q → e ≠ 0
theorem NE_bind {α β : Type} {S1 : List Int → Nat → RR α} {S2 : α → List Int → Nat → RR β} (h1 : NE S1) (h2 : ∀ x, NE (S2 x)) : NE fun a c => (S1 a c).bind fun c x => S2 x a c := by
  intro a c e q h
  dsimp only at h
  rcases h3 : S1 a c with ⟨c1, x⟩ | ⟨e', q'⟩
  · rw [h3] at h
    exact h2 x a c1 e q h
  · rw [h3] at h
    injection h with e1 e2
    subst e1 e2
    exact h1 a c e' q' h3
theorem NE_ok {α : Type} (f : List Int → Nat → RR α) (h : ∀ a c, ∃ c' v, f a c = .ok c' v) : NE f := by
  intro a c e q he
  obtain ⟨c', v, h1⟩ := h a c
  rw [h1] at he
  cases he
theorem NE_u : NE uS := by
  intro a c e q h
  unfold uS at h
  split at h
  · cases h
  · rename_i h0
    injection h with e1 e2
    subst e1
    exact h0
theorem NE_i : NE iS := NE_bind (S2 := fun v _ c => .ok c (unzz v)) NE_u fun _ => NE_ok _ fun _ _ => ⟨_, _, rfl⟩
theorem NE_cnt {m : Int} : NE fun a c => cntS a m c := by
  intro a c e q h
  dsimp only at h
  unfold cntS at h
  rcases h2 : uS a c with ⟨c1, x⟩ | ⟨e', q'⟩
  · rw [h2] at h
    simp only [RR.bind] at h
    split at h
    · injection h with e1 e2
      subst e1
      decide
    · split at h
      · injection h with e1 e2
        subst e1
        decide
      · cases h
  · rw [h2] at h
    injection h with e1 e2
    subst e1 e2
    exact NE_u a c e' q' h2
theorem NE_byt {m : Int} : NE fun a c => bytS a m c := NE_bind (S2 := fun (n : Int) a c1 => .ok (c1 + n.toNat) ((a.drop c1).take n.toNat)) NE_cnt fun _ => NE_ok _ fun _ _ => ⟨_, _, rfl⟩
theorem NE_nod : ∀ (n : Nat) (l : List Int), NE fun a c => nodS a n l c
  | 0, _ => NE_ok _ fun _ _ => ⟨_, _, rfl⟩
  | n + 1, l => NE_bind (S2 := fun x a c => nodS a n (l ++ [x]) c) NE_i fun x => NE_nod n (l ++ [x])
theorem NE_nds : NE ndsS := NE_bind (S2 := fun (n : Int) a c => nodS a n.toNat [] c) NE_cnt fun n => NE_nod n.toNat []
theorem NE_conf : NE confS := NE_bind (S2 := fun (l : List Int) a c => (ndsS a c).bind fun c2 m => .ok c2 (l, m, ())) NE_nds fun l => NE_bind (S2 := fun (m : List Int) _ c2 => .ok c2 (l, m, ())) NE_nds fun _ => NE_ok _ fun _ _ => ⟨_, _, rfl⟩
theorem NE_kind : NE kindS := by
  intro a c e q h
  unfold kindS at h
  rcases h2 : iS a c with ⟨c1, x⟩ | ⟨e', q'⟩
  · rw [h2] at h
    simp only [RR.bind] at h
    split at h
    · injection h with e1 e2
      subst e1
      decide
    · cases h
  · rw [h2] at h
    injection h with e1 e2
    subst e1 e2
    exact NE_i a c e' q' h2
theorem NE_itk : NE itkS := by
  intro a c e q h
  unfold itkS at h
  rcases h2 : iS a c with ⟨c1, x⟩ | ⟨e', q'⟩
  · rw [h2] at h
    simp only [RR.bind] at h
    split at h
    · injection h with e1 e2
      subst e1
      decide
    · cases h
  · rw [h2] at h
    injection h with e1 e2
    subst e1 e2
    exact NE_i a c e' q' h2
theorem NE_o {α : Type} {f : Nat → List Int → RR α} (h : ∀ c a, ∃ c' v, f c a = .ok c' v) : NE fun a c => f c a := NE_ok _ fun a c => h c a
theorem NE_ent : NE entS :=
  NE_bind (S2 := fun (i : Int) a c => (uS a c).bind fun c t => (kindS a c).bind fun c k => (bytS a 262144 c).bind fun c d => (confS a c).bind fun c f => .ok c (i, t, k, d, f)) NE_u fun i =>
    NE_bind (S2 := fun (t : Int) a c => (kindS a c).bind fun c k => (bytS a 262144 c).bind fun c d => (confS a c).bind fun c f => .ok c (i, t, k, d, f)) NE_u fun t =>
      NE_bind (S2 := fun (k : Int) a c => (bytS a 262144 c).bind fun c d => (confS a c).bind fun c f => .ok c (i, t, k, d, f)) NE_kind fun k =>
        NE_bind (S2 := fun (d : List Int) a c => (confS a c).bind fun c f => .ok c (i, t, k, d, f)) NE_byt fun d => NE_bind (S2 := fun (f : List Int × List Int × Unit) _ c => .ok c (i, t, k, d, f)) NE_conf fun _ => NE_ok _ fun _ _ => ⟨_, _, rfl⟩
theorem NE_snap : NE snapS :=
  NE_bind (S2 := fun (i : Int) a c => (uS a c).bind fun c t => (confS a c).bind fun c f => (bytS a 262144 c).bind fun c d => .ok c (i, t, f.1, f.2.1, d, ())) NE_u fun i =>
    NE_bind (S2 := fun (t : Int) a c => (confS a c).bind fun c f => (bytS a 262144 c).bind fun c d => .ok c (i, t, f.1, f.2.1, d, ())) NE_u fun t =>
      NE_bind (S2 := fun (f : List Int × List Int × Unit) a c => (bytS a 262144 c).bind fun c d => .ok c (i, t, f.1, f.2.1, d, ())) NE_conf fun f => NE_bind (S2 := fun (d : List Int) _ c => .ok c (i, t, f.1, f.2.1, d, ())) NE_byt fun _ => NE_ok _ fun _ _ => ⟨_, _, rfl⟩
theorem NE_bod (k g : Int) : NE fun a c => bodS a k g c := by
  intro a c e q h
  dsimp only at h
  unfold bodS at h
  by_cases k1 : k = 1
  · rw [if_pos k1] at h
    exact NE_bind (S2 := fun (e : Int × Int × Int × List Int × List Int × List Int × Unit) _ c => .ok c ((k, g, e.1, e.2.1, e.2.2.1, e.2.2.2.1, e.2.2.2.2.1, e.2.2.2.2.2.1, 0, 0, 0, 0, 0, 0, [], [], [], ()) : IT)) NE_ent (fun _ => NE_ok _ fun _ _ => ⟨_, _, rfl⟩) a c e q h
  rw [if_neg k1] at h
  by_cases k2 : k = 2
  · rw [if_pos k2] at h
    exact NE_bind (S2 := fun (t : Int) a c => (iS a c).bind fun c v => (uS a c).bind fun c m => .ok c ((k, g, 0, 0, 0, [], [], [], t, v, m, 0, 0, 0, [], [], [], ()) : IT)) NE_u (fun t =>
      NE_bind (S2 := fun (v : Int) a c => (uS a c).bind fun c m => .ok c ((k, g, 0, 0, 0, [], [], [], t, v, m, 0, 0, 0, [], [], [], ()) : IT)) NE_i fun v => NE_bind (S2 := fun (m : Int) _ c => .ok c ((k, g, 0, 0, 0, [], [], [], t, v, m, 0, 0, 0, [], [], [], ()) : IT)) NE_u fun _ => NE_ok _ fun _ _ => ⟨_, _, rfl⟩) a c e q h
  rw [if_neg k2] at h
  by_cases k3 : k = 3
  · rw [if_pos k3] at h
    exact NE_bind (S2 := fun (i : Int) _ c => .ok c ((k, g, 0, 0, 0, [], [], [], 0, 0, 0, i, 0, 0, [], [], [], ()) : IT)) NE_u (fun _ => NE_ok _ fun _ _ => ⟨_, _, rfl⟩) a c e q h
  rw [if_neg k3] at h
  by_cases k4 : k = 4
  · rw [if_pos k4] at h
    exact NE_bind (S2 := fun (s : Int × Int × List Int × List Int × List Int × Unit) _ c => .ok c ((k, g, 0, 0, 0, [], [], [], 0, 0, 0, 0, s.1, s.2.1, s.2.2.1, s.2.2.2.1, s.2.2.2.2.1, ()) : IT)) NE_snap (fun _ => NE_ok _ fun _ _ => ⟨_, _, rfl⟩) a c e q h
  rw [if_neg k4] at h
  cases h
theorem item_ne {a : List Int} {e q : Int} (h : itemS a = .er e q) : e ≠ 0 := by
  have := NE_bind (S2 := fun (k : Int) a c => (uS a c).bind fun c g => bodS a k g c) NE_itk (fun k => NE_bind (S2 := fun (g : Int) a c => bodS a k g c) NE_u fun g => NE_bod k g)
  exact this a 0 e q h
end
section
variable {fu : Nat}
/-- One bit. -/
def bit1 (c : BitVec 32) : BitVec 32 := if c.toNat % 2 = 1 then (c >>> 1) ^^^ 2197175160#32 else c >>> 1
def bit4 (c : BitVec 32) : BitVec 32 := bit1 (bit1 (bit1 (bit1 c)))
def nibT (c : BitVec 32) : BitVec 32 := BitVec.ofNat 32 (gl0.getD (c &&& 15#32).toNat 0).toNat
def nib (c : BitVec 32) : BitVec 32 := (c >>> 4) ^^^ nibT c
theorem xor_par (a b : BitVec 32) : (a ^^^ b).toNat % 2 = (a.toNat + b.toNat) % 2 := by
  rw [BitVec.toNat_xor]
  have h := Nat.testBit_xor a.toNat b.toNat 0
  rw [Nat.testBit_zero, Nat.testBit_zero, Nat.testBit_zero] at h
  by_cases ha : a.toNat % 2 = 1
  · by_cases hb : b.toNat % 2 = 1
    · simp only [ha, hb, decide_true, Bool.xor_self, decide_eq_false_iff_not] at h
      omega
    · simp only [ha, hb, decide_true, decide_false, Bool.xor_false, decide_eq_true_eq] at h
      omega
  · by_cases hb : b.toNat % 2 = 1
    · simp only [ha, hb, decide_true, decide_false, Bool.false_xor, decide_eq_true_eq] at h
      omega
    · simp only [ha, hb, decide_false, Bool.xor_self, decide_eq_false_iff_not] at h
      omega
theorem bit1_xor (a b : BitVec 32) : bit1 (a ^^^ b) = bit1 a ^^^ bit1 b := by
  have h := xor_par a b
  have hs : (a ^^^ b) >>> 1 = (a >>> 1) ^^^ (b >>> 1) := BitVec.ushiftRight_xor_distrib a b 1
  have ha : a.toNat % 2 = 0 ∨ a.toNat % 2 = 1 := by omega
  have hb : b.toNat % 2 = 0 ∨ b.toNat % 2 = 1 := by omega
  unfold bit1
  rw [hs]
  generalize a >>> 1 = x
  generalize b >>> 1 = y
  generalize 2197175160#32 = p
  rcases ha with ha | ha <;> rcases hb with hb | hb
  · rw [if_neg (by omega), if_neg (by omega), if_neg (by omega)]
  · rw [if_pos (by omega), if_neg (by omega), if_pos (by omega), BitVec.xor_assoc]
  · rw [if_pos (by omega), if_pos (by omega), if_neg (by omega), BitVec.xor_assoc, BitVec.xor_assoc, BitVec.xor_comm y p]
  · rw [if_neg (by omega), if_pos (by omega), if_pos (by omega)]
    have e : x ^^^ p ^^^ (y ^^^ p) = x ^^^ y ^^^ (p ^^^ p) := by ac_rfl
    rw [e, BitVec.xor_self, BitVec.xor_zero]
theorem bit4_xor (a b : BitVec 32) : bit4 (a ^^^ b) = bit4 a ^^^ bit4 b := by
  unfold bit4
  rw [bit1_xor, bit1_xor, bit1_xor, bit1_xor]
theorem bit1_even (m : Nat) (h : m < 2147483648) : bit1 (BitVec.ofNat 32 (2 * m)) = BitVec.ofNat 32 m := by
  unfold bit1
  rw [if_neg (by rw [BitVec.toNat_ofNat]; omega)]
  apply BitVec.eq_of_toNat_eq
  rw [BitVec.toNat_ushiftRight, BitVec.toNat_ofNat, BitVec.toNat_ofNat, Nat.shiftRight_eq_div_pow]
  omega
theorem bit4_high (m : Nat) (h : m < 268435456) : bit4 (BitVec.ofNat 32 (16 * m)) = BitVec.ofNat 32 m := by
  unfold bit4
  rw [show 16 * m = 2 * (8 * m) by omega, bit1_even _ (by omega), show 8 * m = 2 * (4 * m) by omega, bit1_even _ (by omega), show 4 * m = 2 * (2 * m) by omega, bit1_even _ (by omega), bit1_even _ (by omega)]
theorem bit4_low : ∀ n : Fin 16, bit4 (BitVec.ofNat 32 n.val) = BitVec.ofNat 32 (gl0.getD n.val 0).toNat := by decide +kernel
theorem low15 (c : BitVec 32) : (c &&& 15#32).toNat = c.toNat % 16 := by
  rw [BitVec.toNat_and]
  exact Nat.and_two_pow_sub_one_eq_mod c.toNat 4
theorem high_low (c : BitVec 32) : c = BitVec.ofNat 32 (16 * (c.toNat / 16)) ^^^ BitVec.ofNat 32 (c.toNat % 16) := by
  apply BitVec.eq_of_toNat_eq
  have hlt := c.isLt
  rw [BitVec.toNat_xor, BitVec.toNat_ofNat, BitVec.toNat_ofNat, Nat.mod_eq_of_lt (by omega), Nat.mod_eq_of_lt (by omega)]
  have h1 : c.toNat % 16 < 2 ^ 4 := by omega
  have h2 := Nat.two_pow_add_eq_or_of_lt h1 (c.toNat / 16)
  have h3 : 2 ^ 4 * (c.toNat / 16) ^^^ c.toNat % 16 = 2 ^ 4 * (c.toNat / 16) ||| c.toNat % 16 := by
    apply Nat.eq_of_testBit_eq
    intro i
    rw [Nat.testBit_xor, Nat.testBit_or]
    by_cases hi : i < 4
    · rw [Nat.testBit_two_pow_mul]
      simp [Nat.not_le.2 hi]
    · have : (c.toNat % 16).testBit i = false := by
        apply Nat.testBit_lt_two_pow
        exact Nat.lt_of_lt_of_le h1 (Nat.pow_le_pow_right (by decide) (by omega))
      rw [this]
      simp
  have e16 : (2 : Nat) ^ 4 = 16 := rfl
  rw [e16] at h2 h3
  rw [h3, ← h2]
  omega
theorem nib_is (c : BitVec 32) : nib c = bit4 c := by
  have hlt := c.isLt
  have e := high_low c
  have h1 : bit4 c = BitVec.ofNat 32 (c.toNat / 16) ^^^ BitVec.ofNat 32 (gl0.getD (c.toNat % 16) 0).toNat := by
    conv => lhs; rw [e]
    rw [bit4_xor, bit4_high _ (by omega)]
    have := bit4_low ⟨c.toNat % 16, by omega⟩
    rw [this]
  rw [h1]
  unfold nib nibT
  rw [low15]
  congr 1
  apply BitVec.eq_of_toNat_eq
  rw [BitVec.toNat_ushiftRight, BitVec.toNat_ofNat, Nat.shiftRight_eq_div_pow]
  omega
/-! Numbers of 32 bits as the program has them. -/
theorem wu32 {x : Int} (h1 : 0 ≤ x) (h2 : x < 4294967296) : IntKind.wrap .u32 x = x := wuk .u32 rfl h1 h2
theorem ofI (C : BitVec 32) : BitVec.ofInt 32 (C.toNat : Int) = C := by
  rw [BitVec.ofInt_natCast]
  simp
theorem xorI (C D : BitVec 32) : IntKind.wrap .u32 ((BitVec.ofInt (IntKind.bits .u32) (C.toNat : Int) ^^^ BitVec.ofInt (IntKind.bits .u32) (D.toNat : Int)).toNat : Int) = ((C ^^^ D).toNat : Int) := by
  have e : (BitVec.ofInt (IntKind.bits .u32) (C.toNat : Int) ^^^ BitVec.ofInt (IntKind.bits .u32) (D.toNat : Int)).toNat = (C ^^^ D).toNat := by
    show (BitVec.ofInt 32 (C.toNat : Int) ^^^ BitVec.ofInt 32 (D.toNat : Int)).toNat = _
    rw [ofI, ofI]
  rw [e]
  have := (C ^^^ D).isLt
  exact wu32 (by omega) (by omega)
theorem andI (C D : BitVec 32) : IntKind.wrap .u32 ((BitVec.ofInt (IntKind.bits .u32) (C.toNat : Int) &&& BitVec.ofInt (IntKind.bits .u32) (D.toNat : Int)).toNat : Int) = ((C &&& D).toNat : Int) := by
  have e : (BitVec.ofInt (IntKind.bits .u32) (C.toNat : Int) &&& BitVec.ofInt (IntKind.bits .u32) (D.toNat : Int)).toNat = (C &&& D).toNat := by
    show (BitVec.ofInt 32 (C.toNat : Int) &&& BitVec.ofInt 32 (D.toNat : Int)).toNat = _
    rw [ofI, ofI]
  rw [e]
  have := (C &&& D).isLt
  exact wu32 (by omega) (by omega)
theorem shrI4 (C : BitVec 32) : Int.fdiv (C.toNat : Int) (2 ^ (min (Int.toNat (4 : Int)) (IntKind.bits .u32))) = ((C >>> 4).toNat : Int) := by
  show Int.fdiv (C.toNat : Int) 16 = _
  rw [Int.fdiv_eq_ediv_of_nonneg _ (by decide), BitVec.toNat_ushiftRight, Nat.shiftRight_eq_div_pow]
  rfl
theorem shrI1 (C : BitVec 32) : Int.fdiv (C.toNat : Int) (2 ^ (min (Int.toNat (1 : Int)) (IntKind.bits .u32))) = ((C >>> 1).toNat : Int) := by
  show Int.fdiv (C.toNat : Int) 2 = _
  rw [Int.fdiv_eq_ediv_of_nonneg _ (by decide), BitVec.toNat_ushiftRight, Nat.shiftRight_eq_div_pow]
  rfl
theorem tabI (C : BitVec 32) : List.getD gl0 (Int.toNat ((C &&& 15#32).toNat : Int)) (dflt (.int .u32)) = ((nibT C).toNat : Int) := by
  have h : ∀ n : Fin 16, gl0.getD n.val 0 = ((BitVec.ofNat 32 (gl0.getD n.val 0).toNat).toNat : Int) := by decide +kernel
  rw [Int.toNat_natCast]
  exact h ⟨(C &&& 15#32).toNat, by rw [low15]; omega⟩
/-- A byte goes in. -/
def byte8 (c : BitVec 32) (n : Int) : BitVec 32 := bit4 (bit4 (c ^^^ BitVec.ofNat 32 n.toNat))
def sumB (l : List Int) : BitVec 32 := l.foldl byte8 4294967295#32
theorem foldl_take {l : List Int} {i : Nat} (h : i < l.length) (c : BitVec 32) : (l.take (i + 1)).foldl byte8 c = byte8 ((l.take i).foldl byte8 c) (l.getD i 0) := by
  have e : l.getD i 0 = l[i] := by simp [h]
  rw [List.take_succ_eq_append_getElem h, List.foldl_append, e]
  rfl
theorem byteI {x : Int} (h0 : 0 ≤ x) (h1 : x ≤ 255) : IntKind.wrap .u32 x = ((BitVec.ofNat 32 x.toNat).toNat : Int) := by
  rw [wu32 h0 (by omega), BitVec.toNat_ofNat]
  omega
def itb : Nat → BitVec 32 → BitVec 32
  | 0, c => c
  | n + 1, c => bit1 (itb n c)
theorem p24_is {l : List Int} (hb : ∀ x ∈ l, 0 ≤ x ∧ x ≤ 255) (hl : l.length ≤ 140737488355328) (hfu : l.length < fu) : p24 fu (l, ()) = some ((), ((4294967295#32 ^^^ sumB l).toNat : Int)) := by
  unfold p24
  dsimp only
  refine loopO_eq (fun (s : (Int × (Int × Unit)) × Unit) => ∃ k : Nat, k ≤ l.length ∧ s = (((((l.take k).foldl byte8 4294967295#32).toNat : Int), (k : Int), ()), ())) (fun s => l.length - s.1.2.1.toNat) (fun _ => ((), ((4294967295#32 ^^^ sumB l).toNat : Int))) ?_ fu _ ⟨0, Nat.zero_le _, rfl⟩ (by dsimp only; omega)
  rintro _ ⟨k, hk, rfl⟩
  by_cases hlt : k < l.length
  · left
    have e1 : decide ((k : Int) < (l.length : Int)) = true := by simpa using hlt
    have e2 : decide ((0 : Int) ≤ (k : Int) ∧ (k : Int) < (l.length : Int)) = true := by simp; omega
    have e3 : decide (k < l.length) = true := by simpa using hlt
    have hw : IntKind.wrap .i64 ((k : Int) + 1) = ((k + 1 : Nat) : Int) := by rw [wi64 (by omega) (by omega)]; omega
    have hx : 0 ≤ l.getD k 0 ∧ l.getD k 0 ≤ 255 := by
      have e : l.getD k 0 = l[k] := by simp [hlt]
      rw [e]
      exact hb _ (List.getElem_mem hlt)
    have e15 : (15 : Int) = ((15#32).toNat : Int) := rfl
    have in16 : ∀ C : BitVec 32, decide ((0 : Int) ≤ ((C &&& 15#32).toNat : Int) ∧ ((C &&& 15#32).toNat : Int) < (16 : Int) ∧ List.length gl0 = 16) = true := fun C => by
      have := low15 C
      simp only [decide_eq_true_eq]
      exact ⟨by omega, by omega, rfl⟩
    have in16' : ∀ C : BitVec 32, decide (Int.toNat ((C &&& 15#32).toNat : Int) < List.length gl0) = true := fun C => by
      have := low15 C
      simp only [decide_eq_true_eq]
      rw [show gl0.length = 16 from rfl]
      omega
    refine ⟨_, ?_, ⟨k + 1, hlt, rfl⟩, ?_, rfl⟩
    · have hg : l.getD k (dflt (.int .u8)) = l.getD k 0 := rfl
      simp only [e1, e2, Int.toNat_natCast, e3, cond_true, hg, byteI hx.1 hx.2]
      rw [foldl_take hlt]
      generalize (l.take k).foldl byte8 4294967295#32 = C
      generalize hX : BitVec.ofNat 32 (l.getD k 0).toNat = X
      have hb8 : byte8 C (l.getD k 0) = nib (nib (C ^^^ X)) := by rw [nib_is, nib_is, ← hX]; rfl
      rw [hb8]
      simp only [e15, xorI, andI, in16, in16', cond_true, tabI, shrI4, hw, nib]
    · dsimp only
      omega
  · right
    have hkl : k = l.length := by omega
    subst hkl
    have e1 : decide ((l.length : Int) < (l.length : Int)) = false := by simp
    have eF : (4294967295 : Int) = ((4294967295#32).toNat : Int) := rfl
    simp only [e1, cond_false, List.take_length, eF, xorI, inrO, Option.map_some]
    rfl
theorem or32 (n m : Nat) : ((BitVec.ofInt (IntKind.bits .u32) (n : Int) ||| BitVec.ofInt (IntKind.bits .u32) (m : Int)).toNat) = (BitVec.ofNat 32 n ||| BitVec.ofNat 32 m).toNat := by
  show (BitVec.ofInt 32 (n : Int) ||| BitVec.ofInt 32 (m : Int)).toNat = _
  rw [BitVec.ofInt_natCast, BitVec.ofInt_natCast]
theorem pow8 (i : Nat) (h : i ≤ 3) : (2 : Int) ^ (min (Int.toNat (IntKind.wrap .i64 ((8 : Int) * (i : Int)))) (IntKind.bits .u32)) = ((256 ^ i : Nat) : Int) := by
  have e : IntKind.wrap .i64 ((8 : Int) * (i : Int)) = ((8 * i : Nat) : Int) := by rw [wi64 (by omega) (by omega)]; omega
  rw [e, Int.toNat_natCast, Nat.min_eq_left (by show 8 * i ≤ 32; omega), show (256 : Nat) = 2 ^ 8 from rfl, ← Nat.pow_mul]
  simp
theorem accum32 (c y i : Nat) (hi : i ≤ 3) (hc : c < 256 ^ i) (hy : y < 256) :
    IntKind.wrap .u32 ((BitVec.ofInt (IntKind.bits .u32) (c : Int) ||| BitVec.ofInt (IntKind.bits .u32) (IntKind.wrap .u32 ((IntKind.wrap .u32 (y : Int)) * 2 ^ (min (Int.toNat (IntKind.wrap .i64 ((8 : Int) * (i : Int)))) (IntKind.bits .u32))))).toNat : Int) = ((c + y * 256 ^ i : Nat) : Int) := by
  have hle : 256 ^ i ≤ 16777216 := by
    have := Nat.pow_le_pow_right (n := 256) (by decide) hi
    have e : (256 : Nat) ^ 3 = 16777216 := by decide
    omega
  have hmul : y * 256 ^ i ≤ 255 * 256 ^ i := Nat.mul_le_mul_right _ (by omega)
  rw [pow8 i hi, wu32 (x := (y : Int)) (by omega) (by omega), ← Int.natCast_mul, wu32 (x := ((y * 256 ^ i : Nat) : Int)) (by omega) (by omega)]
  have e1 : (BitVec.ofInt (IntKind.bits .u32) (c : Int) ||| BitVec.ofInt (IntKind.bits .u32) ((y * 256 ^ i : Nat) : Int)).toNat = c + y * 256 ^ i := by
    rw [or32, BitVec.toNat_or, BitVec.toNat_ofNat, BitVec.toNat_ofNat, Nat.mod_eq_of_lt (by omega), Nat.mod_eq_of_lt (by omega)]
    have e : (256 : Nat) ^ i = 2 ^ (8 * i) := by rw [show (256 : Nat) = 2 ^ 8 from rfl, ← Nat.pow_mul]
    rw [e] at hc ⊢
    have := Nat.two_pow_add_eq_or_of_lt hc y
    rw [Nat.or_comm, Nat.mul_comm y, ← this, Nat.add_comm]
  rw [e1, wu32 (by omega) (by omega)]
/-- Bytes as a number, the lowest first. -/
def leS : List Int → Nat
  | [] => 0
  | x :: r => x.toNat + 256 * leS r
theorem leS_lt : ∀ {l : List Int}, (∀ x ∈ l, 0 ≤ x ∧ x ≤ 255) → leS l < 256 ^ l.length
  | [], _ => by simp [leS]
  | x :: r, h => by
    have h1 := leS_lt (l := r) fun y hy => h y (by simp [hy])
    have h2 := h x (by simp)
    simp only [leS, List.length_cons, Nat.pow_succ]
    omega
theorem leS_snoc : ∀ (l : List Int) (x : Int), leS (l ++ [x]) = leS l + x.toNat * 256 ^ l.length
  | [], x => by simp [leS]
  | y :: l, x => by
    simp only [List.cons_append, leS, leS_snoc l x, List.length_cons, Nat.pow_succ]
    rw [Nat.mul_add, Nat.mul_comm (256 ^ l.length) 256, Nat.mul_left_comm]
    omega
theorem p50_is {l : List Int} (hb : ∀ x ∈ l, 0 ≤ x ∧ x ≤ 255) (hl : l.length ≤ 4) (hfu : 10 < fu) : p50 fu (l, ()) = some ((), (leS l : Int)) := by
  unfold p50
  dsimp only
  refine loopO_eq (fun (s : (Int × (Int × Unit)) × Unit) => ∃ k : Nat, k ≤ l.length ∧ s = (((leS (l.take k) : Int), (k : Int), ()), ())) (fun s => l.length - s.1.2.1.toNat) (fun _ => ((), (leS l : Int))) ?_ fu _ ⟨0, Nat.zero_le _, rfl⟩ (by dsimp only; omega)
  rintro _ ⟨k, hk, rfl⟩
  by_cases hlt : k < l.length
  · left
    have e1 : decide ((k : Int) < (l.length : Int)) = true := by simpa using hlt
    have e2 : decide ((0 : Int) ≤ (k : Int) ∧ (k : Int) < (l.length : Int)) = true := by simp; omega
    have e3 : decide (k < l.length) = true := by simpa using hlt
    have e7 : decide ((0 : Int) ≤ IntKind.wrap .i64 ((8 : Int) * (k : Int))) = true := by rw [wi64 (by omega) (by omega)]; simp; omega
    have hw : IntKind.wrap .i64 ((k : Int) + 1) = ((k + 1 : Nat) : Int) := by rw [wi64 (by omega) (by omega)]; omega
    have hg : l.getD k (dflt (.int .u8)) = l[k] := by
      rw [List.getD_eq_getElem?_getD, List.getElem?_eq_getElem hlt]
      rfl
    have hx := hb _ (List.getElem_mem hlt)
    have htl : (l.take k).length = k := by rw [List.length_take]; omega
    have hc := leS_lt (l := l.take k) fun x hx => hb x (List.mem_of_mem_take hx)
    rw [htl] at hc
    have hsn : leS (l.take (k + 1)) = leS (l.take k) + l[k].toNat * 256 ^ k := by
      rw [List.take_succ_eq_append_getElem hlt, leS_snoc, htl]
    have hacc := accum32 (leS (l.take k)) l[k].toNat k (by omega) hc (by omega)
    rw [Int.toNat_of_nonneg hx.1] at hacc
    refine ⟨_, ?_, ⟨k + 1, hlt, rfl⟩, ?_, rfl⟩
    · simp only [e1, e2, e3, e7, Int.toNat_natCast, cond_true, hg, hacc, hw, hsn]
    · dsimp only
      omega
  · right
    have hkl : k = l.length := by omega
    subst hkl
    have e1 : decide ((l.length : Int) < (l.length : Int)) = false := by simp
    simp only [e1, cond_false, List.take_length, inrO, Option.map_some]
/-- The four bytes of a sum. -/
def sum4 (s : Int) : List Int := [IntKind.wrap .u8 s, IntKind.wrap .u8 (Int.fdiv s (2 ^ (min (Int.toNat (8 : Int)) (IntKind.bits .u32)))), IntKind.wrap .u8 (Int.fdiv s (2 ^ (min (Int.toNat (16 : Int)) (IntKind.bits .u32)))), IntKind.wrap .u8 (Int.fdiv s (2 ^ (min (Int.toNat (24 : Int)) (IntKind.bits .u32))))]
def sumI (l : List Int) : Int := ((4294967295#32 ^^^ sumB l).toNat : Int)
def frameB (l : List Int) : List Int := tB l ++ sum4 (sumI l)
theorem f41_ok {a : List Int} {c : Int} : p41_1 fu ((a, c, (), ()), 0, ()) = some (((a, c, noR, ()), ()), ()) := by
  unfold p41_1 p43_3
  simp only [bne_self_eq_false, cond_false, Option.bind_some]
theorem f41_er {a : List Int} {c e : Int} (he : e ≠ 0) : p41_1 fu ((a, c, (), ()), e, ()) = some (((a, c, erR e c, ()), ()), ()) := by
  have g : (e != 0) = true := bne_iff_ne.2 he
  unfold p41_1 p43_3
  simp only [g, cond_true, Option.bind_some]
theorem f41_2_ok {a : List Int} {c e : Int} (he : e ≠ 0) : p41_3 fu ((a, c, noR, ()), e, ()) = some (((a, c, erR e c, ()), ()), ()) := by
  have g : (e != 0) = true := bne_iff_ne.2 he
  unfold p41_3 p43_5
  simp only [g, cond_true, cond_false, Option.bind_some]
theorem f15_ok {a : List Int} {v k : Nat} (hb : ∀ x ∈ a, 0 ≤ x ∧ x ≤ 255) (hn : a.length ≤ 140737488355328) (h : numS 0 0 a = ((v : Int), (k : Int), 0)) (hk : k ≤ a.length) (hfu : 10 < fu) : p15_3 fu ((a, 0, (), ()), ()) = some (((a, (k : Int), noR, ()), ()), (v : Int)) := by
  have e1 : decide ((0 : Int) ≤ 0) = true := by decide
  have e2 : decide (Int.toNat 0 ≤ a.length) = true := by simp
  have hw : IntKind.wrap .i64 (0 + (k : Int)) = (k : Int) := by rw [wi64 (by omega) (by omega)]; omega
  unfold p15_3
  simp only [e1, e2, cond_true]
  rw [show slice' a (Int.toNat 0) none = a from rfl, p40_any hb hn hfu]
  simp only [Option.bind_some, h]
  rw [f41_ok]
  simp only [Option.bind_some, cond_false, hw]
theorem f15_er {a : List Int} {e : Int} (hb : ∀ x ∈ a, 0 ≤ x ∧ x ≤ 255) (hn : a.length ≤ 140737488355328) (h : numS 0 0 a = (0, 0, e)) (he : e ≠ 0) (hfu : 10 < fu) : p15_3 fu ((a, 0, (), ()), ()) = some (((a, 0, erR e 0, ()), ()), 0) := by
  have e1 : decide ((0 : Int) ≤ 0) = true := by decide
  have e2 : decide (Int.toNat 0 ≤ a.length) = true := by simp
  have hw : IntKind.wrap .i64 (0 + 0) = 0 := by decide
  unfold p15_3
  simp only [e1, e2, cond_true]
  rw [show slice' a (Int.toNat 0) none = a from rfl, p40_any hb hn hfu]
  simp only [Option.bind_some, h]
  rw [f41_er he]
  simp only [Option.bind_some, cond_true, hw]
theorem f45_er {a : List Int} {c e q j : Int} : p45_5 fu ((a, c, erR e q, ()), j, ()) = some (((a, c, erR e q, ()), ()), []) := by
  unfold p45_5
  simp only [cond_true]
theorem f45_short {a : List Int} {c j : Nat} (hc : c ≤ a.length) (hn : a.length ≤ 140737488355328) (h : a.length < c + j) : p45_5 fu ((a, (c : Int), noR, ()), (j : Int), ()) = some (((a, (c : Int), erR 11 (c : Int), ()), ()), []) := by
  have e1 : decide ((j : Int) > IntKind.wrap .i64 ((a.length : Int) - (c : Int))) = true := by rw [wi64 (by omega) (by omega)]; simp; omega
  unfold p45_5
  simp only [cond_false, e1, cond_true]
  rw [f41_er (by decide)]
  simp only [Option.bind_some, cond_true]
theorem f45_ok {a : List Int} {c j : Nat} (hn : a.length ≤ 140737488355328) (h : c + j ≤ a.length) : p45_5 fu ((a, (c : Int), noR, ()), (j : Int), ()) = some (((a, ((c + j : Nat) : Int), noR, ()), ()), (a.drop c).take j) := by
  have e1 : decide ((j : Int) > IntKind.wrap .i64 ((a.length : Int) - (c : Int))) = false := by rw [wi64 (by omega) (by omega)]; simp; omega
  have w1 : IntKind.wrap .i64 ((c : Int) + (j : Int)) = ((c + j : Nat) : Int) := by rw [wi64 (by omega) (by omega)]; omega
  have w2 : IntKind.wrap .i64 (((c + j : Nat) : Int) - (j : Int)) = (c : Int) := by rw [wi64 (by omega) (by omega)]; omega
  have e2 : decide ((0 : Int) ≤ (c : Int)) = true := by simp
  have e3 : decide ((0 : Int) ≤ ((c + j : Nat) : Int)) = true := by simp; omega
  have e4 : decide (c ≤ c + j ∧ c + j ≤ a.length) = true := by simp; omega
  have es : slice' a c (some (c + j)) = (a.drop c).take j := by rw [sl_eq, Nat.add_sub_cancel_left]
  have hl : ((a.drop c).take j).length ≤ 140737488355328 := by rw [List.length_take, List.length_drop]; omega
  have e5 : (((a.drop c).take j).length ≤ maxLen ∧ ((a.drop c).take j).length * 1 ≤ 140737488355328) = True := eq_true ⟨Nat.le_trans hl (by decide), by omega⟩
  unfold p45_5
  simp only [cond_false, e1, w1, w2, e2, e3, Int.toNat_natCast, e4, es, e5, decide_true, eqL_t, cond_true]
theorem f16_ok {a : List Int} {c : Int} : p16_5 fu ((a, c, noR, ()), ()) = some (((a, c, noR, ()), ()), (0, 0, ())) := by
  unfold p16_5 pAs
  simp only [cond_false, cond_true, Option.bind_some, Bool.not_true]
theorem f16_er {a : List Int} {c e q : Int} : p16_5 fu ((a, c, erR e q, ()), ()) = some (((a, c, erR e q, ()), ()), (e, q, ())) := by
  unfold p16_5 pAs
  simp only [cond_true, cond_false, Option.bind_some, Bool.not_false]
/-- What stands in a frame, and behind it. -/
def unS (a : List Int) : List Int × List Int × Int :=
  if (numS 0 0 a).2.2 ≠ 0 then ([], [], (numS 0 0 a).2.2)
  else if (numS 0 0 a).1 > 262144 then ([], [], 13)
  else if (a.drop (numS 0 0 a).2.1.toNat).length < (numS 0 0 a).1.toNat + 4 then ([], [], 11)
  else if (leS (((a.drop (numS 0 0 a).2.1.toNat).drop (numS 0 0 a).1.toNat).take 4) : Int) ≠ sumI ((a.drop (numS 0 0 a).2.1.toNat).take (numS 0 0 a).1.toNat) then ([], [], 14)
  else ((a.drop (numS 0 0 a).2.1.toNat).take (numS 0 0 a).1.toNat, (a.drop (numS 0 0 a).2.1.toNat).drop ((numS 0 0 a).1.toNat + 4), 0)
theorem sl_none (l : List Int) (n : Nat) : slice' l n none = l.drop n := by
  cases n <;> simp [slice']
theorem p21_is {a : List Int} (hb : ∀ x ∈ a, 0 ≤ x ∧ x ≤ 255) (hn : a.length ≤ 140737488355328) (hfu : 10 < fu) (hf2 : a.length < fu) : p21 fu (a, ()) = some ((), ((unS a).1, (unS a).2.1, (unS a).2.2, ())) := by
  unfold p21
  dsimp only
  rcases numS_facts a 0 0 with ⟨v, k, hnum, hk0, hk⟩ | ⟨e, he, hnum⟩
  · rw [f15_ok hb hn hnum (by omega) hfu]
    simp only [Option.bind_some, cond_false]
    have u1 : ¬ ((numS 0 0 a).2.2 ≠ 0) := by rw [hnum]; simp
    by_cases hv : (v : Int) > 262144
    · have g : decide ((v : Int) > 262144) = true := decide_eq_true hv
      have hu : unS a = ([], [], 13) := by
        unfold unS
        rw [if_neg u1, if_pos (by rw [hnum]; exact hv)]
      rw [hu]
      simp only [g, cond_true]
      rw [f41_2_ok (by decide)]
      simp only [Option.bind_some, cond_true, orK_inl]
      rw [f45_er]
      simp only [Option.bind_some, cond_true, eqL_t, orK_inl]
      rw [f45_er]
      simp only [Option.bind_some, cond_true, orK_inl]
      rw [f16_er]
      rfl
    · have g : decide ((v : Int) > 262144) = false := decide_eq_false hv
      have hwv : IntKind.wrap .i64 (v : Int) = (v : Int) := wi64 (by omega) (by omega)
      have u2 : ¬ ((numS 0 0 a).1 > 262144) := by rw [hnum]; exact hv
      simp only [g, cond_false, orK_inl, hwv]
      by_cases h1 : a.length < k + v
      · have hu : unS a = ([], [], 11) := by
          unfold unS
          rw [if_neg u1, if_neg u2, if_pos (by rw [hnum]; simp only [Int.toNat_natCast, List.length_drop]; omega)]
        rw [hu, f45_short (by omega) hn h1]
        simp only [Option.bind_some, cond_true, eqL_t, orK_inl]
        rw [f45_er]
        simp only [Option.bind_some, cond_true, orK_inl]
        rw [f16_er]
        rfl
      · rw [f45_ok hn (by omega)]
        simp only [Option.bind_some, cond_false, eqL_t, cond_true, orK_inl]
        rw [show (4 : Int) = ((4 : Nat) : Int) from rfl]
        by_cases h2 : a.length < k + v + 4
        · have hu : unS a = ([], [], 11) := by
            unfold unS
            rw [if_neg u1, if_neg u2, if_pos (by rw [hnum]; simp only [Int.toNat_natCast, List.length_drop]; omega)]
          rw [hu, f45_short (by omega) hn h2]
          simp only [Option.bind_some, cond_true, orK_inl]
          rw [f16_er]
          rfl
        · have u3 : ¬ ((a.drop (numS 0 0 a).2.1.toNat).length < (numS 0 0 a).1.toNat + 4) := by rw [hnum]; simp only [Int.toNat_natCast, List.length_drop]; omega
          rw [f45_ok hn (by omega)]
          simp only [Option.bind_some, cond_false]
          have hbs : ∀ x ∈ (a.drop (k + v)).take 4, 0 ≤ x ∧ x ≤ 255 := fun x hx => hb x (List.mem_of_mem_drop (List.mem_of_mem_take hx))
          have hbi : ∀ x ∈ (a.drop k).take v, 0 ≤ x ∧ x ≤ 255 := fun x hx => hb x (List.mem_of_mem_drop (List.mem_of_mem_take hx))
          rw [p50_is hbs (by rw [List.length_take]; omega) hfu]
          simp only [Option.bind_some]
          rw [p24_is hbi (by rw [List.length_take, List.length_drop]; omega) (by rw [List.length_take, List.length_drop]; omega)]
          simp only [Option.bind_some]
          rw [show ((4294967295#32 ^^^ sumB ((a.drop k).take v)).toNat : Int) = sumI ((a.drop k).take v) from rfl]
          by_cases h3 : (leS ((a.drop (k + v)).take 4) : Int) = sumI ((a.drop k).take v)
          · have g3 : ((leS ((a.drop (k + v)).take 4) : Int) != sumI ((a.drop k).take v)) = false := by simp [h3]
            have hu : unS a = ((a.drop k).take v, a.drop (k + v + 4), 0) := by
              unfold unS
              rw [if_neg u1, if_neg u2, if_neg u3]
              simp only [hnum, Int.toNat_natCast, List.drop_drop]
              rw [if_neg (by simpa using h3)]
              rfl
            have f1 : decide ((0 : Int) ≤ ((k + v + 4 : Nat) : Int)) = true := by simp; omega
            have f2 : decide (k + v + 4 ≤ a.length) = true := by simp; omega
            have f3 : ((a.drop (k + v + 4)).length ≤ maxLen ∧ (a.drop (k + v + 4)).length * 1 ≤ 140737488355328) = True := by
              have : (a.drop (k + v + 4)).length ≤ 140737488355328 := by rw [List.length_drop]; omega
              exact eq_true ⟨Nat.le_trans this (by decide), by omega⟩
            rw [hu]
            simp only [g3, cond_false, orK_inl]
            rw [f16_ok]
            simp only [Option.bind_some, cond_false, bne_self_eq_false, f1, Int.toNat_natCast, f2, sl_none, f3, decide_true, cond_true]
          · have g3 : ((leS ((a.drop (k + v)).take 4) : Int) != sumI ((a.drop k).take v)) = true := bne_iff_ne.2 h3
            have hu : unS a = ([], [], 14) := by
              unfold unS
              rw [if_neg u1, if_neg u2, if_neg u3]
              simp only [hnum, Int.toNat_natCast, List.drop_drop]
              rw [if_pos (by simpa using h3)]
            rw [hu]
            simp only [g3, cond_true]
            rw [f41_er (by decide)]
            simp only [Option.bind_some, cond_true, orK_inl]
            rw [f16_er]
            rfl
  · rw [f15_er hb hn hnum he hfu]
    have g : decide ((0 : Int) > 262144) = false := by decide
    have hu : unS a = ([], [], e) := by
      unfold unS
      rw [if_pos (by rw [hnum]; exact he), hnum]
    rw [hu]
    simp only [Option.bind_some, cond_true, g, cond_false, orK_inl]
    rw [f45_er]
    simp only [Option.bind_some, cond_true, eqL_t, orK_inl]
    rw [f45_er]
    simp only [Option.bind_some, cond_true, orK_inl]
    rw [f16_er]
    have ge : (e != 0) = true := bne_iff_ne.2 he
    simp only [Option.bind_some, cond_true, ge]
theorem le4R {b0 b1 b2 b3 : Int} (h0 : 0 ≤ b0 ∧ b0 ≤ 255) (h1 : 0 ≤ b1 ∧ b1 ≤ 255) (h2 : 0 ≤ b2 ∧ b2 ≤ 255) (h3 : 0 ≤ b3 ∧ b3 ≤ 255) :
    IntKind.wrap .u32 ((IntKind.wrap .u32 ((IntKind.wrap .u32 ((IntKind.wrap .u32 b0) + (IntKind.wrap .u32 ((IntKind.wrap .u32 b1) * 2 ^ (min (Int.toNat (8 : Int)) (IntKind.bits .u32)))))) + (IntKind.wrap .u32 ((IntKind.wrap .u32 b2) * 2 ^ (min (Int.toNat (16 : Int)) (IntKind.bits .u32)))))) + (IntKind.wrap .u32 ((IntKind.wrap .u32 b3) * 2 ^ (min (Int.toNat (24 : Int)) (IntKind.bits .u32))))) = (leS [b0, b1, b2, b3] : Int) := by
  have e8 : (2 : Int) ^ (min (Int.toNat (8 : Int)) (IntKind.bits .u32)) = 256 := rfl
  have e16 : (2 : Int) ^ (min (Int.toNat (16 : Int)) (IntKind.bits .u32)) = 65536 := rfl
  have e24 : (2 : Int) ^ (min (Int.toNat (24 : Int)) (IntKind.bits .u32)) = 16777216 := rfl
  rw [e8, e16, e24, wu32 (x := b0) (by omega) (by omega), wu32 (x := b1) (by omega) (by omega), wu32 (x := b2) (by omega) (by omega), wu32 (x := b3) (by omega) (by omega), wu32 (x := b1 * 256) (by omega) (by omega), wu32 (x := b2 * 65536) (by omega) (by omega), wu32 (x := b3 * 16777216) (by omega) (by omega), wu32 (x := b0 + b1 * 256) (by omega) (by omega), wu32 (x := b0 + b1 * 256 + b2 * 65536) (by omega) (by omega), wu32 (by omega) (by omega)]
  simp only [leS]
  omega
theorem drop_cons {l : List Int} {i : Nat} (h : i < l.length) : l.drop i = l.getD i 0 :: l.drop (i + 1) := by
  have e : l.getD i 0 = l[i] := by simp [h]
  rw [e]
  exact List.drop_eq_getElem_cons h
theorem take4 {l : List Int} {i : Nat} (h : i + 4 ≤ l.length) : (l.drop i).take 4 = [l.getD i 0, l.getD (i + 1) 0, l.getD (i + 2) 0, l.getD (i + 3) 0] := by
  rw [drop_cons (i := i) (by omega), drop_cons (i := i + 1) (by omega), drop_cons (i := i + 1 + 1) (by omega), drop_cons (i := i + 1 + 1 + 1) (by omega)]
  rfl
theorem getB {l : List Int} {i : Nat} (hb : ∀ x ∈ l, 0 ≤ x ∧ x ≤ 255) (h : i < l.length) : 0 ≤ l.getD i 0 ∧ l.getD i 0 ≤ 255 := by
  have e : l.getD i 0 = l[i] := by simp [h]
  rw [e]
  exact hb _ (List.getElem_mem h)
theorem p12_is {l : List Int} (hb : ∀ x ∈ l, 0 ≤ x ∧ x ≤ 255) (hn : l.length ≤ 1048576) (hfu : 10 < fu) (hf2 : l.length < fu) : p12 fu (l, ()) = some ((), frameB l) := by
  have hu : isU (l.length : Int) := ⟨by omega, by omega⟩
  have h10 := uB_len hu
  have hw : IntKind.wrap .u64 (l.length : Int) = (l.length : Int) := wu64 (by omega) (by omega)
  have ht : (tB l).length ≤ 1048586 := by unfold tB; rw [List.length_append]; omega
  have h36 : p36_1 fu (((), ()), l, ()) = some (((tB l, ()), ()), ()) := by
    unfold p36_1
    dsimp only
    rw [hw, p34uF_is hu hfu]
    have h2 : (uB (l.length : Int)).length + l.length ≤ 140737488355328 := by omega
    simp only [Option.bind_some, decide_true, eqL_t, cond_true, fitF h2, tB]
  unfold p12
  dsimp only
  rw [h36]
  simp only [Option.bind_some]
  rw [p24_is hb (by omega) hf2]
  simp only [Option.bind_some, eqL_t, cond_true]
  have h27 : p27 fu ((tB l, ()), ()) = some ((), tB l) := by
    unfold p27
    simp only [fitF (n := (tB l).length) (by omega), decide_true, eqL_t, cond_true]
  rw [h27]
  have h3 : (tB l).length + 4 ≤ 140737488355328 := by omega
  simp only [Option.bind_some, decide_true, cond_true, List.length_cons, List.length_nil, Nat.zero_add, fitF h3]
  rfl
theorem p11F_is (hfu : 30 < fu) : p11 fu () = some ((), true) := by
  obtain ⟨m, rfl⟩ : ∃ m, fu = m + 30 := ⟨fu - 30, by omega⟩
  kernel_rfl
theorem bit1_zero {x : BitVec 32} (h : bit1 x = 0#32) : x = 0#32 := by
  have hlt := x.isLt
  unfold bit1 at h
  split at h
  · have e : x >>> 1 = 2197175160#32 := by
      have h2 := congrArg (· ^^^ 2197175160#32) h
      simpa [BitVec.xor_assoc] using h2
    have e2 := congrArg BitVec.toNat e
    rw [BitVec.toNat_ushiftRight, Nat.shiftRight_eq_div_pow] at e2
    have e3 : (2197175160#32).toNat = 2197175160 := rfl
    omega
  · have e2 := congrArg BitVec.toNat h
    rw [BitVec.toNat_ushiftRight, Nat.shiftRight_eq_div_pow] at e2
    have e3 : (0#32).toNat = 0 := rfl
    apply BitVec.eq_of_toNat_eq
    omega
theorem bit1_inj {a b : BitVec 32} (h : bit1 a = bit1 b) : a = b := by
  have h1 : bit1 (a ^^^ b) = 0#32 := by rw [bit1_xor, h, BitVec.xor_self]
  have h2 := bit1_zero h1
  have h3 := congrArg (· ^^^ b) h2
  simpa [BitVec.xor_assoc] using h3
theorem bit4_inj {a b : BitVec 32} (h : bit4 a = bit4 b) : a = b := bit1_inj (bit1_inj (bit1_inj (bit1_inj h)))
theorem byte8_inj {a b : BitVec 32} {n : Int} (h : byte8 a n = byte8 b n) : a = b := by
  have h1 := bit4_inj (bit4_inj h)
  have h3 := congrArg (· ^^^ BitVec.ofNat 32 n.toNat) h1
  simpa [BitVec.xor_assoc] using h3
theorem byte8_byte {a : BitVec 32} {n m : Int} (hn : 0 ≤ n ∧ n ≤ 255) (hm : 0 ≤ m ∧ m ≤ 255) (h : byte8 a n = byte8 a m) : n = m := by
  have h1 := bit4_inj (bit4_inj h)
  have h3 := congrArg (a ^^^ ·) h1
  simp only [← BitVec.xor_assoc, BitVec.xor_self, BitVec.zero_xor] at h3
  have h4 := congrArg BitVec.toNat h3
  rw [BitVec.toNat_ofNat, BitVec.toNat_ofNat] at h4
  omega
theorem fold_inj : ∀ {l : List Int} {a b : BitVec 32}, l.foldl byte8 a = l.foldl byte8 b → a = b
  | [], _, _, h => h
  | _ :: l, _, _, h => byte8_inj (fold_inj (l := l) h)
/-- One byte is another one: so is the sum. -/
theorem sumB_change {p q : List Int} {x y : Int} (hx : 0 ≤ x ∧ x ≤ 255) (hy : 0 ≤ y ∧ y ≤ 255) (h : sumB (p ++ x :: q) = sumB (p ++ y :: q)) : x = y := by
  unfold sumB at h
  rw [List.foldl_append, List.foldl_append, List.foldl_cons, List.foldl_cons] at h
  exact byte8_byte hx hy (fold_inj h)
theorem sumI_inj {a b : List Int} (h : sumI a = sumI b) : sumB a = sumB b := by
  unfold sumI at h
  have h1 : (4294967295#32 ^^^ sumB a) = (4294967295#32 ^^^ sumB b) := BitVec.eq_of_toNat_eq (by omega)
  have h3 := congrArg (4294967295#32 ^^^ ·) h1
  simpa only [← BitVec.xor_assoc, BitVec.xor_self, BitVec.zero_xor] using h3
theorem leS_inj : ∀ {a b : List Int}, (∀ x ∈ a, 0 ≤ x ∧ x ≤ 255) → (∀ x ∈ b, 0 ≤ x ∧ x ≤ 255) → a.length = b.length → leS a = leS b → a = b
  | [], [], _, _, _, _ => rfl
  | [], _ :: _, _, _, h, _ => by simp at h
  | _ :: _, [], _, _, h, _ => by simp at h
  | x :: a, y :: b, ha, hb, hl, h => by
    simp only [leS] at h
    have h1 := ha x (by simp)
    have h2 := hb y (by simp)
    have e : x = y := by omega
    have hr : a = b := leS_inj (fun z hz => ha z (by simp [hz])) (fun z hz => hb z (by simp [hz])) (by simpa using hl) (by omega)
    rw [e, hr]
theorem leS_sum4 {s : Nat} (h : s < 4294967296) : (leS (sum4 (s : Int)) : Int) = (s : Int) ∧ (∀ x ∈ sum4 (s : Int), 0 ≤ x ∧ x ≤ 255) ∧ (sum4 (s : Int)).length = 4 := by
  have e8 : (2 : Int) ^ (min (Int.toNat (8 : Int)) (IntKind.bits .u32)) = 256 := rfl
  have e16 : (2 : Int) ^ (min (Int.toNat (16 : Int)) (IntKind.bits .u32)) = 65536 := rfl
  have e24 : (2 : Int) ^ (min (Int.toNat (24 : Int)) (IntKind.bits .u32)) = 16777216 := rfl
  have w : ∀ n : Int, IntKind.wrap .u8 n = n % 256 := fun n => rfl
  have hs : sum4 (s : Int) = [(s : Int) % 256, (s : Int) / 256 % 256, (s : Int) / 65536 % 256, (s : Int) / 16777216 % 256] := by
    unfold sum4
    rw [e8, e16, e24, Int.fdiv_eq_ediv_of_nonneg _ (by decide), Int.fdiv_eq_ediv_of_nonneg _ (by decide), Int.fdiv_eq_ediv_of_nonneg _ (by decide), w, w, w, w]
  rw [hs]
  refine ⟨?_, fun x hx => ?_, rfl⟩
  · simp only [leS]
    omega
  · simp only [List.mem_cons, List.not_mem_nil, or_false] at hx
    rcases hx with rfl | rfl | rfl | rfl <;> omega
end
section
variable {fu : Nat}
theorem sumI_lt (l : List Int) : ∃ s : Nat, s < 4294967296 ∧ sumI l = (s : Int) := ⟨_, BitVec.isLt _, rfl⟩
theorem numS_len {l r : List Int} (h : l.length ≤ 1048576) : numS 0 0 (uB (l.length : Int) ++ r) = ((l.length : Int), (((uB (l.length : Int)).length : Nat) : Int), 0) := by
  have e := numS_ub (l.length + 1) l.length 0 0 r (Nat.lt_succ_self _) (fun h => absurd h (Nat.lt_irrefl 0)) (by omega) (by decide) (by simp only [Nat.pow_zero, Nat.mul_one, Nat.zero_add]; omega)
  simp only [Nat.pow_zero, Nat.mul_one, Nat.zero_add] at e
  exact e
/-- A frame is taken apart as it was put together. -/
theorem unS_frame {b r : List Int} (_ : byt b) (h : b.length ≤ 262144) : unS (frameB b ++ r) = (b, r, 0) := by
  obtain ⟨s, hs, es⟩ := sumI_lt b
  obtain ⟨g1, g2, g3⟩ := leS_sum4 hs
  have ef : frameB b ++ r = uB (b.length : Int) ++ (b ++ (sum4 (s : Int) ++ r)) := by
    unfold frameB tB
    rw [es]
    simp only [List.append_assoc]
  have hn := numS_len (r := b ++ (sum4 (s : Int) ++ r)) (l := b) (by omega)
  rw [ef]
  unfold unS
  rw [hn]
  simp only [Int.toNat_natCast]
  rw [if_neg (by simp), if_neg (by omega), List.drop_left, if_neg (by simp only [List.length_append, g3]; omega)]
  rw [List.drop_left, List.take_left, show 4 = (sum4 (s : Int)).length from g3.symm, List.take_left, g1, es, if_neg (by simp), ← List.drop_drop, List.drop_left, List.drop_left]
/-- Bytes that are taken for a frame are just those that are written of what is in it. -/
theorem unS_canon {a p r : List Int} (hb : byt a) (hu : unS a = (p, r, 0)) : a = frameB p ++ r ∧ p.length ≤ 262144 ∧ byt p := by
  unfold unS at hu
  split at hu
  · rename_i h
    simp only [Prod.mk.injEq] at hu
    exact absurd hu.2.2 h
  rename_i h0
  split at hu
  · simp at hu
  rename_i h1
  split at hu
  · simp at hu
  rename_i h2
  split at hu
  · simp at hu
  rename_i h3
  have h0' : (numS 0 0 a).2.2 = 0 := by simpa using h0
  obtain ⟨w, m, e1, e2, e3, _⟩ := numS_canon a 0 0 (numS 0 0 a).1 (numS 0 0 a).2.1 hb (by rw [← h0'])
  simp only [Nat.pow_zero, Nat.mul_one, Nat.zero_add] at e1 e2
  rw [e1, e2] at hu h2 h3
  rw [e1] at h1
  simp only [Int.toNat_natCast] at hu h2 h3
  simp only [Prod.mk.injEq, and_true] at hu
  obtain ⟨hp, hr⟩ := hu
  have hl : p.length = w := by rw [← hp, List.length_take]; omega
  have hbp : byt p := fun x hx => by rw [← hp] at hx; exact hb x (List.mem_of_mem_drop (List.mem_of_mem_take hx))
  obtain ⟨s, hs, es⟩ := sumI_lt p
  obtain ⟨g1, g2, g3⟩ := leS_sum4 hs
  rw [hp, es] at h3
  have h3' : leS (((a.drop m).drop w).take 4) = leS (sum4 (s : Int)) := by
    have : (leS (((a.drop m).drop w).take 4) : Int) = (s : Int) := by simpa using h3
    rw [← g1] at this
    exact Int.ofNat.inj this
  have h4 : ((a.drop m).drop w).take 4 = sum4 (s : Int) := leS_inj (fun x hx => hb x (List.mem_of_mem_drop (List.mem_of_mem_drop (List.mem_of_mem_take hx)))) g2 (by rw [g3, List.length_take, List.length_drop]; omega) h3'
  refine ⟨?_, by omega, hbp⟩
  unfold frameB tB
  rw [es, hl, show uB ((w : Nat) : Int) = ub w from rfl, ← e3, ← hp, ← h4, ← hr, List.append_assoc, List.append_assoc, ← List.drop_drop (i := 4) (j := w), List.take_append_drop, List.take_append_drop, List.take_append_drop]
theorem byt_frame {b : List Int} (hb : byt b) : byt (frameB b) := by
  obtain ⟨s, hs, es⟩ := sumI_lt b
  obtain ⟨g1, g2, g3⟩ := leS_sum4 hs
  unfold frameB
  rw [es]
  exact byt_app (byt_tB hb) g2
theorem frame_len {b : List Int} (h : b.length ≤ 1048576) : (frameB b).length ≤ 1048590 := by
  obtain ⟨s, hs, es⟩ := sumI_lt b
  obtain ⟨g1, g2, g3⟩ := leS_sum4 hs
  have := tB_len (l := b) (by omega)
  unfold frameB
  rw [List.length_append, es, g3]
  omega
theorem byt_itB {x : IT} (h1 : byt x.2.2.2.2.2.1) (h2 : byt x.2.2.2.2.2.2.2.2.2.2.2.2.2.2.2.2.1) : byt (itB x) := by
  have hh : byt (hdB x.1 x.2.1) := byt_app (byt_uB _) (byt_uB _)
  unfold itB
  split
  · exact byt_app hh (byt_app (byt_uB _) (byt_app (byt_uB _) (byt_app (byt_uB _) (byt_app (byt_tB h1) (byt_cB _ _)))))
  split
  · exact byt_app hh (byt_app (byt_uB _) (byt_app (byt_uB _) (byt_uB _)))
  split
  · exact byt_app hh (byt_uB _)
  split
  · exact byt_app hh (byt_app (byt_uB _) (byt_app (byt_uB _) (byt_app (byt_cB _ _) (byt_tB h2))))
  split
  · exact hh
  · exact byt_nil
theorem itB_len {x : IT} (h : itOk fu x) : (itB x).length ≤ 44040500 := by
  have l0 := hdB_len h.k h.g
  have l1 := eB_len (fu := fu) h.i h.t h.ek h.d h.c
  have l2 := sB_len (fu := fu) h.si h.st h.sd h.sc
  have l3 := uB_len h.ht
  have l4 : (iB x.2.2.2.2.2.2.2.2.2.1).length ≤ 10 := uB_len (zz_u h.hv)
  have l5 := uB_len h.hc
  have l6 := uB_len h.ix
  unfold itB
  split
  · rw [List.length_append]; omega
  split
  · simp only [List.length_append]; omega
  split
  · rw [List.length_append]; omega
  split
  · rw [List.length_append]; omega
  split
  · omega
  · simp
/-- Numbers as bytes of a text, and back. -/
theorem toList_str (a b : List Int) : (strOfNums a ++ strOfNums b) = strOfNums (a ++ b) := by
  unfold strOfNums
  first
    | rfl
    | (apply ByteArray.ext; simp)
theorem str_size (a : List Int) : (strOfNums a).size = a.length := by
  unfold strOfNums
  simp [ByteArray.size]
theorem p33_is (x : IT) : p33 fu ((x.1, x.2.1, x.2.2.1, x.2.2.2.1, x.2.2.2.2.1, x.2.2.2.2.2.1, x.2.2.2.2.2.2.1, x.2.2.2.2.2.2.2.1, x.2.2.2.2.2.2.2.2.1, x.2.2.2.2.2.2.2.2.2.1, x.2.2.2.2.2.2.2.2.2.2.1, x.2.2.2.2.2.2.2.2.2.2.2.1, x.2.2.2.2.2.2.2.2.2.2.2.2.1, x.2.2.2.2.2.2.2.2.2.2.2.2.2.1, x.2.2.2.2.2.2.2.2.2.2.2.2.2.2.1, x.2.2.2.2.2.2.2.2.2.2.2.2.2.2.2.1, x.2.2.2.2.2.2.2.2.2.2.2.2.2.2.2.2.1, ()), ()) = some ((), plainI x) := by
  obtain ⟨k, g, i, t, ek, d, v, l, ht, hv, hc, ix, si, st, sv, sl, sd, ⟨⟩⟩ := x
  unfold p33 plainI
  dsimp only
  by_cases k1 : k = 1
  · have g1 : (k == (1 : Int)) = true := beq_iff_eq.2 k1
    simp only [if_pos k1, g1, cond_true]
  have g1 : (k == (1 : Int)) = false := beq_eq_false_iff_ne.2 k1
  by_cases k2 : k = 2
  · have g2 : (k == (2 : Int)) = true := beq_iff_eq.2 k2
    simp only [if_neg k1, if_pos k2, g1, g2, cond_true, cond_false]
  have g2 : (k == (2 : Int)) = false := beq_eq_false_iff_ne.2 k2
  by_cases k3 : k = 3
  · have g3 : (k == (3 : Int)) = true := beq_iff_eq.2 k3
    simp only [if_neg k1, if_neg k2, if_pos k3, g1, g2, g3, cond_true, cond_false]
  have g3 : (k == (3 : Int)) = false := beq_eq_false_iff_ne.2 k3
  by_cases k4 : k = 4
  · have g4 : (k == (4 : Int)) = true := beq_iff_eq.2 k4
    simp only [if_neg k1, if_neg k2, if_neg k3, if_pos k4, g1, g2, g3, g4, cond_true, cond_false]
  have g4 : (k == (4 : Int)) = false := beq_eq_false_iff_ne.2 k4
  simp only [if_neg k1, if_neg k2, if_neg k3, if_neg k4, g1, g2, g3, g4, cond_false]
end
section
variable {fu : Nat}
/-- An item with short lists. -/
structure shortI (x : IT) : Prop where
  k1 : 1 ≤ x.1
  k5 : x.1 ≤ 5
  v : x.2.2.2.2.2.2.1.length ≤ 7
  l : x.2.2.2.2.2.2.2.1.length ≤ 7
  sv : x.2.2.2.2.2.2.2.2.2.2.2.2.2.2.1.length ≤ 7
  sl : x.2.2.2.2.2.2.2.2.2.2.2.2.2.2.2.1.length ≤ 7
theorem itemS_short {a : List Int} {c : Nat} {x : IT} (hA : okA fu a) (h : itemS a = .ok c x) : c ≤ a.length ∧ shortI x := by
  have hfu := hA.hfu
  have hk := p46P (fu := fu) (c := 0) hA (Nat.zero_le _)
  unfold itemS at h
  rcases hu0 : itkS a 0 with ⟨c0', k⟩ | ⟨e, q⟩
  rotate_left
  · rw [hu0] at h; cases h
  rw [hu0] at h hk
  obtain ⟨hc0, ⟨hk1, hk5⟩, _⟩ := hk
  have hkI : isI k := ⟨by omega, by omega⟩
  simp only [RR.bind] at h
  have hp := p15P (fu := fu) hA hc0
  rcases hu1 : uS a c0' with ⟨c1, g⟩ | ⟨e, q⟩
  rotate_left
  · rw [hu1] at h; cases h
  rw [hu1] at h hp
  obtain ⟨hc1, hg, _⟩ := hp
  simp only [] at h
  unfold bodS at h
  by_cases k1 : k = 1
  · rw [if_pos k1] at h
    have hp0 := p47P (fu := fu) hA hc1
    rcases hv0 : entS a c1 with ⟨d0, v0⟩ | ⟨e, q⟩
    · rw [hv0] at h hp0
      obtain ⟨g1, ⟨w1, w2, w3, w4, w5, w6⟩, _⟩ := hp0
      injection h with h1 h2
      subst h1 h2
      exact ⟨g1, ⟨hk1, hk5, w5.1, w6.1, l7, l7⟩⟩
    · rw [hv0] at h; cases h
  rw [if_neg k1] at h
  by_cases k2 : k = 2
  · rw [if_pos k2] at h
    have hp0 := p15P (fu := fu) hA hc1
    rcases hv0 : uS a c1 with ⟨d0, v0⟩ | ⟨e, q⟩
    rotate_left
    · rw [hv0] at h; cases h
    rw [hv0] at h hp0
    obtain ⟨g1, w1, _⟩ := hp0
    simp only [RR.bind] at h
    have hp1 := p48P (fu := fu) hA g1
    rcases hv1 : iS a d0 with ⟨d1, v1⟩ | ⟨e, q⟩
    rotate_left
    · rw [hv1] at h; cases h
    rw [hv1] at h hp1
    obtain ⟨g2, w2, _⟩ := hp1
    simp only [] at h
    have hp2 := p15P (fu := fu) hA g2
    rcases hv2 : uS a d1 with ⟨d2, v2⟩ | ⟨e, q⟩
    rotate_left
    · rw [hv2] at h; cases h
    rw [hv2] at h hp2
    obtain ⟨g3, w3, _⟩ := hp2
    injection h with h1 h2
    subst h1 h2
    exact ⟨g3, ⟨hk1, hk5, l7, l7, l7, l7⟩⟩
  rw [if_neg k2] at h
  by_cases k3 : k = 3
  · rw [if_pos k3] at h
    have hp0 := p15P (fu := fu) hA hc1
    rcases hv0 : uS a c1 with ⟨d0, v0⟩ | ⟨e, q⟩
    rotate_left
    · rw [hv0] at h; cases h
    rw [hv0] at h hp0
    obtain ⟨g1, w1, _⟩ := hp0
    injection h with h1 h2
    subst h1 h2
    exact ⟨g1, ⟨hk1, hk5, l7, l7, l7, l7⟩⟩
  rw [if_neg k3] at h
  by_cases k4 : k = 4
  · rw [if_pos k4] at h
    have hp0 := p49P (fu := fu) hA hc1
    rcases hv0 : snapS a c1 with ⟨d0, v0⟩ | ⟨e, q⟩
    rotate_left
    · rw [hv0] at h; cases h
    rw [hv0] at h hp0
    obtain ⟨g1, ⟨w1, w2, w3, w4, w5⟩, _⟩ := hp0
    injection h with h1 h2
    subst h1 h2
    exact ⟨g1, ⟨hk1, hk5, l7, l7, w3.1, w4.1⟩⟩
  rw [if_neg k4] at h
  injection h with h1 h2
  subst h1 h2
  exact ⟨hc1, ⟨hk1, hk5, l7, l7, l7, l7⟩⟩
theorem orK_go {E R : Type} {o : Option (E ⊕ R)} {k : E → Option R} {e : E} {r : Option R} (h : o = some (.inl e)) (h2 : k e = r) : orK o k = r := by
  rw [h]
  exact h2
theorem outI_ok {a : List Int} {c : Nat} {x : IT} (h : itemS a = .ok c x) (hc : ¬ (c : Int) < (a.length : Int)) : outI a = (x, 0, ()) := by
  unfold outI
  rw [h]
  exact if_neg hc
theorem outI_zero {a : List Int} {x : IT} (h : outI a = (x, 0, ())) : ∃ c, itemS a = .ok c x ∧ a.length ≤ c := by
  unfold outI at h
  rcases hi : itemS a with ⟨c, y⟩ | ⟨e, q⟩
  · rw [hi] at h
    by_cases hlt : (c : Int) < (a.length : Int)
    · simp only [if_pos hlt] at h
      simp at h
    · simp only [if_neg hlt] at h
      simp only [Prod.mk.injEq, and_true] at h
      rw [h]
      exact ⟨c, rfl, by omega⟩
  · rw [hi] at h
    simp only [Prod.mk.injEq, and_true] at h
    exact absurd h.2 (item_ne hi)
theorem itB_none {x : IT} (h : ¬ (x.1 = 1 ∨ x.1 = 2 ∨ x.1 = 3 ∨ x.1 = 4 ∨ x.1 = 5)) : itB x = [] := by
  unfold itB
  rw [if_neg (by omega), if_neg (by omega), if_neg (by omega), if_neg (by omega), if_neg (by omega)]
theorem plain_k (x : IT) : (plainI x).1 = x.1 := by
  unfold plainI
  split
  · rfl
  split
  · rfl
  split
  · rfl
  split
  · rfl
  · rfl
theorem p8_is {k g i t ek ht hv hc ix si st : Int} {d v l sv sl sd b z : List Int} (h : itOk fu (k, g, i, t, ek, d, v, l, ht, hv, hc, ix, si, st, sv, sl, sd, ())) (hd : byt d) (hsd : byt sd) (hb : byt b) (hl : b.length ≤ 1048576) (hz : byt z) (hlz : z.length ≤ 1048576) (hfu : 140737488355328 < fu) :
    p8 fu ((k, g, i, t, ek, d, v, l, ht, hv, hc, ix, si, st, sv, sl, sd, ()), b, z, ()) = some ((), true) := by
  have hA : okA fu b := ⟨hb, by omega, by omega⟩
  have hW : okA fu (itB (k, g, i, t, ek, d, v, l, ht, hv, hc, ix, si, st, sv, sl, sd, ())) := ⟨byt_itB hd hsd, by have := itB_len h; omega, by omega⟩
  have hback := item_back h
  unfold p8
  (try dsimp only)
  rw [p11i_is (by omega), bind_val, p13_is h (by omega), bind_val]
  have hne : itB (k, g, i, t, ek, d, v, l, ht, hv, hc, ix, si, st, sv, sl, sd, ()) ≠ [] → (k = 1 ∨ k = 2 ∨ k = 3 ∨ k = 4 ∨ k = 5) := fun hn => Decidable.byContradiction fun hk => hn (itB_none hk)
  have hpl := p33_is (fu := fu) (k, g, i, t, ek, d, v, l, ht, hv, hc, ix, si, st, sv, sl, sd, ())
  generalize hw : itB (k, g, i, t, ek, d, v, l, ht, hv, hc, ix, si, st, sv, sl, sd, ()) = W at *
  simp only [eqL_t, cond_true]
  rw [p20_is hW, bind_val]
  rcases ho : outI W with ⟨⟨x1, x2, x3, x4, x5, x6, x7, x8, x9, x10, x11, x12, x13, x14, x15, x16, x17, ⟨⟩⟩, e, ⟨⟩⟩
  (try dsimp only)
  refine orK_go (e := ((), ())) ?_ ?_
  · by_cases h0 : W = []
    · have g0 : decide ((W.length : Int) > 0) = false := by rw [h0]; rfl
      simp only [g0, cond_false, orK_inl]
    · have g0 : decide ((W.length : Int) > 0) = true := by
        have := List.length_pos_iff.2 h0
        simp; omega
      simp only [g0, cond_true, orK_inl]
      by_cases he : e = 0
      · subst he
        obtain ⟨c, hi, _⟩ := outI_zero ho
        have hs := (itemS_short hW hi).2
        rcases hback (hne h0) with ⟨e', q', hb'⟩ | hb'
        · rw [hb'] at hi; cases hi
        · rw [hb'] at hi
          injection hi with _ hx
          rw [hx] at hpl
          simp only [BEq.rfl, cond_true]
          rw [hpl]
          simp only [bind_val]
          rw [p31_is hs.v hs.l hs.sv hs.sl (by omega)]
          simp only [bind_val, Bool.not_true, cond_false]
      · have ge : (e == 0) = false := beq_eq_false_iff_ne.2 he
        simp only [ge, cond_false]
  · rw [p20_is hA, bind_val]
    rcases ho2 : outI b with ⟨⟨y1, y2, y3, y4, y5, y6, y7, y8, y9, y10, y11, y12, y13, y14, y15, y16, y17, ⟨⟩⟩, e2, ⟨⟩⟩
    (try dsimp only)
    refine orK_go (e := ((), ())) ?_ ?_
    · by_cases he : e2 = 0
      · subst he
        obtain ⟨c, hi, hcl⟩ := outI_zero ho2
        have hg := (itemS_good hA hl hi).2
        have hcan := item_canon hA hi
        rw [List.drop_eq_nil_of_le hcl, List.append_nil] at hcan
        simp only [BEq.rfl, cond_true]
        rw [p13_is hg.w (by omega), ← hcan]
        simp only [bind_val, BEq.rfl, Bool.not_true, cond_false]
      · have ge : (e2 == 0) = false := beq_eq_false_iff_ne.2 he
        simp only [ge, cond_false]
    · (try dsimp only)
      rw [p12_is hb hl (by omega) (by omega), bind_val]
      have hfl := frame_len hl
      have f1 := fits2 (n := (frameB b).length) (by omega)
      have f2 := fits2 (n := (frameB b).length + z.length) (by omega)
      simp only [List.length_nil, Nat.zero_add, List.nil_append, decide_true, f1, f2, cond_true]
      rw [p21_is (a := frameB b ++ z) (byt_app (byt_frame hb) hz) (by rw [List.length_append]; omega) (by omega) (by rw [List.length_append]; omega), bind_val]
      (try dsimp only)
      refine orK_go (e := ((), ())) ?_ ?_
      · by_cases hm : (b.length : Int) ≤ 262144
        · rw [unS_frame hb (by omega)]
          simp only [decide_eq_true hm, cond_true, bne_self_eq_false, cond_false, BEq.rfl, Bool.not_true]
        · simp only [decide_eq_false hm, cond_false]
      · (try dsimp only)
        rw [p21_is hb (by omega) (by omega) (by omega), bind_val]
        rcases hu : unS b with ⟨p, r, e3⟩
        (try dsimp only)
        (try simp only [cond_true])
        by_cases he : e3 = 0
        · subst he
          obtain ⟨c1, c2, c3⟩ := unS_canon hb hu
          have hrl : r.length ≤ 1048576 := by
            have := congrArg List.length c1
            rw [List.length_append] at this
            omega
          have hfp := frame_len (b := p) (by omega)
          have hsz : decide ((strOfNums (frameB p)).size + (strOfNums r).size ≤ 9223372036854775807) = true := by rw [str_size, str_size]; simp; omega
          simp only [bne_self_eq_false, cond_false]
          rw [p12_is c3 (by omega) (by omega) (by omega)]
          simp only [bind_val, cond_true, hsz]
          rw [toList_str, ← c1]
          simp only [BEq.rfl]
        · have ge : (e3 != 0) = true := bne_iff_ne.2 he
          simp only [ge, cond_true]
end
end Go.Proofs.YtfhdpeceppafiaaDoor
