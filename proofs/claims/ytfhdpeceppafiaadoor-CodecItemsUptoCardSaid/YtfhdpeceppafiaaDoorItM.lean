/-
  Numbers as bytes: what stands for a number, a signed one, a text, a list. Of no program.
-/
import Derived.Test.YtfhdpeceppafiaaDoorDaP
import Derived.Test.YtfhdpeceppafiaaDoorDaL
import Derived.Test.YtfhdpeceppafiaaDoorPtM
namespace Go.Proofs.YtfhdpeceppafiaaDoor
open Go.RowKit
section

theorem wuk {x : Int} (k : IntKind) (hk : k.signed = false) (h1 : 0 ≤ x) (h2 : x < 2 ^ k.bits) : IntKind.wrap k x = x := by
  unfold IntKind.wrap
  simp only [hk, Bool.false_and, Bool.false_eq_true, if_false]
  exact Int.emod_eq_of_lt h1 h2
theorem wu64 {x : Int} (h1 : 0 ≤ x) (h2 : x < 18446744073709551616) : IntKind.wrap .u64 x = x := wuk .u64 rfl h1 h2
theorem wu8 {x : Int} (h1 : 0 ≤ x) (h2 : x < 256) : IntKind.wrap .u8 x = x := wuk .u8 rfl h1 h2
theorem wrap_u8m (n : Nat) : IntKind.wrap .u8 (n : Int) = ((n % 256 : Nat) : Int) := by
  show (n : Int) % 256 = _
  omega
theorem wi64 {x : Int} (h1 : -9223372036854775808 ≤ x) (h2 : x < 9223372036854775808) : IntKind.wrap .i64 x = x := by
  have e1 : (2 : Int) ^ IntKind.bits .i64 = 18446744073709551616 := rfl
  have e2 : (2 : Int) ^ (IntKind.bits .i64 - 1) = 9223372036854775808 := rfl
  unfold IntKind.wrap
  simp only [e1, e2]
  split
  · rename_i h
    simp at h
    omega
  · rename_i h
    simp [IntKind.signed] at h
    omega
theorem fdiv7 (n : Nat) : Int.fdiv (n : Int) (2 ^ (min (Int.toNat (7 : Int)) (IntKind.bits .u64))) = ((n / 128 : Nat) : Int) := by
  show Int.fdiv (n : Int) 128 = _
  rw [Int.fdiv_eq_ediv_of_nonneg _ (by decide)]
  rfl
theorem or128 : ∀ x : BitVec 8, (x ||| 128#8).toNat = x.toNat % 128 + 128 := by decide +kernel
theorem or8 (n m : Nat) : ((BitVec.ofInt (IntKind.bits .u8) (n : Int) ||| BitVec.ofInt (IntKind.bits .u8) (m : Int)).toNat) = (BitVec.ofNat 8 n ||| BitVec.ofNat 8 m).toNat := by
  show (BitVec.ofInt 8 (n : Int) ||| BitVec.ofInt 8 (m : Int)).toNat = _
  rw [BitVec.ofInt_natCast, BitVec.ofInt_natCast]
theorem and64 (n m : Nat) : ((BitVec.ofInt (IntKind.bits .u64) (n : Int) &&& BitVec.ofInt (IntKind.bits .u64) (m : Int)).toNat) = (BitVec.ofNat 64 n &&& BitVec.ofNat 64 m).toNat := by
  show (BitVec.ofInt 64 (n : Int) &&& BitVec.ofInt 64 (m : Int)).toNat = _
  rw [BitVec.ofInt_natCast, BitVec.ofInt_natCast]
theorem xor64 (n m : Nat) : ((BitVec.ofInt (IntKind.bits .u64) (n : Int) ^^^ BitVec.ofInt (IntKind.bits .u64) (m : Int)).toNat) = (BitVec.ofNat 64 n ^^^ BitVec.ofNat 64 m).toNat := by
  show (BitVec.ofInt 64 (n : Int) ^^^ BitVec.ofInt 64 (m : Int)).toNat = _
  rw [BitVec.ofInt_natCast, BitVec.ofInt_natCast]
theorem lowP (n : Nat) : IntKind.wrap .u8 ((BitVec.ofInt (IntKind.bits .u8) (IntKind.wrap .u8 (n : Int)) ||| BitVec.ofInt (IntKind.bits .u8) (128 : Int)).toNat : Int) = ((n % 128 + 128 : Nat) : Int) := by
  have e1 : (BitVec.ofInt (IntKind.bits .u8) (IntKind.wrap .u8 (n : Int)) ||| BitVec.ofInt (IntKind.bits .u8) (128 : Int)).toNat = n % 128 + 128 := by
    rw [wrap_u8m]
    have := or8 (n % 256) 128
    have e3 := or128 (BitVec.ofNat 8 (n % 256))
    rw [BitVec.toNat_ofNat] at e3
    refine this.trans (e3.trans ?_)
    omega
  rw [e1]
  exact wu8 (by omega) (by omega)
theorem lowR (n : Nat) (h : n < 18446744073709551616) : IntKind.wrap .u8 ((IntKind.wrap .u8 (IntKind.wrap .u64 ((BitVec.ofInt (IntKind.bits .u64) (n : Int) &&& BitVec.ofInt (IntKind.bits .u64) (127 : Int)).toNat : Int))) + (128 : Int)) = ((n % 128 + 128 : Nat) : Int) := by
  have h2 : (BitVec.ofInt (IntKind.bits .u64) (n : Int) &&& BitVec.ofInt (IntKind.bits .u64) (127 : Int)).toNat = n % 128 := by
    refine (and64 n 127).trans ?_
    rw [BitVec.toNat_and, BitVec.toNat_ofNat, BitVec.toNat_ofNat, Nat.mod_eq_of_lt h]
    exact Nat.and_two_pow_sub_one_eq_mod n 7
  rw [h2, wu64 (by omega) (by omega), wu8 (x := ((n % 128 : Nat) : Int)) (by omega) (by omega), wu8 (by omega) (by omega)]
  omega
/-- A signed number as a number. -/
def zz (c : Int) : Int := if c < 0 then -2 * c - 1 else 2 * c
def isI (c : Int) : Prop := -9223372036854775808 ≤ c ∧ c ≤ 9223372036854775807
def isU (c : Int) : Prop := 0 ≤ c ∧ c ≤ 18446744073709551615
theorem zz_u {c : Int} (h : isI c) : isU (zz c) := by
  unfold isI at h
  unfold zz isU
  split <;> omega
theorem xorAll (n : Nat) (h : n < 18446744073709551616) : ((BitVec.ofNat 64 n ^^^ BitVec.ofNat 64 18446744073709551615)).toNat = 18446744073709551615 - n := by
  have e : BitVec.ofNat 64 18446744073709551615 = BitVec.allOnes 64 := by decide
  rw [e, BitVec.xor_allOnes, BitVec.toNat_not, BitVec.toNat_ofNat, Nat.mod_eq_of_lt h]
theorem zzP {c : Int} (h : isI c) : IntKind.wrap .u64 ((BitVec.ofInt (IntKind.bits .u64) (IntKind.wrap .u64 ((IntKind.wrap .u64 c) * 2 ^ (min (Int.toNat (1 : Int)) (IntKind.bits .u64)))) ^^^ BitVec.ofInt (IntKind.bits .u64) (IntKind.wrap .u64 (Int.fdiv c (2 ^ (min (Int.toNat (63 : Int)) (IntKind.bits .i64)))))).toNat : Int) = zz c := by
  obtain ⟨h1, h2⟩ := h
  have e2 : (2 : Int) ^ (min (Int.toNat (1 : Int)) (IntKind.bits .u64)) = 2 := rfl
  have e63 : (2 : Int) ^ (min (Int.toNat (63 : Int)) (IntKind.bits .i64)) = 9223372036854775808 := rfl
  have em : ∀ x : Int, IntKind.wrap .u64 x = x % 18446744073709551616 := fun x => rfl
  rw [e2, e63, Int.fdiv_eq_ediv_of_nonneg _ (by decide)]
  unfold zz
  by_cases hc : c < 0
  · rw [if_pos hc]
    have d1 : IntKind.wrap .u64 (c / 9223372036854775808) = ((18446744073709551615 : Nat) : Int) := by rw [em]; omega
    have d2 : IntKind.wrap .u64 (IntKind.wrap .u64 c * 2) = ((18446744073709551616 + 2 * c).toNat : Int) := by rw [em, em]; omega
    rw [d1, d2, xor64, xorAll _ (by omega), em]
    omega
  · rw [if_neg hc]
    have d1 : IntKind.wrap .u64 (c / 9223372036854775808) = ((0 : Nat) : Int) := by rw [em]; omega
    have d2 : IntKind.wrap .u64 (IntKind.wrap .u64 c * 2) = ((2 * c).toNat : Int) := by rw [em, em]; omega
    rw [d1, d2, xor64, show BitVec.ofNat 64 0 = 0#64 from rfl, BitVec.xor_zero, BitVec.toNat_ofNat, Nat.mod_eq_of_lt (by omega), em]
    omega
theorem zzN {c : Int} (h : isI c) (hc : c < 0) : IntKind.wrap .u64 ((IntKind.wrap .u64 ((2 : Int) * (IntKind.wrap .u64 (IntKind.wrap .i64 (0 - (IntKind.wrap .i64 (c + (1 : Int)))))))) + (1 : Int)) = zz c := by
  obtain ⟨h1, h2⟩ := h
  rw [wi64 (x := c + 1) (by omega) (by omega), wi64 (by omega) (by omega), wu64 (x := 0 - (c + 1)) (by omega) (by omega), wu64 (x := 2 * (0 - (c + 1))) (by omega) (by omega), wu64 (by omega) (by omega)]
  unfold zz
  rw [if_pos hc]
  omega
theorem zzQ {c : Int} (h : isI c) (hc : ¬ c < 0) : IntKind.wrap .u64 ((2 : Int) * (IntKind.wrap .u64 c)) = zz c := by
  obtain ⟨h1, h2⟩ := h
  rw [wu64 (x := c) (by omega) (by omega), wu64 (by omega) (by omega)]
  unfold zz
  rw [if_neg hc]

/-- The bytes of a number. -/
def ub (v : Nat) : List Int := if v < 128 then [(v : Int)] else ((v % 128 + 128 : Nat) : Int) :: ub (v / 128)
termination_by v
decreasing_by omega
theorem ub_small {v : Nat} (h : v < 128) : ub v = [(v : Int)] := by rw [ub, if_pos h]
theorem ub_big {v : Nat} (h : ¬ v < 128) : ub v = ((v % 128 + 128 : Nat) : Int) :: ub (v / 128) := by rw [ub, if_neg h]
theorem ub_len : ∀ (k v : Nat), v < 128 ^ (k + 1) → (ub v).length ≤ k + 1
  | 0, v, h => by rw [ub_small (by simpa using h)]; simp
  | k + 1, v, h => by
    by_cases hv : v < 128
    · rw [ub_small hv]; simp
    · rw [ub_big hv]
      have h2 : v / 128 < 128 ^ (k + 1) := by
        rw [Nat.div_lt_iff_lt_mul (by decide)]
        rw [Nat.pow_succ] at h
        exact h
      have := ub_len k (v / 128) h2
      simp only [List.length_cons]
      omega
def uB (v : Int) : List Int := ub v.toNat
theorem uB_len {v : Int} (h : isU v) : (uB v).length ≤ 10 := by
  obtain ⟨h1, h2⟩ := h
  exact ub_len 9 _ (by have : (128 : Nat) ^ 10 = 1180591620717411303424 := by decide
                       omega)
def iB (c : Int) : List Int := uB (zz c)
def tB (l : List Int) : List Int := uB (l.length : Int) ++ l
def nB (l : List Int) : List Int := uB (l.length : Int) ++ l.flatMap iB
theorem flat_len {l : List Int} (h : ∀ x ∈ l, isI x) : (l.flatMap iB).length ≤ 10 * l.length := by
  induction l with
  | nil => simp
  | cons x l ih =>
    have h1 := uB_len (zz_u (h x (by simp)))
    have h2 := ih fun y hy => h y (by simp [hy])
    simp only [List.flatMap_cons, List.length_append, List.length_cons]
    unfold iB at h1 ⊢
    unfold iB at h2
    omega
end
section
variable {fu : Nat}
def top : Nat := 140737488355328
theorem fits_top {n : Nat} (h : n ≤ 140737488355328) : n ≤ maxLen := Nat.le_trans h (by decide)
theorem p34_is {a : List Int} {v : Int} (hv : isU v) (ha : a.length + (uB v).length ≤ 140737488355328) (hfu : 10 < fu) : p34_1 fu ((a, ()), v, ()) = some (((a ++ uB v, ()), (), ()), ()) := by
  unfold p34_1
  simp only [eqL_t, cond_true]
  refine loopO_eq (fun (s : (Int × Unit) × ((List Int × Unit) × Unit)) => isU s.1.1 ∧ s.2.1.1.length + (uB s.1.1).length ≤ 140737488355328) (fun s => (uB s.1.1).length) (fun s => (((s.2.1.1 ++ uB s.1.1, ()), (), ()), ())) ?_ fu _ ⟨hv, ha⟩ (Nat.lt_of_le_of_lt (uB_len hv) hfu)
  rintro ⟨⟨f, ⟨⟩⟩, ⟨⟨h, ⟨⟩⟩, ⟨⟩⟩⟩ ⟨⟨h0, h1⟩, h2⟩
  dsimp only at h0 h1 h2
  obtain ⟨n, rfl⟩ := Int.eq_ofNat_of_zero_le h0
  have e : uB ((n : Nat) : Int) = ub n := rfl
  simp only [e] at h2 ⊢
  by_cases hn : n < 128
  · right
    rw [ub_small hn] at h2 ⊢
    simp only [List.length_singleton] at h2
    have hw : IntKind.wrap .u8 (n : Int) = (n : Int) := wu8 (by omega) (by omega)
    have hl : h.length + 1 ≤ maxLen ∧ (h.length + 1) * 1 ≤ 140737488355328 := ⟨fits_top h2, by omega⟩
    have hge : ¬ ((n : Int) ≥ 128) := by omega
    simp only [hge, hw, hl, List.length_singleton, decide_false, decide_true, cond_false, cond_true, and_self, inrO, Option.map_some]
  · left
    rw [ub_big hn] at h2 ⊢
    simp only [List.length_cons] at h2
    have hl : h.length + 1 ≤ maxLen ∧ (h.length + 1) * 1 ≤ 140737488355328 := ⟨fits_top (by omega), by omega⟩
    refine ⟨((((n / 128 : Nat) : Int), ()), ((h ++ [((n % 128 + 128 : Nat) : Int)], ()), ())), ?_, ⟨⟨by dsimp only; omega, by dsimp only; omega⟩, ?_⟩, ?_, ?_⟩
    · have hge : (n : Int) ≥ 128 := by omega
      simp only [lowP, fdiv7, List.length_singleton, hl, hge, decide_true, cond_true, and_self]
    · show (h ++ [((n % 128 + 128 : Nat) : Int)]).length + (ub (n / 128)).length ≤ _
      simp only [List.length_append, List.length_singleton]
      omega
    · show (ub (n / 128)).length < _
      simp
    · show ((((h ++ [((n % 128 + 128 : Nat) : Int)]) ++ ub (n / 128), ()), (), ()), ()) = _
      simp
theorem p52_is {v : Int} (hv : isU v) (hfu : 10 < fu) : p52 fu (v, ()) = some ((), uB v) := by
  unfold p52
  have h10 := uB_len hv
  refine loopO_eq (fun (s : (Int × List Int × Unit) × Unit) => isU s.1.1 ∧ s.1.2.1.length + (uB s.1.1).length ≤ 10) (fun s => (uB s.1.1).length) (fun s => ((), s.1.2.1 ++ uB s.1.1)) ?_ fu ((v, [], ()), ()) ⟨hv, by simpa using h10⟩ (Nat.lt_of_le_of_lt h10 hfu)
  rintro ⟨⟨f, h, ⟨⟩⟩, ⟨⟩⟩ ⟨⟨h0, h1⟩, h2⟩
  dsimp only at h0 h1 h2
  obtain ⟨n, rfl⟩ := Int.eq_ofNat_of_zero_le h0
  have e : uB ((n : Nat) : Int) = ub n := rfl
  simp only [e] at h2 ⊢
  by_cases hn : n < 128
  · right
    rw [ub_small hn] at h2 ⊢
    simp only [List.length_singleton] at h2
    have hw : IntKind.wrap .u8 (n : Int) = (n : Int) := wu8 (by omega) (by omega)
    have hl : h.length + 1 ≤ maxLen ∧ (h.length + 1) * 1 ≤ 140737488355328 := ⟨fits_top (by omega), by omega⟩
    have hge : ¬ ((n : Int) ≥ 128) := by omega
    simp only [hge, hw, hl, List.length_singleton, decide_false, decide_true, eqL_t, cond_false, cond_true, and_self, inrO, Option.map_some]
  · left
    rw [ub_big hn] at h2 ⊢
    simp only [List.length_cons] at h2
    have hl : h.length + 1 ≤ maxLen ∧ (h.length + 1) * 1 ≤ 140737488355328 := ⟨fits_top (by omega), by omega⟩
    refine ⟨((((n / 128 : Nat) : Int), h ++ [((n % 128 + 128 : Nat) : Int)], ()), ()), ?_, ⟨⟨by dsimp only; omega, by dsimp only; omega⟩, ?_⟩, ?_, ?_⟩
    · have hge : (n : Int) ≥ 128 := by omega
      simp only [lowR n (by omega), fdiv7, List.length_singleton, hl, hge, decide_true, eqL_t, cond_true, and_self]
    · show (h ++ [((n % 128 + 128 : Nat) : Int)]).length + (ub (n / 128)).length ≤ _
      simp only [List.length_append, List.length_singleton]
      omega
    · show (ub (n / 128)).length < _
      simp
    · show ((), (h ++ [((n % 128 + 128 : Nat) : Int)]) ++ ub (n / 128)) = _
      simp
def cB (a b : List Int) : List Int := nB a ++ nB b
def eB (i t k : Int) (d a b : List Int) : List Int := uB i ++ (uB t ++ (iB k ++ (tB d ++ cB a b)))
def sB (i t : Int) (a b d : List Int) : List Int := uB i ++ (uB t ++ (cB a b ++ tB d))
def gB (lo hi : ByteArray) : List Int := tB (numsOf lo) ++ tB (numsOf hi)
def rB (o : Int) (k : ByteArray) (v : List Int) (p s : Int) : List Int := uB o ++ (tB (numsOf k) ++ (tB v ++ (uB p ++ uB s)))
def bB (b : Bool) : List Int := if b then [1] else [0]
theorem numsOf_len (s : ByteArray) : (numsOf s).length = s.size := by unfold numsOf; rw [List.length_map]; rfl
theorem isU_len {n : Nat} (h : n ≤ 140737488355328) : isU (n : Int) := ⟨by omega, by omega⟩
theorem wu_len {n : Nat} (h : n ≤ 140737488355328) : IntKind.wrap .u64 (n : Int) = (n : Int) := wu64 (by omega) (by omega)
/-- As much as may be written. -/
def fitsT (n : Nat) : Prop := n ≤ 140737488355328
theorem fits2 {n : Nat} (h : n ≤ 140737488355328) : (n ≤ maxLen ∧ n * 1 ≤ 140737488355328) = True := eq_true ⟨fits_top h, by omega⟩
theorem fits3 {n : Nat} (h : n ≤ 140737488355328) : (n ≤ maxLen ∧ n ≤ 140737488355328) = True := eq_true ⟨fits_top h, h⟩
theorem p37_is {a : List Int} {c : Int} (hc : isI c) (ha : a.length + (iB c).length ≤ 140737488355328) (hfu : 10 < fu) : p37_1 fu ((a, ()), c, ()) = some (((a ++ iB c, ()), (), ()), ()) := by
  unfold p37_1
  simp only [eqL_t, cond_true, zzP hc]
  rw [p34_is (zz_u hc) ha hfu]
  simp only [Option.bind_some]
  rfl
theorem p53_is {c : Int} (hc : isI c) (hfu : 10 < fu) : p53 fu (c, ()) = some ((), iB c) := by
  unfold p53
  by_cases h : c < 0
  · simp only [h, decide_true, eqL_t, cond_true, zzN hc h]
    rw [p52_is (zz_u hc) hfu]
    simp only [Option.bind_some]
    rfl
  · simp only [h, decide_false, cond_false, zzQ hc h]
    rw [p52_is (zz_u hc) hfu]
    simp only [Option.bind_some, eqL_t, cond_true]
    rfl
theorem p36_is {a l : List Int} (ha : a.length + (tB l).length ≤ 140737488355328) (hfu : 10 < fu) : p36 fu ((a, ()), l, ()) = some (((a ++ tB l, ()), (), ()), ()) := by
  unfold tB at ha
  rw [List.length_append] at ha
  unfold p36
  simp only [eqL_t, cond_true]
  rw [wu_len (by omega), p34_is (isU_len (by omega)) (by omega) hfu]
  have h2 : (a ++ uB (l.length : Int)).length + l.length ≤ 140737488355328 := by rw [List.length_append]; omega
  simp only [Option.bind_some, decide_true, cond_true, fits2 h2, tB, List.append_assoc]
theorem p56_is {l : List Int} (ha : (tB l).length ≤ 140737488355328) (hfu : 10 < fu) : p56 fu (l, ()) = some ((), tB l) := by
  unfold tB at ha
  rw [List.length_append] at ha
  unfold p56
  dsimp only
  rw [wu_len (by omega), p52_is (isU_len (by omega)) hfu]
  simp only [Option.bind_some, decide_true, eqL_t, cond_true, fits2 ha, tB]
theorem take_flat {l : List Int} {i : Nat} (h : i < l.length) : (l.take (i + 1)).flatMap iB = (l.take i).flatMap iB ++ iB (l.getD i 0) := by
  have e : l.getD i 0 = l[i] := by simp [h]
  rw [List.take_succ_eq_append_getElem h, List.flatMap_append, e]
  simp
theorem flat_le {l : List Int} {i : Nat} (h : i < l.length) : ((l.take i).flatMap iB).length + (iB (l.getD i 0)).length ≤ (l.flatMap iB).length := by
  have e : l.flatMap iB = (l.take (i + 1)).flatMap iB ++ (l.drop (i + 1)).flatMap iB := by rw [← List.flatMap_append, List.take_append_drop]
  rw [e, take_flat h]
  simp only [List.length_append]
  omega
theorem getD_isI {l : List Int} {i : Nat} (hl : ∀ x ∈ l, isI x) (h : i < l.length) : isI (l.getD i 0) := by
  have e : l.getD i 0 = l[i] := by simp [h]
  rw [e]
  exact hl _ (List.getElem_mem h)
theorem p92_is {a l : List Int} (hl : ∀ x ∈ l, isI x) (ha : a.length + (nB l).length ≤ 140737488355328) (hll : l.length ≤ 140737488355328) (hfu : 10 < fu) (hf2 : l.length < fu) : p92 fu ((a, ()), l, ()) = some (((a ++ nB l, ()), (), ()), ()) := by
  unfold nB at ha
  rw [List.length_append] at ha
  unfold p92
  simp only [eqL_t, cond_true]
  rw [wu_len hll, p34_is (isU_len hll) (by omega) hfu]
  simp only [Option.bind_some]
  refine loopO_eq (fun (s : (Int × Unit) × ((List Int × Unit) × Unit)) => ∃ k : Nat, k ≤ l.length ∧ s = (((k : Int), ()), (((a ++ uB (l.length : Int)) ++ (l.take k).flatMap iB, ()), ()))) (fun s => l.length - s.1.1.toNat) (fun _ => (((a ++ nB l, ()), (), ()), ())) ?_ fu _ ⟨0, Nat.zero_le _, by simp⟩ (by dsimp only; omega)
  rintro _ ⟨k, hk, rfl⟩
  by_cases hlt : k < l.length
  · left
    refine ⟨_, ?_, ⟨k + 1, hlt, rfl⟩, ?_, rfl⟩
    · have e1 : decide ((k : Int) < (l.length : Int)) = true := by simpa using hlt
      have e2 : decide ((0 : Int) ≤ (k : Int) ∧ (k : Int) < (l.length : Int)) = true := by simp; omega
      have e3 : decide (k < l.length) = true := by simpa using hlt
      have hb := flat_le hlt
      have hw : IntKind.wrap .i64 ((k : Int) + 1) = ((k + 1 : Nat) : Int) := by rw [wi64 (by omega) (by omega)]; omega
      simp only [e1, e2, Int.toNat_natCast, e3, cond_true]
      rw [show l.getD k (dflt (.int .i64)) = l.getD k 0 from rfl, p37_is (getD_isI hl hlt) (by first | omega | (simp only [List.length_append]; omega)) hfu]
      simp only [Option.bind_some, hw, take_flat hlt, List.append_assoc]
    · dsimp only
      omega
  · right
    have hkl : k = l.length := by omega
    subst hkl
    have e1 : decide ((l.length : Int) < (l.length : Int)) = false := by simp
    simp only [e1, cond_false, inrO, Option.map_some, List.take_length, nB, List.append_assoc]
theorem p93_is {l : List Int} (hl : ∀ x ∈ l, isI x) (ha : (nB l).length ≤ 140737488355328) (hll : l.length ≤ 140737488355328) (hfu : 10 < fu) (hf2 : l.length < fu) : p93 fu (l, ()) = some ((), nB l) := by
  unfold nB at ha
  rw [List.length_append] at ha
  unfold p93
  dsimp only
  rw [wu_len hll, p52_is (isU_len hll) hfu]
  simp only [Option.bind_some, eqL_t, cond_true]
  refine loopO_eq (fun (s : (List Int × (Int × Unit)) × Unit) => ∃ k : Nat, k ≤ l.length ∧ s = ((uB (l.length : Int) ++ (l.take k).flatMap iB, (k : Int), ()), ())) (fun s => l.length - s.1.2.1.toNat) (fun _ => ((), nB l)) ?_ fu _ ⟨0, Nat.zero_le _, by simp⟩ (by dsimp only; omega)
  rintro _ ⟨k, hk, rfl⟩
  by_cases hlt : k < l.length
  · left
    refine ⟨_, ?_, ⟨k + 1, hlt, rfl⟩, ?_, rfl⟩
    · have e1 : decide ((k : Int) < (l.length : Int)) = true := by simpa using hlt
      have e2 : decide ((0 : Int) ≤ (k : Int) ∧ (k : Int) < (l.length : Int)) = true := by simp; omega
      have e3 : decide (k < l.length) = true := by simpa using hlt
      have hb := flat_le hlt
      have hw : IntKind.wrap .i64 ((k : Int) + 1) = ((k + 1 : Nat) : Int) := by rw [wi64 (by omega) (by omega)]; omega
      simp only [e1, e2, Int.toNat_natCast, e3, cond_true]
      have h2 : (uB (l.length : Int) ++ (l.take k).flatMap iB).length + (iB (l.getD k 0)).length ≤ 140737488355328 := by rw [List.length_append]; omega
      rw [show l.getD k (dflt (.int .i64)) = l.getD k 0 from rfl, p53_is (getD_isI hl hlt) hfu]
      simp only [Option.bind_some, fits2 h2, decide_true, cond_true, hw, take_flat hlt, List.append_assoc]
    · dsimp only
      omega
  · right
    have hkl : k = l.length := by omega
    subst hkl
    have e1 : decide ((l.length : Int) < (l.length : Int)) = false := by simp
    simp only [e1, cond_false, inrO, Option.map_some, List.take_length, nB]
/-- Two lists of nodes that may be written. -/
structure confOk (fu : Nat) (a b : List Int) : Prop where
  ha : ∀ x ∈ a, isI x
  hb : ∀ x ∈ b, isI x
  la : a.length ≤ 1048576
  lb : b.length ≤ 1048576
  fa : a.length < fu
  fb : b.length < fu
theorem nB_len {l : List Int} (h : ∀ x ∈ l, isI x) (hl : l.length ≤ 1048576) : (nB l).length ≤ 10 + 10 * l.length := by
  have h1 := uB_len (isU_len (n := l.length) (by omega))
  have h2 := flat_len h
  unfold nB
  rw [List.length_append]
  omega
theorem p57_is {a v l : List Int} (hc : confOk fu v l) (ha : a.length + (cB v l).length ≤ 140737488355328) (hfu : 10 < fu) : p57 fu ((a, ()), (v, l, ()), ()) = some (((a ++ cB v l, ()), (), ()), ()) := by
  have h1 := hc.la
  have h2 := hc.lb
  simp only [cB, List.length_append] at ha
  unfold p57
  simp only [eqL_t, cond_true]
  rw [p92_is hc.ha (by omega) (by omega) hfu hc.fa]
  simp only [Option.bind_some]
  rw [p92_is hc.hb (by first | omega | (simp only [List.length_append]; omega)) (by omega) hfu hc.fb]
  simp only [Option.bind_some, cB, List.append_assoc]
theorem p58_is {v l : List Int} (hc : confOk fu v l) (hfu : 10 < fu) : p58 fu ((v, l, ()), ()) = some ((), cB v l) := by
  have h1 := hc.la
  have h2 := hc.lb
  have h3 := nB_len hc.ha h1
  have h4 := nB_len hc.hb h2
  unfold p58
  dsimp only
  rw [p93_is hc.ha (by omega) (by omega) hfu hc.fa]
  simp only [Option.bind_some]
  rw [p93_is hc.hb (by omega) (by omega) hfu hc.fb]
  have h5 : (nB v).length + (nB l).length ≤ 140737488355328 := by omega
  simp only [Option.bind_some, decide_true, eqL_t, cond_true, fits2 h5, cB]
theorem cB_len {v l : List Int} (hc : confOk fu v l) : (cB v l).length ≤ 20971540 := by
  have h1 := hc.la
  have h2 := hc.lb
  have h3 := nB_len hc.ha h1
  have h4 := nB_len hc.hb h2
  unfold cB
  rw [List.length_append]
  omega
theorem tB_len {l : List Int} (h : l.length ≤ 140737488355328) : (tB l).length ≤ 10 + l.length := by
  have h1 := uB_len (isU_len h)
  unfold tB
  rw [List.length_append]
  omega
theorem p38_is {a : List Int} {i t k : Int} {d v l : List Int} (hi : isU i) (ht : isU t) (hk : isI k) (hc : confOk fu v l) (ha : a.length + (eB i t k d v l).length ≤ 140737488355328) (hfu : 10 < fu) : p38 fu ((a, ()), (i, t, k, d, v, l, ()), ()) = some (((a ++ eB i t k d v l, ()), (), ()), ()) := by
  simp only [eB, List.length_append] at ha
  unfold p38
  simp only [eqL_t, cond_true]
  rw [p34_is hi (by first | omega | (simp only [List.length_append]; omega)) hfu]
  simp only [Option.bind_some]
  rw [p34_is ht (by first | omega | (simp only [List.length_append]; omega)) hfu]
  simp only [Option.bind_some]
  rw [p37_is hk (by first | omega | (simp only [List.length_append]; omega)) hfu]
  simp only [Option.bind_some]
  rw [p36_is (by first | omega | (simp only [List.length_append]; omega)) hfu]
  simp only [Option.bind_some]
  rw [p57_is hc (by first | omega | (simp only [List.length_append]; omega)) hfu]
  simp only [Option.bind_some, eB, List.append_assoc]
theorem p39_is {a : List Int} {i t : Int} {d v l : List Int} (hi : isU i) (ht : isU t) (hc : confOk fu v l) (ha : a.length + (sB i t v l d).length ≤ 140737488355328) (hfu : 10 < fu) : p39 fu ((a, ()), (i, t, v, l, d, ()), ()) = some (((a ++ sB i t v l d, ()), (), ()), ()) := by
  simp only [sB, List.length_append] at ha
  unfold p39
  simp only [eqL_t, cond_true]
  rw [p34_is hi (by first | omega | (simp only [List.length_append]; omega)) hfu]
  simp only [Option.bind_some]
  rw [p34_is ht (by first | omega | (simp only [List.length_append]; omega)) hfu]
  simp only [Option.bind_some]
  rw [p57_is hc (by first | omega | (simp only [List.length_append]; omega)) hfu]
  simp only [Option.bind_some]
  rw [p36_is (by first | omega | (simp only [List.length_append]; omega)) hfu]
  simp only [Option.bind_some, sB, List.append_assoc]
theorem p59_is {i t k : Int} {d v l : List Int} (hi : isU i) (ht : isU t) (hk : isI k) (hd : d.length ≤ 1048576) (hc : confOk fu v l) (hfu : 10 < fu) : p59 fu ((i, t, k, d, v, l, ()), ()) = some ((), eB i t k d v l) := by
  have l0 := uB_len hi
  have l1 := uB_len ht
  have l2 : (iB k).length ≤ 10 := uB_len (zz_u hk)
  have l3 := tB_len (l := d) (by omega)
  have l4 := cB_len hc
  have c0 := p52_is (fu := fu) hi hfu
  have c1 := p52_is (fu := fu) ht hfu
  have c2 := p53_is (fu := fu) hk hfu
  have c3 := p56_is (fu := fu) (l := d) (by omega) hfu
  have c4 := p58_is hc hfu
  unfold p59
  dsimp only
  simp only [c0, c1, c2, c3, c4, Option.bind_some, eqL_t, cond_true, List.length_append]
  simp only [fits2 (n := (uB i).length + (uB t).length) (by omega), fits2 (n := (uB i).length + (uB t).length + (iB k).length) (by omega), fits2 (n := (uB i).length + (uB t).length + (iB k).length + (tB d).length) (by omega), fits2 (n := (uB i).length + (uB t).length + (iB k).length + (tB d).length + (cB v l).length) (by omega), decide_true, cond_true]
  simp only [eB, List.append_assoc]
theorem p60_is {i t : Int} {d v l : List Int} (hi : isU i) (ht : isU t) (hd : d.length ≤ 1048576) (hc : confOk fu v l) (hfu : 10 < fu) : p60 fu ((i, t, v, l, d, ()), ()) = some ((), sB i t v l d) := by
  have l0 := uB_len hi
  have l1 := uB_len ht
  have l2 := tB_len (l := d) (by omega)
  have l3 := cB_len hc
  have c0 := p52_is (fu := fu) hi hfu
  have c1 := p52_is (fu := fu) ht hfu
  have c2 := p58_is hc hfu
  have c3 := p56_is (fu := fu) (l := d) (by omega) hfu
  unfold p60
  dsimp only
  simp only [c0, c1, c2, c3, Option.bind_some, eqL_t, cond_true, List.length_append]
  simp only [fits2 (n := (uB i).length + (uB t).length) (by omega), fits2 (n := (uB i).length + (uB t).length + (cB v l).length) (by omega), fits2 (n := (uB i).length + (uB t).length + (cB v l).length + (tB d).length) (by omega), decide_true, cond_true]
  simp only [sB, List.append_assoc]
end
section
variable {fu : Nat}
theorem and8 (n m : Nat) : ((BitVec.ofInt (IntKind.bits .u8) (n : Int) &&& BitVec.ofInt (IntKind.bits .u8) (m : Int)).toNat) = (BitVec.ofNat 8 n &&& BitVec.ofNat 8 m).toNat := by
  show (BitVec.ofInt 8 (n : Int) &&& BitVec.ofInt 8 (m : Int)).toNat = _
  rw [BitVec.ofInt_natCast, BitVec.ofInt_natCast]
theorem or64 (n m : Nat) : ((BitVec.ofInt (IntKind.bits .u64) (n : Int) ||| BitVec.ofInt (IntKind.bits .u64) (m : Int)).toNat) = (BitVec.ofNat 64 n ||| BitVec.ofNat 64 m).toNat := by
  show (BitVec.ofInt 64 (n : Int) ||| BitVec.ofInt 64 (m : Int)).toNat = _
  rw [BitVec.ofInt_natCast, BitVec.ofInt_natCast]
theorem low7 (x : Nat) (h : x < 256) : IntKind.wrap .u8 ((BitVec.ofInt (IntKind.bits .u8) (x : Int) &&& BitVec.ofInt (IntKind.bits .u8) (127 : Int)).toNat : Int) = ((x % 128 : Nat) : Int) := by
  have h2 : (BitVec.ofInt (IntKind.bits .u8) (x : Int) &&& BitVec.ofInt (IntKind.bits .u8) (127 : Int)).toNat = x % 128 := by
    refine (and8 x 127).trans ?_
    rw [BitVec.toNat_and, BitVec.toNat_ofNat, BitVec.toNat_ofNat, Nat.mod_eq_of_lt h]
    exact Nat.and_two_pow_sub_one_eq_mod x 7
  rw [h2, wu8 (by omega) (by omega)]
theorem pow7 (i : Nat) (h : i ≤ 9) : (2 : Int) ^ (min (Int.toNat (IntKind.wrap .i64 ((7 : Int) * (i : Int)))) (IntKind.bits .u64)) = ((128 ^ i : Nat) : Int) := by
  have e : IntKind.wrap .i64 ((7 : Int) * (i : Int)) = ((7 * i : Nat) : Int) := by rw [wi64 (by omega) (by omega)]; omega
  rw [e, Int.toNat_natCast, Nat.min_eq_left (by show 7 * i ≤ 64; omega), show (128 : Nat) = 2 ^ 7 from rfl, ← Nat.pow_mul]
  simp
/-- What was read so far, and seven bits more. -/
theorem accum (c y i : Nat) (hi : i ≤ 9) (hc : c < 128 ^ i) (hy : c + y * 128 ^ i < 18446744073709551616) :
    IntKind.wrap .u64 ((BitVec.ofInt (IntKind.bits .u64) (c : Int) ||| BitVec.ofInt (IntKind.bits .u64) (IntKind.wrap .u64 ((IntKind.wrap .u64 (y : Int)) * 2 ^ (min (Int.toNat (IntKind.wrap .i64 ((7 : Int) * (i : Int)))) (IntKind.bits .u64))))).toNat : Int) = ((c + y * 128 ^ i : Nat) : Int) := by
  have hpos : 0 < 128 ^ i := Nat.pow_pos (by decide)
  have hy1 : y ≤ y * 128 ^ i := Nat.le_mul_of_pos_right y hpos
  rw [pow7 i hi, wu64 (x := (y : Int)) (by omega) (by omega), ← Int.natCast_mul, wu64 (x := ((y * 128 ^ i : Nat) : Int)) (by omega) (by omega)]
  have e1 : (BitVec.ofInt (IntKind.bits .u64) (c : Int) ||| BitVec.ofInt (IntKind.bits .u64) ((y * 128 ^ i : Nat) : Int)).toNat = c + y * 128 ^ i := by
    rw [or64, BitVec.toNat_or, BitVec.toNat_ofNat, BitVec.toNat_ofNat, Nat.mod_eq_of_lt (by omega), Nat.mod_eq_of_lt (by omega)]
    have e : (128 : Nat) ^ i = 2 ^ (7 * i) := by rw [show (128 : Nat) = 2 ^ 7 from rfl, ← Nat.pow_mul]
    rw [e] at hc ⊢
    have := Nat.two_pow_add_eq_or_of_lt hc y
    rw [Nat.or_comm, Nat.mul_comm y, ← this, Nat.add_comm]
  rw [e1, wu64 (by omega) (by omega)]
theorem ub_pos (v : Nat) : 0 < (ub v).length := by
  by_cases h : v < 128
  · rw [ub_small h]; exact Nat.one_pos
  · rw [ub_big h]; exact Nat.succ_pos _
theorem ub_head (v : Nat) (r : List Int) : (ub v ++ r).getD 0 0 = (((if v < 128 then v else v % 128 + 128 : Nat)) : Int) := by
  by_cases h : v < 128
  · rw [ub_small h, if_pos h]; rfl
  · rw [ub_big h, if_neg h]; rfl
/-- From the i-th byte on, what was read so far being that: the number, how many bytes it has, the error. -/
def numS : Nat → Nat → List Int → Int × Int × Int
  | _, _, [] => (0, 0, 11)
  | i, acc, x :: r => if i = 9 ∧ x ≠ 1 then (0, 0, 12) else if x = 0 ∧ 0 < i then (0, 0, 12) else if x < 128 then (((acc + x.toNat % 128 * 128 ^ i : Nat) : Int), ((i + 1 : Nat) : Int), 0) else numS (i + 1) (acc + x.toNat % 128 * 128 ^ i) r
theorem p40_any {a : List Int} (hb : ∀ x ∈ a, 0 ≤ x ∧ x ≤ 255) (_ : a.length ≤ 140737488355328) (hfu : 10 < fu) : p40 fu (a, ()) = some ((), ((numS 0 0 a).1, (numS 0 0 a).2.1, (numS 0 0 a).2.2, ())) := by
  unfold p40
  dsimp only
  refine loopO_eq (fun (s : (Int × (Int × Unit)) × Unit) => ∃ (i acc : Nat) (pre r : List Int), i ≤ 9 ∧ s = (((acc : Int), (i : Int), ()), ()) ∧ a = pre ++ r ∧ pre.length = i ∧ acc < 128 ^ i ∧ numS i acc r = numS 0 0 a) (fun s => 10 - s.1.2.1.toNat) (fun _ => ((), ((numS 0 0 a).1, (numS 0 0 a).2.1, (numS 0 0 a).2.2, ()))) ?_ fu _ ⟨0, 0, [], a, by omega, rfl, rfl, rfl, by simp, rfl⟩ (by dsimp only; omega)
  rintro _ ⟨i, acc, pre, r, hi, rfl, ha, hp, hacc, hnum⟩
  have e1 : decide ((i : Int) < 10) = true := by simp; omega
  have wi : IntKind.wrap .i64 ((i : Int) + 1) = ((i + 1 : Nat) : Int) := by rw [wi64 (by omega) (by omega)]; omega
  cases r with
  | nil =>
    right
    have hl : a.length = i := by rw [ha, List.append_nil, hp]
    have e2 : ((i : Int) == (a.length : Int)) = true := by rw [hl]; exact beq_self_eq_true _
    rw [← hnum]
    simp only [e1, e2, cond_true, numS, inrO, Option.map_some]
  | cons x r =>
    have hlen : a.length = i + (r.length + 1) := by rw [ha, List.length_append, hp, List.length_cons]
    have hx := hb x (by rw [ha]; simp)
    obtain ⟨n, rfl⟩ := Int.eq_ofNat_of_zero_le hx.1
    have hxg : List.getD a i (dflt (.int .u8)) = (n : Int) := by
      rw [ha, List.getD_eq_getElem?_getD, List.getElem?_append_right (by omega), hp, Nat.sub_self]
      rfl
    have e2 : ((i : Int) == (a.length : Int)) = false := by rw [hlen]; simp; omega
    have e3 : decide ((0 : Int) ≤ (i : Int) ∧ (i : Int) < (a.length : Int)) = true := by rw [hlen]; simp; omega
    have e4 : decide (i < a.length) = true := by rw [hlen]; simp
    have e7 : decide ((0 : Int) ≤ IntKind.wrap .i64 ((7 : Int) * (i : Int))) = true := by rw [wi64 (by omega) (by omega)]; simp; omega
    by_cases h9 : i = 9 ∧ (n : Int) ≠ 1
    · right
      obtain ⟨h9, hn1⟩ := h9
      have hd : numS i acc ((n : Int) :: r) = (0, 0, 12) := by rw [numS, if_pos ⟨h9, hn1⟩]
      rw [← hnum, hd]
      have g1 : ((i : Int) == 9) = true := by rw [h9]; rfl
      have g2 : ((n : Int) != 1) = true := bne_iff_ne.2 hn1
      simp only [e1, e2, e3, e4, Int.toNat_natCast, hxg, cond_true, cond_false, g1, g2, inrO, Option.map_some, orK_inr]
    · by_cases h0 : (n : Int) = 0 ∧ 0 < i
      · right
        obtain ⟨hn0, hi0⟩ := h0
        have hi9 : i ≠ 9 := fun e => h9 ⟨e, by omega⟩
        have hd : numS i acc ((n : Int) :: r) = (0, 0, 12) := by rw [numS, if_neg h9, if_pos ⟨hn0, hi0⟩]
        rw [← hnum, hd]
        have g1 : ((i : Int) == 9) = false := by simp; omega
        have g2 : ((n : Int) == 0) = true := beq_iff_eq.2 hn0
        have g3 : decide ((i : Int) > 0) = true := by simp; omega
        simp only [e1, e2, e3, e4, Int.toNat_natCast, hxg, cond_true, cond_false, g1, g2, g3, inrO, Option.map_some, orK_inr]
      · have hpow : i = 9 → (128 : Nat) ^ i = 9223372036854775808 := fun e => by rw [e]
        have hpow8 : i ≤ 8 → (128 : Nat) ^ i ≤ 72057594037927936 := fun e => by
          have := Nat.pow_le_pow_right (n := 128) (by decide) e
          have e8 : (128 : Nat) ^ 8 = 72057594037927936 := by decide
          omega
        have hmul : n % 128 * 128 ^ i ≤ 127 * 128 ^ i := Nat.mul_le_mul_right _ (by omega)
        have hbound : acc + n % 128 * 128 ^ i < 18446744073709551616 := by
          by_cases e9 : i = 9
          · have hn1 : (n : Int) = 1 := Decidable.byContradiction fun k => h9 ⟨e9, k⟩
            have hn1' : n = 1 := by omega
            have := hpow e9
            rw [hn1'] at hmul ⊢
            rw [this] at hacc ⊢
            omega
          · have := hpow8 (by omega)
            generalize 128 ^ i = q at *
            omega
        have hac := accum acc (n % 128) i hi hacc hbound
        by_cases h128 : (n : Int) < 128
        · right
          have hd : numS i acc ((n : Int) :: r) = (((acc + n % 128 * 128 ^ i : Nat) : Int), ((i + 1 : Nat) : Int), 0) := by rw [numS, if_neg h9, if_neg h0, if_pos h128]; rfl
          rw [← hnum, hd]
          have e8 : decide ((n : Int) < 128) = true := decide_eq_true h128
          simp only [e1, e2, e3, e4, Int.toNat_natCast, hxg, cond_true, cond_false, e7, e8, low7 n (by omega), hac, wi]
          by_cases e9 : i = 9
          · have hn1 : (n : Int) = 1 := Decidable.byContradiction fun k => h9 ⟨e9, k⟩
            have hn1' : n = 1 := by omega
            subst e9 hn1'
            rfl
          · have g1 : ((i : Int) == 9) = false := by simp; omega
            rw [g1]
            by_cases hn0 : n = 0
            · have hi0 : i = 0 := Decidable.byContradiction fun k => h0 ⟨by omega, by omega⟩
              subst hi0 hn0
              rfl
            · have g2 : ((n : Int) == 0) = false := by simp; omega
              rw [g2]
              rfl
        · left
          have e9 : i ≠ 9 := fun e => h9 ⟨e, by omega⟩
          have hd : numS i acc ((n : Int) :: r) = numS (i + 1) (acc + n % 128 * 128 ^ i) r := by rw [numS, if_neg h9, if_neg h0, if_neg h128]; rfl
          have e8 : decide ((n : Int) < 128) = false := decide_eq_false h128
          have g1 : ((i : Int) == 9) = false := by simp; omega
          have g2 : ((n : Int) == 0) = false := by simp; omega
          refine ⟨((((acc + n % 128 * 128 ^ i : Nat) : Int), ((i + 1 : Nat) : Int), ()), ()), ?_, ⟨i + 1, acc + n % 128 * 128 ^ i, pre ++ [(n : Int)], r, by omega, rfl, ?_, ?_, ?_, ?_⟩, ?_, rfl⟩
          · simp only [e1, e2, e3, e4, Int.toNat_natCast, hxg, cond_true, cond_false, e7, e8, g1, g2, low7 n (by omega), hac, wi, orK_inl]
          · rw [ha]; simp
          · simp [hp]
          · rw [Nat.pow_succ]
            generalize 128 ^ i = q at *
            omega
          · rw [← hd]; exact hnum
          · dsimp only
            omega
theorem p91_is {a : List Int} {c h e at' : Int} (he : e ≠ 0) : p91 fu ((a, c, 0, h, ()), e, at', ()) = some (((a, at', e, at', ()), ()), ()) := by
  unfold p91
  have g : (e != 0) = true := bne_iff_ne.2 he
  simp only [BEq.rfl, cond_true, g, orK_inl]
/-- The document's reader after a number. -/
def afterU (a : List Int) (c h : Int) (r : Int × Int × Int) : (((List Int × Int × Int × Int × Unit) × Unit) × Int) :=
  if r.2.2 = 0 then (((a, c + r.2.1, 0, h, ()), ()), r.1) else (((a, c, r.2.2, c, ()), ()), 0)
theorem p51_any {pre b : List Int} {h : Int} (hb : ∀ x ∈ b, 0 ≤ x ∧ x ≤ 255) (hn : (pre ++ b).length ≤ 140737488355328) (hfu : 10 < fu) :
    p51 fu ((pre ++ b, (pre.length : Int), 0, h, ()), ()) = some (afterU (pre ++ b) (pre.length : Int) h (numS 0 0 b)) := by
  unfold p51
  simp only [bne_self_eq_false, cond_false]
  have hlen : (pre ++ b).length = pre.length + b.length := List.length_append ..
  refine loopO_eq (fun (s : (Int × (Int × Unit)) × Unit) => ∃ (i acc : Nat) (q r : List Int), i ≤ 9 ∧ s = (((acc : Int), (i : Int), ()), ()) ∧ b = q ++ r ∧ q.length = i ∧ acc < 128 ^ i ∧ numS i acc r = numS 0 0 b) (fun s => 10 - s.1.2.1.toNat) (fun _ => afterU (pre ++ b) (pre.length : Int) h (numS 0 0 b)) ?_ fu _ ⟨0, 0, [], b, by omega, rfl, rfl, rfl, by simp, rfl⟩ (by dsimp only; omega)
  rintro _ ⟨i, acc, q, r, hi, rfl, ha, hp, hacc, hnum⟩
  have wi : IntKind.wrap .i64 ((i : Int) + 1) = ((i + 1 : Nat) : Int) := by rw [wi64 (by omega) (by omega)]; omega
  have hbl : b.length = i + r.length := by rw [ha, List.length_append, hp]
  have wc : IntKind.wrap .i64 ((pre.length : Int) + (i : Int)) = ((pre.length + i : Nat) : Int) := by rw [wi64 (by omega) (by omega)]; omega
  cases r with
  | nil =>
    right
    simp only [List.length_nil] at hbl
    have e1 : decide (((pre.length + i : Nat) : Int) ≥ ((pre ++ b).length : Int)) = true := by rw [hlen]; simp; omega
    have hd : numS i acc [] = (0, 0, 11) := rfl
    rw [← hnum, hd]
    simp only [wc, e1, cond_true]
    rw [p91_is (by decide)]
    rfl
  | cons x r =>
    simp only [List.length_cons] at hbl
    have hx := hb x (by rw [ha]; simp)
    obtain ⟨n, rfl⟩ := Int.eq_ofNat_of_zero_le hx.1
    have hxg : List.getD (pre ++ b) (pre.length + i) (dflt (.int .u8)) = (n : Int) := by
      rw [ha, List.getD_eq_getElem?_getD, List.getElem?_append_right (by omega), List.getElem?_append_right (by omega), hp, show pre.length + i - pre.length - i = 0 by omega]
      rfl
    have e1 : decide (((pre.length + i : Nat) : Int) ≥ ((pre ++ b).length : Int)) = false := by rw [hlen]; simp; omega
    have e3 : decide ((0 : Int) ≤ ((pre.length + i : Nat) : Int) ∧ ((pre.length + i : Nat) : Int) < ((pre ++ b).length : Int)) = true := by rw [hlen]; simp; omega
    have e4 : decide (pre.length + i < (pre ++ b).length) = true := by rw [hlen]; simp; omega
    have e7 : decide ((0 : Int) ≤ IntKind.wrap .i64 ((7 : Int) * (i : Int))) = true := by rw [wi64 (by omega) (by omega)]; simp; omega
    by_cases h9 : i = 9 ∧ (n : Int) ≠ 1
    · right
      obtain ⟨h9, hn1⟩ := h9
      have hd : numS i acc ((n : Int) :: r) = (0, 0, 12) := by rw [numS, if_pos ⟨h9, hn1⟩]
      rw [← hnum, hd]
      have g1 : ((i : Int) == 9) = true := by rw [h9]; rfl
      have g2 : ((n : Int) != 1) = true := bne_iff_ne.2 hn1
      simp only [wc, e1, e3, e4, Int.toNat_natCast, hxg, cond_true, cond_false, g1, g2, orK_inl]
      rw [p91_is (by decide)]
      rfl
    · have hok : (bif ((i : Int) == 9) then (some (.inl ((((n : Int) != 1), ()), ())) : Option (((Bool × Unit) × Unit) ⊕ ((Int × (Int × Unit)) × Unit ⊕ (((List Int × Int × Int × Int × Unit) × Unit) × Int)))) else some (.inl ((false, ()), ()))) = some (.inl ((false, ()), ())) := by
        by_cases e9 : i = 9
        · have hn1 : (n : Int) = 1 := Decidable.byContradiction fun k => h9 ⟨e9, k⟩
          rw [hn1, e9]
          rfl
        · have g1 : ((i : Int) == 9) = false := by simp; omega
          rw [g1]
          rfl
      have hpow : i = 9 → (128 : Nat) ^ i = 9223372036854775808 := fun e => by rw [e]
      have hpow8 : i ≤ 8 → (128 : Nat) ^ i ≤ 72057594037927936 := fun e => by
        have := Nat.pow_le_pow_right (n := 128) (by decide) e
        have e8 : (128 : Nat) ^ 8 = 72057594037927936 := by decide
        omega
      have hmul : n % 128 * 128 ^ i ≤ 127 * 128 ^ i := Nat.mul_le_mul_right _ (by omega)
      have hpos : 0 < 128 ^ i := Nat.pow_pos (by decide)
      have hbound : acc + n % 128 * 128 ^ i < 18446744073709551616 := by
        by_cases e9 : i = 9
        · have hn1 : (n : Int) = 1 := Decidable.byContradiction fun k => h9 ⟨e9, k⟩
          have hn1' : n = 1 := by omega
          have := hpow e9
          rw [hn1'] at hmul ⊢
          rw [this] at hacc ⊢
          omega
        · have := hpow8 (by omega)
          generalize 128 ^ i = q at *
          omega
      have hac : IntKind.wrap .u64 ((acc : Int) + (IntKind.wrap .u64 ((IntKind.wrap .u64 ((n % 128 : Nat) : Int)) * 2 ^ (min (Int.toNat (IntKind.wrap .i64 ((7 : Int) * (i : Int)))) (IntKind.bits .u64))))) = ((acc + n % 128 * 128 ^ i : Nat) : Int) := by
        have hy1 : n % 128 ≤ n % 128 * 128 ^ i := Nat.le_mul_of_pos_right _ hpos
        rw [pow7 i hi, wu64 (x := ((n % 128 : Nat) : Int)) (by omega) (by omega), ← Int.natCast_mul, wu64 (x := ((n % 128 * 128 ^ i : Nat) : Int)) (by omega) (by omega), ← Int.natCast_add, wu64 (by omega) (by omega)]
      by_cases h128 : (n : Int) < 128
      · right
        have e8 : decide ((n : Int) < 128) = true := decide_eq_true h128
        have wc2 : IntKind.wrap .i64 (((pre.length + i : Nat) : Int) + 1) = (pre.length : Int) + ((i + 1 : Nat) : Int) := by rw [wi64 (by omega) (by omega)]; omega
        simp only [wc, e1, e3, e4, Int.toNat_natCast, hxg, cond_true, cond_false, hok, orK_inl, e7, e8, low7 n (by omega), hac, wc2]
        by_cases h0 : (n : Int) = 0 ∧ 0 < i
        · have hd : numS i acc ((n : Int) :: r) = (0, 0, 12) := by rw [numS, if_neg h9, if_pos h0]
          have g2 : ((n : Int) == 0) = true := beq_iff_eq.2 h0.1
          have g3 : decide ((i : Int) > 0) = true := by simp; omega
          rw [← hnum, hd]
          simp only [g2, g3, cond_true, orK_inl]
          rw [p91_is (by decide)]
          rfl
        · have hd : numS i acc ((n : Int) :: r) = (((acc + n % 128 * 128 ^ i : Nat) : Int), ((i + 1 : Nat) : Int), 0) := by rw [numS, if_neg h9, if_neg h0, if_pos h128]; rfl
          have hz : (bif ((n : Int) == 0) then (some (.inl ((decide ((i : Int) > 0), ()), ())) : Option (((Bool × Unit) × Unit) ⊕ ((Int × (Int × Unit)) × Unit ⊕ (((List Int × Int × Int × Int × Unit) × Unit) × Int)))) else some (.inl ((false, ()), ()))) = some (.inl ((false, ()), ())) := by
            by_cases hn0 : (n : Int) = 0
            · have hi0 : i = 0 := Decidable.byContradiction fun k => h0 ⟨hn0, by omega⟩
              rw [hn0, hi0]
              rfl
            · have g2 : ((n : Int) == 0) = false := beq_eq_false_iff_ne.2 hn0
              rw [g2]
              rfl
          rw [← hnum, hd]
          simp only [hz, orK_inl, cond_false, inrO, Option.map_some]
          rfl
      · left
        have e9 : i ≠ 9 := fun e => h9 ⟨e, by omega⟩
        have h0 : ¬ ((n : Int) = 0 ∧ 0 < i) := by omega
        have hd : numS i acc ((n : Int) :: r) = numS (i + 1) (acc + n % 128 * 128 ^ i) r := by rw [numS, if_neg h9, if_neg h0, if_neg h128]; rfl
        have e8 : decide ((n : Int) < 128) = false := decide_eq_false h128
        refine ⟨((((acc + n % 128 * 128 ^ i : Nat) : Int), ((i + 1 : Nat) : Int), ()), ()), ?_, ⟨i + 1, acc + n % 128 * 128 ^ i, q ++ [(n : Int)], r, by omega, rfl, ?_, ?_, ?_, ?_⟩, ?_, rfl⟩
        · simp only [wc, e1, e3, e4, Int.toNat_natCast, hxg, cond_true, cond_false, hok, orK_inl, e7, e8, low7 n (by omega), hac, wi]
        · rw [ha]; simp
        · simp [hp]
        · rw [Nat.pow_succ]
          generalize 128 ^ i = q at *
          omega
        · rw [← hd]; exact hnum
        · dsimp only
          omega
inductive RR (α : Type) where
  | ok (c : Nat) (v : α)
  | er (e q : Int)
def RR.bind {α β : Type} : RR α → (Nat → α → RR β) → RR β
  | .ok c v, k => k c v
  | .er e q, _ => .er e q
def uS (a : List Int) (c : Nat) : RR Int :=
  if (numS 0 0 (a.drop c)).2.2 = 0 then .ok (c + (numS 0 0 (a.drop c)).2.1.toNat) (numS 0 0 (a.drop c)).1 else .er (numS 0 0 (a.drop c)).2.2 c
def unzz (v : Int) : Int := if v % 2 = 1 then -(v / 2) - 1 else v / 2
def iS (a : List Int) (c : Nat) : RR Int := (uS a c).bind fun c v => .ok c (unzz v)
def cntS (a : List Int) (m : Int) (c : Nat) : RR Int :=
  (uS a c).bind fun c1 v => if m < 0 ∨ v > m then .er 13 (c : Int) else if v > ((a.length - c1 : Nat) : Int) then .er 11 (c : Int) else .ok c1 v
def bytS (a : List Int) (m : Int) (c : Nat) : RR (List Int) := (cntS a m c).bind fun c1 n => .ok (c1 + n.toNat) ((a.drop c1).take n.toNat)
def strS (a : List Int) (m : Int) (c : Nat) : RR ByteArray := (bytS a m c).bind fun c1 l => .ok c1 (strOfNums l)
def boolS (a : List Int) (c : Nat) : RR Bool := if a.length ≤ c then .er 11 (c : Int) else if a.getD c 0 > 1 then .er 16 (c : Int) else .ok (c + 1) (a.getD c 0 == 1)
def nodS (a : List Int) : Nat → List Int → Nat → RR (List Int)
  | 0, l, c => .ok c l
  | n + 1, l, c => (iS a c).bind fun c1 x => nodS a n (l ++ [x]) c1
def ndsS (a : List Int) (c : Nat) : RR (List Int) := (cntS a 7 c).bind fun c1 n => nodS a n.toNat [] c1
def confS (a : List Int) (c : Nat) : RR (List Int × List Int × Unit) := (ndsS a c).bind fun c1 l => (ndsS a c1).bind fun c2 m => .ok c2 (l, m, ())
def kindS (a : List Int) (c : Nat) : RR Int := (iS a c).bind fun c1 k => if k < 1 ∨ k > 3 then .er 16 (c : Int) else .ok c1 k
def entS (a : List Int) (c : Nat) : RR (Int × Int × Int × List Int × List Int × List Int × Unit) :=
  (uS a c).bind fun c i => (uS a c).bind fun c t => (kindS a c).bind fun c k => (bytS a 262144 c).bind fun c d => (confS a c).bind fun c f => .ok c (i, t, k, d, f)
def snapS (a : List Int) (c : Nat) : RR (Int × Int × List Int × List Int × List Int × Unit) :=
  (uS a c).bind fun c i => (uS a c).bind fun c t => (confS a c).bind fun c f => (bytS a 262144 c).bind fun c d => .ok c (i, t, f.1, f.2.1, d, ())
def rngS (a : List Int) (c : Nat) : RR (ByteArray × ByteArray × Unit) := (strS a 32 c).bind fun c l => (strS a 32 c).bind fun c h => .ok c (l, h, ())
def recS (a : List Int) (c : Nat) : RR (Int × ByteArray × List Int × Int × Int × Unit) :=
  (uS a c).bind fun c o => (strS a 32 c).bind fun c k => (bytS a 256 c).bind fun c v => (uS a c).bind fun c p => (uS a c).bind fun c s => .ok c (o, k, v, p, s, ())

abbrev ER := Bool × ((Int × (Int × Unit)) × Unit)
abbrev noR : ER := (false, dflt (.pair (.int .i64) (.pair (.int .i64) .unit)), ())
abbrev erR (e c : Int) : ER := (true, (e, c, ()), dflt .unit)
abbrev PT := List Int × Int × ER × Unit
abbrev DT := List Int × Int × Int × Int × Unit
/-- The program's answer, and the place. -/
def PR {α : Type} (a : List Int) (d : α) (r : RR α) (P : α → Prop) (o : Option ((PT × Unit × Unit) × α)) : Prop :=
  match r with
  | .ok c v => c ≤ a.length ∧ P v ∧ o = some (((a, (c : Int), noR, ()), (), ()), v)
  | .er e q => e ≠ 0 ∧ ∃ c, o = some (((a, c, erR e q, ()), (), ()), d)
/-- The document's. -/
def DR {α : Type} (a : List Int) (d : α) (r : RR α) (P : α → Prop) (o : Option ((DT × Unit) × α)) : Prop :=
  match r with
  | .ok c v => c ≤ a.length ∧ P v ∧ o = some (((a, (c : Int), 0, 0, ()), ()), v)
  | .er e q => e ≠ 0 ∧ ∃ c, o = some (((a, c, e, q, ()), ()), d)
structure okA (fu : Nat) (a : List Int) : Prop where
  hb : ∀ x ∈ a, 0 ≤ x ∧ x ≤ 255
  hn : a.length ≤ 140737488355328
  hfu : 10 < fu
theorem okA.dr {fu : Nat} {a : List Int} (h : okA fu a) (c : Nat) : ∀ x ∈ a.drop c, 0 ≤ x ∧ x ≤ 255 := fun x hx => h.hb x (List.mem_of_mem_drop hx)
theorem numS_facts : ∀ (r : List Int) (i acc : Nat), (∃ v k : Nat, numS i acc r = ((v : Int), (k : Int), 0) ∧ i < k ∧ k ≤ i + r.length) ∨ (∃ e : Int, e ≠ 0 ∧ numS i acc r = (0, 0, e))
  | [], _, _ => .inr ⟨11, by decide, rfl⟩
  | x :: r, i, acc => by
    rw [numS]
    split
    · exact .inr ⟨12, by decide, rfl⟩
    · split
      · exact .inr ⟨12, by decide, rfl⟩
      · split
        · exact .inl ⟨_, _, rfl, by omega, by simp only [List.length_cons]; omega⟩
        · rcases numS_facts r (i + 1) (acc + x.toNat % 128 * 128 ^ i) with ⟨v, k, h1, h2, h3⟩ | h
          · exact .inl ⟨v, k, h1, by omega, by simp only [List.length_cons]; omega⟩
          · exact .inr h
/-- A number that is read is one. -/
theorem numS_u : ∀ (r : List Int) (i acc : Nat) (v k : Int), (∀ x ∈ r, 0 ≤ x ∧ x ≤ 255) → i ≤ 9 → acc < 128 ^ i → numS i acc r = (v, k, 0) → isU v
  | [], i, acc, v, k, _, _, _, h => by simp [numS] at h
  | x :: r, i, acc, v, k, hb, hi, ha, h => by
    have hx := hb x (by simp)
    obtain ⟨n, rfl⟩ := Int.eq_ofNat_of_zero_le hx.1
    have hpow : i = 9 → (128 : Nat) ^ i = 9223372036854775808 := fun e => by rw [e]
    have hpow8 : i ≤ 8 → (128 : Nat) ^ i ≤ 72057594037927936 := fun e => by
      have := Nat.pow_le_pow_right (n := 128) (by decide) e
      have e8 : (128 : Nat) ^ 8 = 72057594037927936 := by decide
      omega
    have hmul : n % 128 * 128 ^ i ≤ 127 * 128 ^ i := Nat.mul_le_mul_right _ (by omega)
    rw [numS] at h
    split at h
    · simp at h
    · rename_i h9
      split at h
      · simp at h
      · split at h
        · simp only [Prod.mk.injEq, Int.toNat_natCast, and_true] at h
          rw [← h.1]
          unfold isU
          by_cases e9 : i = 9
          · have hn1 : (n : Int) = 1 := Decidable.byContradiction fun k => h9 ⟨e9, k⟩
            have hn1' : n = 1 := by omega
            have := hpow e9
            rw [hn1'] at hmul ⊢
            rw [this] at ha ⊢
            omega
          · have := hpow8 (by omega)
            generalize 128 ^ i = q at *
            omega
        · rename_i h128
          have e9 : i ≠ 9 := fun e => h9 ⟨e, by omega⟩
          refine numS_u r (i + 1) _ v k (fun y hy => hb y (by simp [hy])) (by omega) ?_ h
          rw [Nat.pow_succ, Int.toNat_natCast]
          generalize 128 ^ i = q at *
          omega
/-- What a number's reading gives. -/
theorem uS_cases {fu : Nat} {a : List Int} {c : Nat} (h : okA fu a) (hc : c ≤ a.length) :
    (∃ v k : Nat, numS 0 0 (a.drop c) = ((v : Int), (k : Int), 0) ∧ uS a c = .ok (c + k) (v : Int) ∧ c + k ≤ a.length ∧ isU (v : Int)) ∨ (∃ e : Int, e ≠ 0 ∧ numS 0 0 (a.drop c) = (0, 0, e) ∧ uS a c = .er e c) := by
  rcases numS_facts (a.drop c) 0 0 with ⟨v, k, hnum, hk0, hk⟩ | ⟨e, he, hnum⟩
  · refine .inl ⟨v, k, hnum, ?_, ?_, numS_u _ 0 0 _ _ (h.dr c) (by omega) (by decide) hnum⟩
    · unfold uS
      rw [hnum, if_pos rfl]
      rfl
    · rw [List.length_drop] at hk; omega
  · refine .inr ⟨e, he, hnum, ?_⟩
    unfold uS
    rw [hnum, if_neg he]
theorem unzz_i {v : Int} (h : isU v) : isI (unzz v) := by
  obtain ⟨h1, h2⟩ := h
  unfold unzz isI
  split <;> omega
theorem xor1 (n : Nat) (h : n < 18446744073709551616) : IntKind.wrap .i64 (IntKind.wrap .u64 ((BitVec.ofInt (IntKind.bits .u64) (Int.fdiv (n : Int) (2 ^ (min (Int.toNat (1 : Int)) (IntKind.bits .u64)))) ^^^ BitVec.ofInt (IntKind.bits .u64) (IntKind.wrap .u64 (0 - (IntKind.wrap .u64 ((BitVec.ofInt (IntKind.bits .u64) (n : Int) &&& BitVec.ofInt (IntKind.bits .u64) (1 : Int)).toNat : Int))))).toNat : Int)) = unzz (n : Int) := by
  have e1 : (BitVec.ofInt (IntKind.bits .u64) (n : Int) &&& BitVec.ofInt (IntKind.bits .u64) (1 : Int)).toNat = n % 2 := by
    refine (and64 n 1).trans ?_
    rw [BitVec.toNat_and, BitVec.toNat_ofNat, BitVec.toNat_ofNat, Nat.mod_eq_of_lt h]
    exact Nat.and_two_pow_sub_one_eq_mod n 1
  have e2 : Int.fdiv (n : Int) (2 ^ (min (Int.toNat (1 : Int)) (IntKind.bits .u64))) = ((n / 2 : Nat) : Int) := by
    show Int.fdiv (n : Int) 2 = _
    rw [Int.fdiv_eq_ediv_of_nonneg _ (by decide)]
    rfl
  have em : ∀ x : Int, IntKind.wrap .u64 x = x % 18446744073709551616 := fun x => rfl
  rw [e1, e2, wu64 (x := ((n % 2 : Nat) : Int)) (by omega) (by omega)]
  unfold unzz
  by_cases hodd : n % 2 = 1
  · have d1 : IntKind.wrap .u64 (0 - ((n % 2 : Nat) : Int)) = ((18446744073709551615 : Nat) : Int) := by rw [em]; omega
    rw [d1, xor64, xorAll _ (by omega), if_pos (by omega), wu64 (by omega) (by omega)]
    have hm : IntKind.wrap .i64 ((18446744073709551615 - n / 2 : Nat) : Int) = -((n : Int) / 2) - 1 := by
      have e1 : (2 : Int) ^ IntKind.bits .i64 = 18446744073709551616 := rfl
      have e2 : (2 : Int) ^ (IntKind.bits .i64 - 1) = 9223372036854775808 := rfl
      unfold IntKind.wrap
      simp only [e1, e2]
      split
      · omega
      · rename_i h
        simp [IntKind.signed] at h
        omega
    rw [hm]
  · have d1 : IntKind.wrap .u64 (0 - ((n % 2 : Nat) : Int)) = ((0 : Nat) : Int) := by rw [em]; omega
    rw [d1, xor64, show BitVec.ofNat 64 0 = 0#64 from rfl, BitVec.xor_zero, BitVec.toNat_ofNat, Nat.mod_eq_of_lt (by omega), wu64 (by omega) (by omega), wi64 (by omega) (by omega), if_neg (by omega)]
    omega
theorem len8 {n : Nat} (h : n ≤ 16) : (n ≤ maxLen ∧ n * 8 ≤ 140737488355328) := ⟨Nat.le_trans h (by decide), by omega⟩
theorem sub_all {a : List Int} {c : Nat} (_ : c ≤ a.length) : sub' a c (a.length - c) = a.drop c := by
  rw [sub'_eq, List.take_of_length_le (by rw [List.length_drop]; omega)]
theorem p43_2_er {a : List Int} {c e q j k : Int} : p43_2 fu ((a, c, erR e q, ()), j, k, ()) = some (((a, c, erR e q, ()), (), ()), ()) := by
  unfold p43_2
  simp only [cond_true, eqL_t]
theorem p43_2_ok {a : List Int} {c j k : Int} (hk : k ≠ 0) : p43_2 fu ((a, c, noR, ()), j, k, ()) = some (((a, c, erR k j, ()), (), ()), ()) := by
  have g : (k != 0) = true := bne_iff_ne.2 hk
  unfold p43_2
  simp only [cond_true, cond_false, eqL_t, g]
theorem p43_2_no {a : List Int} {c j : Int} : p43_2 fu ((a, c, noR, ()), j, 0, ()) = some (((a, c, noR, ()), (), ()), ()) := by
  unfold p43_2
  simp only [cond_true, cond_false, eqL_t, bne_self_eq_false]
theorem p41R_ok {a : List Int} {c : Int} : p41 fu ((a, c, (), ()), 0, ()) = some (((a, c, noR, ()), (), ()), ()) := by
  unfold p41 p43
  simp only [bne_self_eq_false, cond_false, Option.bind_some, eqL_t, cond_true]
theorem p41R_er {a : List Int} {c e : Int} (he : e ≠ 0) : p41 fu ((a, c, (), ()), e, ()) = some (((a, c, erR e c, ()), (), ()), ()) := by
  have g : (e != 0) = true := bne_iff_ne.2 he
  unfold p41 p43
  simp only [g, cond_true, Option.bind_some, eqL_t]
theorem p15_er {a : List Int} {c e q : Int} : p15_2 fu ((a, c, erR e q, ()), ()) = some (((a, c, erR e q, ()), (), ()), 0) := by
  unfold p15_2
  simp only [cond_true, eqL_t]
theorem p15P {a : List Int} {c : Nat} (h : okA fu a) (hc : c ≤ a.length) : PR a 0 (uS a c) isU (p15_2 fu ((a, (c : Int), noR, ()), ())) := by
  have e1 : decide ((0 : Int) ≤ (c : Int)) = true := by simp
  have e2 : decide (c ≤ a.length ∧ 0 + a.length ≤ a.length) = true := by simp; omega
  have e3 : decide (c + (a.length - c) ≤ a.length) = true := by simp; omega
  have hl := h.hn
  rcases uS_cases h hc with ⟨v, k, hnum, hu, hk, hv⟩ | ⟨e, he, hnum, hu⟩
  · have hw : IntKind.wrap .i64 ((c : Int) + (k : Int)) = ((c + k : Nat) : Int) := by rw [wi64 (by omega) (by omega)]; omega
    rw [hu]
    refine ⟨hk, hv, ?_⟩
    unfold p15_2
    simp only [cond_false, e1, Int.toNat_natCast, e2, e3, cond_true, eqL_t]
    rw [sub_all hc, p40_any (h.dr c) (by rw [List.length_drop]; omega) h.hfu, hnum]
    simp only [Option.bind_some]
    rw [p41R_ok]
    simp only [Option.bind_some, cond_false, hw]
  · have hw : IntKind.wrap .i64 ((c : Int) + 0) = (c : Int) := by rw [wi64 (by omega) (by omega)]; omega
    rw [hu]
    refine ⟨he, c, ?_⟩
    unfold p15_2
    simp only [cond_false, e1, Int.toNat_natCast, e2, e3, cond_true, eqL_t]
    rw [sub_all hc, p40_any (h.dr c) (by rw [List.length_drop]; omega) h.hfu, hnum]
    simp only [Option.bind_some]
    rw [p41R_er he]
    simp only [Option.bind_some, cond_true, hw]
theorem xor0 : IntKind.wrap .i64 (IntKind.wrap .u64 ((BitVec.ofInt (IntKind.bits .u64) (Int.fdiv (0 : Int) (2 ^ (min (Int.toNat (1 : Int)) (IntKind.bits .u64)))) ^^^ BitVec.ofInt (IntKind.bits .u64) (IntKind.wrap .u64 (0 - (IntKind.wrap .u64 ((BitVec.ofInt (IntKind.bits .u64) (0 : Int) &&& BitVec.ofInt (IntKind.bits .u64) (1 : Int)).toNat : Int))))).toNat : Int)) = 0 := xor1 0 (by decide)
theorem p48_er {a : List Int} {c e q : Int} : p48_2 fu ((a, c, erR e q, ()), ()) = some (((a, c, erR e q, ()), (), ()), 0) := by
  unfold p48_2
  simp only [cond_true]
  rw [p15_er]
  simp only [Option.bind_some, cond_true, eqL_t]
  rw [xor0]
theorem p48P {a : List Int} {c : Nat} (h : okA fu a) (hc : c ≤ a.length) : PR a 0 (iS a c) isI (p48_2 fu ((a, (c : Int), noR, ()), ())) := by
  have hp := p15P h hc
  unfold iS p48_2
  simp only [cond_false]
  rcases hu : uS a c with ⟨c1, v⟩ | ⟨e, q⟩
  · rw [hu] at hp
    obtain ⟨h1, h2, h3⟩ := hp
    rw [h3]
    obtain ⟨n, rfl⟩ := Int.eq_ofNat_of_zero_le h2.1
    simp only [Option.bind_some, cond_false, eqL_t, cond_true, RR.bind]
    rw [xor1 n (by have := h2.2; omega)]
    exact ⟨h1, unzz_i h2, rfl⟩
  · rw [hu] at hp
    obtain ⟨h1, c2, h3⟩ := hp
    rw [h3]
    simp only [Option.bind_some, eqL_t, cond_true, RR.bind]
    rw [xor0]
    exact ⟨h1, c2, rfl⟩
theorem p44_er {a : List Int} {c e q j : Int} : p44_2 fu ((a, c, erR e q, ()), j, ()) = some (((a, c, erR e q, ()), (), ()), 0) := by
  unfold p44_2
  simp only [cond_true, eqL_t]
theorem p44_ok {a : List Int} {c j : Int} : p44_2 fu ((a, c, noR, ()), j, ()) = some (((a, c, noR, ()), (), ()), j) := by
  unfold p44_2
  simp only [cond_true, cond_false, eqL_t]
theorem p17_er {a : List Int} {c e q j : Int} : p17_2 fu ((a, c, erR e q, ()), j, ()) = some (((a, c, erR e q, ()), (), ()), 0) := by
  unfold p17_2
  simp only [cond_true]
  rw [p15_er]
  simp only [Option.bind_some, cond_true, eqL_t, p43_2_er, p44_er]
  rcases Bool.eq_false_or_eq_true (decide (j < 0)) with g | g <;> rcases Bool.eq_false_or_eq_true (decide ((0 : Int) > IntKind.wrap .u64 j)) with g2 | g2 <;> simp only [g, g2, cond_true, cond_false, orK_inl, Bool.cond_self]
theorem p17P {a : List Int} {c : Nat} {j : Int} (h : okA fu a) (hc : c ≤ a.length) (hj : isI j) : PR a 0 (cntS a j c) (fun n => ∃ k : Nat, n = (k : Int) ∧ k ≤ a.length ∧ ∀ c1 v, uS a c = .ok c1 v → c1 + k ≤ a.length ∧ n ≤ j) (p17_2 fu ((a, (c : Int), noR, ()), j, ())) := by
  have hp := p15P h hc
  have hl := h.hn
  obtain ⟨hj1, hj2⟩ := hj
  unfold cntS p17_2
  simp only [cond_false]
  rcases hu : uS a c with ⟨c1, v⟩ | ⟨e, q⟩
  · rw [hu] at hp
    obtain ⟨h1, ⟨h2, h2'⟩, h3⟩ := hp
    rw [h3]
    simp only [Option.bind_some, cond_false, RR.bind]
    have hw2 : IntKind.wrap .u64 (IntKind.wrap .i64 ((a.length : Int) - (c1 : Int))) = ((a.length - c1 : Nat) : Int) := by rw [wi64 (by omega) (by omega), wu64 (by omega) (by omega)]; omega
    by_cases hbad : j < 0 ∨ v > j
    · rw [if_pos hbad]
      refine ⟨by decide, c1, ?_⟩
      by_cases g : j < 0
      · simp only [decide_eq_true g, cond_true, eqL_t, orK_inl, p43_2_ok (show (13 : Int) ≠ 0 by decide), Option.bind_some, p43_2_er, p44_er, Bool.cond_self]
      · have g2 : v > IntKind.wrap .u64 j := by rw [wu64 (by omega) (by omega)]; omega
        simp only [decide_eq_false g, decide_eq_true g2, cond_true, eqL_t, orK_inl, p43_2_ok (show (13 : Int) ≠ 0 by decide), Option.bind_some, p43_2_er, p44_er, Bool.cond_self]
    · rw [if_neg hbad]
      have g : ¬ j < 0 := fun k => hbad (.inl k)
      have g2 : ¬ v > IntKind.wrap .u64 j := by rw [wu64 (by omega) (by omega)]; omega
      simp only [decide_eq_false g, decide_eq_false g2, cond_true, cond_false, eqL_t, orK_inl, hw2]
      by_cases g3 : v > ((a.length - c1 : Nat) : Int)
      · rw [if_pos g3]
        refine ⟨by decide, c1, ?_⟩
        simp only [decide_eq_true g3, cond_true, orK_inl, p43_2_ok (show (11 : Int) ≠ 0 by decide), Option.bind_some, p44_er]
      · rw [if_neg g3]
        have hwv : IntKind.wrap .i64 v = v := wi64 (by omega) (by omega)
        refine ⟨h1, ⟨v.toNat, by omega, by omega, fun c1' v' e => ?_⟩, ?_⟩
        · injection e with e1 e2
          subst e1 e2
          omega
        · simp only [decide_eq_false g3, cond_false, orK_inl, p44_ok, Option.bind_some, hwv]
  · rw [hu] at hp
    obtain ⟨h1, c2, h3⟩ := hp
    rw [h3]
    simp only [Option.bind_some, eqL_t, cond_true, RR.bind, p43_2_er, p44_er]
    refine ⟨h1, c2, ?_⟩
    rcases Bool.eq_false_or_eq_true (decide (j < 0)) with g | g <;> rcases Bool.eq_false_or_eq_true (decide ((0 : Int) > IntKind.wrap .u64 j)) with g2 | g2 <;> simp only [g, g2, cond_true, cond_false, orK_inl, Bool.cond_self]
theorem sl_eq (l : List Int) (i j : Nat) : slice' l i (some j) = (l.drop i).take (j - i) := by
  cases i <;> simp [slice']
theorem p45_er {a : List Int} {c e q j : Int} : p45_2 fu ((a, c, erR e q, ()), j, ()) = some (((a, c, erR e q, ()), (), ()), []) := by
  unfold p45_2
  simp only [cond_true, eqL_t]
theorem p45_short {a : List Int} {c j : Nat} (hc : c ≤ a.length) (hn : a.length ≤ 140737488355328) (h : a.length < c + j) : p45_2 fu ((a, (c : Int), noR, ()), (j : Int), ()) = some (((a, (c : Int), erR 11 (c : Int), ()), (), ()), []) := by
  have e1 : decide ((j : Int) > IntKind.wrap .i64 ((a.length : Int) - (c : Int))) = true := by rw [wi64 (by omega) (by omega)]; simp; omega
  unfold p45_2
  simp only [cond_false, e1, cond_true, eqL_t]
  rw [p41R_er (by decide)]
  simp only [Option.bind_some, cond_true]
theorem p45_ok {a : List Int} {c j : Nat} (hn : a.length ≤ 140737488355328) (h : c + j ≤ a.length) : p45_2 fu ((a, (c : Int), noR, ()), (j : Int), ()) = some (((a, ((c + j : Nat) : Int), noR, ()), (), ()), (a.drop c).take j) := by
  have e1 : decide ((j : Int) > IntKind.wrap .i64 ((a.length : Int) - (c : Int))) = false := by rw [wi64 (by omega) (by omega)]; simp; omega
  have w1 : IntKind.wrap .i64 ((c : Int) + (j : Int)) = ((c + j : Nat) : Int) := by rw [wi64 (by omega) (by omega)]; omega
  have w2 : IntKind.wrap .i64 (((c + j : Nat) : Int) - (j : Int)) = (c : Int) := by rw [wi64 (by omega) (by omega)]; omega
  have e2 : decide ((0 : Int) ≤ (c : Int)) = true := by simp
  have e3 : decide ((0 : Int) ≤ ((c + j : Nat) : Int)) = true := by simp; omega
  have e4 : decide (c ≤ c + j ∧ 0 + (c + j) ≤ a.length) = true := by simp; omega
  have e6 : decide (c + (c + j - c) ≤ a.length) = true := by simp; omega
  have es : sub' a c (c + j - c) = (a.drop c).take j := by rw [sub'_eq, Nat.add_sub_cancel_left]
  have hl : ((a.drop c).take j).length ≤ 140737488355328 := by rw [List.length_take, List.length_drop]; omega
  have e5 : (((a.drop c).take j).length ≤ maxLen ∧ ((a.drop c).take j).length * 1 ≤ 140737488355328) = True := eq_true ⟨Nat.le_trans hl (by decide), by omega⟩
  unfold p45_2
  simp only [cond_false, e1, w1, w2, e2, e3, Int.toNat_natCast, e4, e6, es, e5, decide_true, eqL_t, cond_true]
theorem p67_er {a : List Int} {c e q j : Int} : p67_2 fu ((a, c, erR e q, ()), j, ()) = some (((a, c, erR e q, ()), (), ()), []) := by
  unfold p67_2
  simp only [cond_true, p17_er, p45_er, Option.bind_some, eqL_t]
def isBs (a l : List Int) : Prop := l.length ≤ a.length ∧ ∀ x ∈ l, 0 ≤ x ∧ x ≤ 255
theorem p67P {a : List Int} {c : Nat} {j : Int} (h : okA fu a) (hc : c ≤ a.length) (hj : isI j) : PR a [] (bytS a j c) (isBs a) (p67_2 fu ((a, (c : Int), noR, ()), j, ())) := by
  have hp := p17P (fu := fu) h hc hj
  unfold bytS p67_2
  simp only [cond_false]
  rcases hu : cntS a j c with ⟨c1, v⟩ | ⟨e, q⟩
  · rw [hu] at hp
    obtain ⟨h1, ⟨k, rfl, h2, h2'⟩, h3⟩ := hp
    rw [h3]
    simp only [Option.bind_some, cond_false, RR.bind, Int.toNat_natCast]
    have hck : c1 + k ≤ a.length := by
      rcases hu1 : uS a c with ⟨c1', v'⟩ | ⟨e, q⟩
      · have h4 := h2' _ _ hu1
        unfold cntS at hu
        rw [hu1] at hu
        simp only [RR.bind] at hu
        split at hu
        · cases hu
        · split at hu
          · cases hu
          · injection hu with hu2 hu3
            omega
      · unfold cntS at hu
        rw [hu1] at hu
        cases hu
    rw [p45_ok h.hn hck]
    simp only [Option.bind_some, cond_false, eqL_t, cond_true]
    exact ⟨hck, ⟨by rw [List.length_take, List.length_drop]; omega, fun x hx => h.hb x (List.mem_of_mem_drop (List.mem_of_mem_take hx))⟩, rfl⟩
  · rw [hu] at hp
    obtain ⟨h1, c2, h3⟩ := hp
    rw [h3]
    simp only [Option.bind_some, eqL_t, cond_true, RR.bind, p45_er]
    exact ⟨h1, c2, rfl⟩
theorem p96_er {a : List Int} {c e q : Int} (hfu : 10 < fu) : p96_2 fu ((a, c, erR e q, ()), ()) = some (((a, c, erR e q, ()), (), ()), []) := by
  obtain ⟨f, rfl⟩ : ∃ f, fu = f + 1 := ⟨fu - 1, by omega⟩
  unfold p96_2
  simp only [cond_true, p17_er, Option.bind_some]
  simp only [loopO, cond_true, eqL_t, Int.lt_irrefl, decide_false, cond_false, inrO, Option.map_some]
/-- Behind an error nothing more is read, and in the end nothing is told. -/
theorem nodS_len : ∀ (n : Nat) (a l : List Int) (c c' : Nat) (l' : List Int), nodS a n l c = .ok c' l' → l'.length = l.length + n
  | 0, a, l, c, c', l', h => by
    injection h with _ h2
    rw [← h2]
    rfl
  | n + 1, a, l, c, c', l', h => by
    rw [nodS] at h
    rcases hu : iS a c with ⟨c1, v⟩ | ⟨e, q⟩
    · rw [hu] at h
      have := nodS_len n a _ _ _ _ h
      rw [this, List.length_append, List.length_singleton]
      omega
    · rw [hu] at h
      cases h
/-- The rounds of a list's reading, told by what is left. -/
def NodI (a : List Int) (m : Nat) (s : (List Int × Int × Unit) × (PT × Unit)) : Prop :=
  ∃ (k : Nat) (l : List Int), k ≤ m ∧ l.length = k ∧ ((∃ c : Nat, c ≤ a.length ∧ (∀ x ∈ l, isI x) ∧ s = ((l, (k : Int), ()), ((a, (c : Int), noR, ()), ()))) ∨ (∃ c e q : Int, e ≠ 0 ∧ s = ((l, (k : Int), ()), ((a, c, erR e q, ()), ()))))
/-- The program's answer, and the place; behind an error whatever it is. -/
def PX {α : Type} (a : List Int) (r : RR α) (P : α → Prop) (o : Option ((PT × Unit × Unit) × α)) : Prop :=
  match r with
  | .ok c v => c ≤ a.length ∧ P v ∧ o = some (((a, (c : Int), noR, ()), (), ()), v)
  | .er e q => e ≠ 0 ∧ ∃ c d, o = some (((a, c, erR e q, ()), (), ()), d)
theorem loop_G {S R : Type} {f : S → Option (S ⊕ R)} {n : Nat} {s : S} (G : Option R → Prop) (I : S → Prop) (m : S → Nat) (hs : I s) (hn : m s < n) (h : ∀ s, I s → ∃ o, f s = some o ∧ LStep I m (fun r => G (some r)) s o) : G (loopO n f s) := by
  obtain ⟨r, h1, h2⟩ := loopO_rule I m _ h n s hs hn
  rw [h1]
  exact h2
theorem cntS_ok {a : List Int} {m : Int} {c c1 : Nat} {v : Int} (h : cntS a m c = .ok c1 v) : v ≤ m ∧ v ≤ ((a.length - c1 : Nat) : Int) ∧ ∃ k, uS a c = .ok c1 k := by
  unfold cntS at h
  rcases hu : uS a c with ⟨c1', v'⟩ | ⟨e, q⟩
  · rw [hu] at h
    simp only [RR.bind] at h
    split at h
    · cases h
    · split at h
      · cases h
      · injection h with h1 h2
        subst h1 h2
        exact ⟨by omega, by omega, _, rfl⟩
  · rw [hu] at h
    cases h
def okL (l : List Int) : Prop := l.length ≤ 7 ∧ ∀ x ∈ l, isI x
def NI (a : List Int) (m : Nat) (r : RR (List Int)) (s : (List Int × Int × Unit) × (PT × Unit)) : Prop :=
  ∃ (k : Nat) (l : List Int), k ≤ m ∧ l.length = k ∧ (∀ x ∈ l, isI x) ∧ ((∃ c : Nat, c ≤ a.length ∧ nodS a (m - k) l c = r ∧ s = ((l, (k : Int), ()), ((a, (c : Int), noR, ()), ()))) ∨ (∃ c e q : Int, e ≠ 0 ∧ r = .er e q ∧ s = ((l, (k : Int), ()), ((a, c, erR e q, ()), ()))))
theorem p96P {a : List Int} {c : Nat} (h : okA fu a) (hc : c ≤ a.length) : PX a (ndsS a c) okL (p96_2 fu ((a, (c : Int), noR, ()), ())) := by
  have hp := p17P (fu := fu) (j := 7) h hc (by unfold isI; omega)
  have hfu := h.hfu
  unfold ndsS p96_2
  simp only [cond_false]
  rcases hu : cntS a 7 c with ⟨c1, v⟩ | ⟨e, q⟩
  · rw [hu] at hp
    obtain ⟨h1, ⟨m, rfl, _⟩, h3⟩ := hp
    have hm7 := (cntS_ok hu).1
    rw [h3]
    simp only [Option.bind_some, cond_false, RR.bind, Int.toNat_natCast, eqL_t, cond_true]
    generalize hR : nodS a m [] c1 = R
    refine loop_G (G := fun o => PX a R okL o) (NI a m R) (fun s => m - s.1.2.1.toNat) ⟨0, [], Nat.zero_le _, rfl, fun x hx => by simp at hx, .inl ⟨c1, h1, hR, rfl⟩⟩ (Nat.lt_of_le_of_lt (Nat.sub_le m _) (show m < fu by omega)) ?_
    rintro _ ⟨k, l, hk, hl, hi, ⟨c, hc, hr, rfl⟩ | ⟨c, e, q, he, hr, rfl⟩⟩
    · by_cases hlt : k < m
      · have e1 : decide ((k : Int) < (m : Int)) = true := by simpa using hlt
        have hw : IntKind.wrap .i64 ((k : Int) + 1) = ((k + 1 : Nat) : Int) := by rw [wi64 (by omega) (by omega)]; omega
        have h8 := len8 (n := k + 1) (by omega)
        have hq := p48P (fu := fu) h hc
        rw [show m - k = (m - (k + 1)) + 1 by omega, nodS] at hr
        rcases hu2 : iS a c with ⟨c2, x⟩ | ⟨e, q⟩
        · rw [hu2] at hq hr
          obtain ⟨g1, g2, g3⟩ := hq
          refine ⟨.inl (((l ++ [x]), ((k + 1 : Nat) : Int), ()), ((a, (c2 : Int), noR, ()), ())), ?_, ⟨k + 1, l ++ [x], hlt, by simp [hl], ?_, .inl ⟨c2, g1, hr, rfl⟩⟩, by dsimp only; omega⟩
          · simp only [cond_false, e1, cond_true, g3, Option.bind_some, decide_true, List.length_singleton, hl, h8, and_self, hw]
          · intro y hy
            rcases List.mem_append.1 hy with h | h
            · exact hi y h
            · rw [List.mem_singleton.1 h]; exact g2
        · rw [hu2] at hq hr
          obtain ⟨g1, c2, g3⟩ := hq
          refine ⟨.inl (((l ++ [0]), ((k + 1 : Nat) : Int), ()), ((a, c2, erR e q, ()), ())), ?_, ⟨k + 1, l ++ [0], hlt, by simp [hl], ?_, .inr ⟨c2, e, q, g1, hr.symm, rfl⟩⟩, by dsimp only; omega⟩
          · simp only [cond_false, e1, cond_true, g3, Option.bind_some, decide_true, List.length_singleton, hl, h8, and_self, hw]
          · intro y hy
            rcases List.mem_append.1 hy with h | h
            · exact hi y h
            · rw [List.mem_singleton.1 h]; unfold isI; omega
      · have hkm : k = m := by omega
        subst hkm
        have e1 : decide ((k : Int) < (k : Int)) = false := by simp
        rw [Nat.sub_self] at hr
        rw [nodS] at hr
        refine ⟨.inr (((a, (c : Int), noR, ()), (), ()), l), ?_, ?_⟩
        · simp only [cond_false, e1, inrO, Option.map_some]
        · show PX a R okL (some _)
          rw [← hr]
          exact ⟨hc, ⟨by omega, hi⟩, rfl⟩
    · by_cases hlt : k < m
      · have e1 : decide ((k : Int) < (m : Int)) = true := by simpa using hlt
        have hw : IntKind.wrap .i64 ((k : Int) + 1) = ((k + 1 : Nat) : Int) := by rw [wi64 (by omega) (by omega)]; omega
        have h8 := len8 (n := k + 1) (by omega)
        refine ⟨.inl (((l ++ [0]), ((k + 1 : Nat) : Int), ()), ((a, c, erR e q, ()), ())), ?_, ⟨k + 1, l ++ [0], hlt, by simp [hl], ?_, .inr ⟨c, e, q, he, hr, rfl⟩⟩, by dsimp only; omega⟩
        · simp only [e1, cond_true, p48_er, Option.bind_some, decide_true, List.length_singleton, hl, h8, and_self, hw]
        · intro y hy
          rcases List.mem_append.1 hy with h | h
          · exact hi y h
          · rw [List.mem_singleton.1 h]; unfold isI; omega
      · have hkm : k = m := by omega
        subst hkm
        have e1 : decide ((k : Int) < (k : Int)) = false := by simp
        refine ⟨.inr (((a, c, erR e q, ()), (), ()), l), ?_, ?_⟩
        · simp only [e1, cond_true, cond_false, inrO, Option.map_some]
        · show PX a R okL (some _)
          rw [hr]
          exact ⟨he, c, l, rfl⟩
  · rw [hu] at hp
    obtain ⟨h1, c2, h3⟩ := hp
    rw [h3]
    obtain ⟨f, rfl⟩ : ∃ f, fu = f + 1 := ⟨fu - 1, by omega⟩
    simp only [Option.bind_some, eqL_t, cond_true, RR.bind]
    simp only [loopO, cond_true, Int.lt_irrefl, decide_false, cond_false, inrO, Option.map_some]
    exact ⟨h1, c2, [], rfl⟩
theorem p95_er {a : List Int} {c e q : Int} {l m : List Int} : p95_8 fu ((a, c, erR e q, ()), (l, m, ()), ()) = some (((a, c, erR e q, ()), (), ()), ([], [], ())) := by
  unfold p95_8
  simp only [cond_true, eqL_t]
theorem p95_ok {a : List Int} {c : Int} {l m : List Int} : p95_8 fu ((a, c, noR, ()), (l, m, ()), ()) = some (((a, c, noR, ()), (), ()), (l, m, ())) := by
  unfold p95_8
  simp only [cond_true, cond_false, eqL_t]
theorem p71_er {a : List Int} {c e q : Int} (hfu : 10 < fu) : p71_2 fu ((a, c, erR e q, ()), ()) = some (((a, c, erR e q, ()), (), ()), ([], [], ())) := by
  unfold p71_2
  simp only [cond_true, p96_er hfu, Option.bind_some, eqL_t, p95_er]
theorem p71P {a : List Int} {c : Nat} (h : okA fu a) (hc : c ≤ a.length) : PR a ([], [], ()) (confS a c) (fun f => okL f.1 ∧ okL f.2.1) (p71_2 fu ((a, (c : Int), noR, ()), ())) := by
  have hp := p96P (fu := fu) h hc
  unfold confS p71_2
  simp only [cond_false]
  rcases hu : ndsS a c with ⟨c1, l⟩ | ⟨e, q⟩
  · rw [hu] at hp
    obtain ⟨h1, h2, h3⟩ := hp
    have hp2 := p96P (fu := fu) h h1
    rw [h3]
    simp only [Option.bind_some, cond_false, RR.bind, eqL_t, cond_true]
    rcases hu2 : ndsS a c1 with ⟨c2, m⟩ | ⟨e, q⟩
    · rw [hu2] at hp2
      obtain ⟨g1, g2, g3⟩ := hp2
      rw [g3]
      simp only [Option.bind_some, cond_false, p95_ok]
      exact ⟨g1, ⟨h2, g2⟩, rfl⟩
    · rw [hu2] at hp2
      obtain ⟨g1, c3, d, g3⟩ := hp2
      rw [g3]
      simp only [Option.bind_some, cond_true, p95_er]
      exact ⟨g1, c3, rfl⟩
  · rw [hu] at hp
    obtain ⟨h1, c2, d, h3⟩ := hp
    rw [h3]
    simp only [Option.bind_some, eqL_t, cond_true, RR.bind, p96_er h.hfu, p95_er]
    exact ⟨h1, c2, rfl⟩
theorem p89_er {a : List Int} {c e q : Int} : p89_2 fu ((a, c, erR e q, ()), ()) = some (((a, c, erR e q, ()), (), ()), 0) := by
  unfold p89_2
  simp only [cond_true, p48_er, Option.bind_some, eqL_t, p43_2_er]
  rfl
theorem p89P {a : List Int} {c : Nat} (h : okA fu a) (hc : c ≤ a.length) : PX a (kindS a c) (fun k => 1 ≤ k ∧ k ≤ 3) (p89_2 fu ((a, (c : Int), noR, ()), ())) := by
  have hp := p48P (fu := fu) h hc
  unfold kindS p89_2
  simp only [cond_false]
  rcases hu : iS a c with ⟨c1, k⟩ | ⟨e, q⟩
  · rw [hu] at hp
    obtain ⟨h1, h2, h3⟩ := hp
    rw [h3]
    simp only [Option.bind_some, cond_false, RR.bind]
    by_cases hk : k < 1 ∨ k > 3
    · rw [if_pos hk]
      refine ⟨by decide, c1, k, ?_⟩
      by_cases g : k < 1
      · simp only [decide_eq_true g, cond_true, eqL_t, orK_inl, p43_2_ok (show (16 : Int) ≠ 0 by decide), Option.bind_some]
      · have g2 : k > 3 := by omega
        simp only [decide_eq_false g, decide_eq_true g2, cond_true, cond_false, eqL_t, orK_inl, p43_2_ok (show (16 : Int) ≠ 0 by decide), Option.bind_some]
    · rw [if_neg hk]
      have g : ¬ k < 1 := fun x => hk (.inl x)
      have g2 : ¬ k > 3 := fun x => hk (.inr x)
      refine ⟨h1, ⟨by omega, by omega⟩, ?_⟩
      simp only [decide_eq_false g, decide_eq_false g2, cond_true, cond_false, eqL_t, orK_inl]
  · rw [hu] at hp
    obtain ⟨h1, c2, h3⟩ := hp
    rw [h3]
    simp only [Option.bind_some, eqL_t, cond_true, RR.bind, p43_2_er]
    exact ⟨h1, c2, 0, rfl⟩
theorem p88_4_er {a : List Int} {c e q : Int} {i t k : Int} {d l m : List Int} : p88_4 fu ((a, c, erR e q, ()), (i, t, k, d, l, m, ()), ()) = some (((a, c, erR e q, ()), (), ()), (0, 0, 0, [], [], [], ())) := by
  unfold p88_4
  simp only [cond_true, eqL_t]
theorem p88_4_ok {a : List Int} {c : Int} {i t k : Int} {d l m : List Int} : p88_4 fu ((a, c, noR, ()), (i, t, k, d, l, m, ()), ()) = some (((a, c, noR, ()), (), ()), (i, t, k, d, l, m, ())) := by
  unfold p88_4
  simp only [cond_true, cond_false, eqL_t]
theorem p47_2_er {a : List Int} {c e q : Int} (hfu : 10 < fu) : p47_2 fu ((a, c, erR e q, ()), ()) = some (((a, c, erR e q, ()), (), ()), (0, 0, 0, [], [], [], ())) := by
  unfold p47_2
  simp only [cond_true, Option.bind_some, eqL_t, p15_er, p89_er, p67_er, p71_er hfu, p88_4_er]
theorem p47P {a : List Int} {c : Nat} (h : okA fu a) (hc : c ≤ a.length) : PR a (0, 0, 0, [], [], [], ()) (entS a c) (fun x => isU x.1 ∧ isU x.2.1 ∧ (1 ≤ x.2.2.1 ∧ x.2.2.1 ≤ 3) ∧ isBs a x.2.2.2.1 ∧ okL x.2.2.2.2.1 ∧ okL x.2.2.2.2.2.1) (p47_2 fu ((a, (c : Int), noR, ()), ())) := by
  unfold entS p47_2
  simp only [cond_false]
  have hp0 := p15P (fu := fu) h hc
  rcases hu0 : uS a c with ⟨c0, v0⟩ | ⟨e, q⟩
  rotate_left
  · rw [hu0] at hp0
    obtain ⟨h1, c9, h3⟩ := hp0
    rw [h3]
    simp only [Option.bind_some, eqL_t, cond_true, RR.bind, p15_er, p67_er, p71_er h.hfu, p89_er, p88_4_er]
    exact ⟨h1, c9, rfl⟩
  rw [hu0] at hp0
  obtain ⟨h10, h20, h30⟩ := hp0
  rw [h30]
  simp only [Option.bind_some, cond_false, RR.bind, eqL_t, cond_true]
  have hp1 := p15P (fu := fu) h h10
  rcases hu1 : uS a c0 with ⟨c1, v1⟩ | ⟨e, q⟩
  rotate_left
  · rw [hu1] at hp1
    obtain ⟨h1, c9, h3⟩ := hp1
    rw [h3]
    simp only [Option.bind_some, cond_true, p67_er, p71_er h.hfu, p89_er, p88_4_er]
    exact ⟨h1, c9, rfl⟩
  rw [hu1] at hp1
  obtain ⟨h11, h21, h31⟩ := hp1
  rw [h31]
  simp only [Option.bind_some, cond_false]
  have hp2 := p89P (fu := fu) h h11
  rcases hu2 : kindS a c1 with ⟨c2, v2⟩ | ⟨e, q⟩
  rotate_left
  · rw [hu2] at hp2
    obtain ⟨h1, c9, d9, h3⟩ := hp2
    rw [h3]
    simp only [Option.bind_some, cond_true, p67_er, p71_er h.hfu, p88_4_er]
    exact ⟨h1, c9, rfl⟩
  rw [hu2] at hp2
  obtain ⟨h12, h22, h32⟩ := hp2
  rw [h32]
  simp only [Option.bind_some, cond_false]
  have hp3 := p67P (fu := fu) h h12 (j := 262144) (by unfold isI; omega)
  rcases hu3 : bytS a 262144 c2 with ⟨c3, v3⟩ | ⟨e, q⟩
  rotate_left
  · rw [hu3] at hp3
    obtain ⟨h1, c9, h3⟩ := hp3
    rw [h3]
    simp only [Option.bind_some, cond_true, p71_er h.hfu, p88_4_er]
    exact ⟨h1, c9, rfl⟩
  rw [hu3] at hp3
  obtain ⟨h13, h23, h33⟩ := hp3
  rw [h33]
  simp only [Option.bind_some, cond_false]
  have hp4 := p71P (fu := fu) h h13
  rcases hu4 : confS a c3 with ⟨c4, v4⟩ | ⟨e, q⟩
  rotate_left
  · rw [hu4] at hp4
    obtain ⟨h1, c9, h3⟩ := hp4
    rw [h3]
    simp only [Option.bind_some, cond_true, p88_4_er]
    exact ⟨h1, c9, rfl⟩
  rw [hu4] at hp4
  obtain ⟨h14, h24, h34⟩ := hp4
  obtain ⟨fl, fm, ⟨⟩⟩ := v4
  rw [h34]
  simp only [Option.bind_some, cond_false]
  simp only [p88_4_ok, Option.bind_some, cond_false]
  exact ⟨h14, ⟨h20, h21, h22, h23, h24⟩, rfl⟩
theorem p90_4_er {a : List Int} {c e q : Int} {i t : Int} {d l m : List Int} : p90_4 fu ((a, c, erR e q, ()), (i, t, l, m, d, ()), ()) = some (((a, c, erR e q, ()), (), ()), (0, 0, [], [], [], ())) := by
  unfold p90_4
  simp only [cond_true, eqL_t]
theorem p90_4_ok {a : List Int} {c : Int} {i t : Int} {d l m : List Int} : p90_4 fu ((a, c, noR, ()), (i, t, l, m, d, ()), ()) = some (((a, c, noR, ()), (), ()), (i, t, l, m, d, ())) := by
  unfold p90_4
  simp only [cond_true, cond_false, eqL_t]
theorem p49_2_er {a : List Int} {c e q : Int} (hfu : 10 < fu) : p49_2 fu ((a, c, erR e q, ()), ()) = some (((a, c, erR e q, ()), (), ()), (0, 0, [], [], [], ())) := by
  unfold p49_2
  simp only [cond_true, Option.bind_some, eqL_t, p15_er, p67_er, p71_er hfu, p90_4_er]
theorem p49P {a : List Int} {c : Nat} (h : okA fu a) (hc : c ≤ a.length) : PR a (0, 0, [], [], [], ()) (snapS a c) (fun x => isU x.1 ∧ isU x.2.1 ∧ okL x.2.2.1 ∧ okL x.2.2.2.1 ∧ isBs a x.2.2.2.2.1) (p49_2 fu ((a, (c : Int), noR, ()), ())) := by
  unfold snapS p49_2
  simp only [cond_false]
  have hp0 := p15P (fu := fu) h hc
  rcases hu0 : uS a c with ⟨c0, v0⟩ | ⟨e, q⟩
  rotate_left
  · rw [hu0] at hp0
    obtain ⟨h1, c9, h3⟩ := hp0
    rw [h3]
    simp only [Option.bind_some, eqL_t, cond_true, RR.bind, p15_er, p67_er, p71_er h.hfu, p90_4_er]
    exact ⟨h1, c9, rfl⟩
  rw [hu0] at hp0
  obtain ⟨h10, h20, h30⟩ := hp0
  rw [h30]
  simp only [Option.bind_some, cond_false, RR.bind, eqL_t, cond_true]
  have hp1 := p15P (fu := fu) h h10
  rcases hu1 : uS a c0 with ⟨c1, v1⟩ | ⟨e, q⟩
  rotate_left
  · rw [hu1] at hp1
    obtain ⟨h1, c9, h3⟩ := hp1
    rw [h3]
    simp only [Option.bind_some, cond_true, p67_er, p71_er h.hfu, p90_4_er]
    exact ⟨h1, c9, rfl⟩
  rw [hu1] at hp1
  obtain ⟨h11, h21, h31⟩ := hp1
  rw [h31]
  simp only [Option.bind_some, cond_false]
  have hp2 := p71P (fu := fu) h h11
  rcases hu2 : confS a c1 with ⟨c2, v2⟩ | ⟨e, q⟩
  rotate_left
  · rw [hu2] at hp2
    obtain ⟨h1, c9, h3⟩ := hp2
    rw [h3]
    simp only [Option.bind_some, cond_true, p67_er, p90_4_er]
    exact ⟨h1, c9, rfl⟩
  rw [hu2] at hp2
  obtain ⟨h12, h22, h32⟩ := hp2
  obtain ⟨fl, fm, ⟨⟩⟩ := v2
  rw [h32]
  simp only [Option.bind_some, cond_false]
  have hp3 := p67P (fu := fu) h h12 (j := 262144) (by unfold isI; omega)
  rcases hu3 : bytS a 262144 c2 with ⟨c3, v3⟩ | ⟨e, q⟩
  rotate_left
  · rw [hu3] at hp3
    obtain ⟨h1, c9, h3⟩ := hp3
    rw [h3]
    simp only [Option.bind_some, cond_true, p90_4_er]
    exact ⟨h1, c9, rfl⟩
  rw [hu3] at hp3
  obtain ⟨h13, h23, h33⟩ := hp3
  rw [h33]
  simp only [Option.bind_some, cond_false]
  simp only [p90_4_ok, Option.bind_some, cond_false]
  exact ⟨h13, ⟨h20, h21, h22.1, h22.2, h23⟩, rfl⟩
theorem strNil : strOfNums [] = (⟨#[]⟩ : ByteArray) := by rfl
theorem p16_ok {a : List Int} {c : Int} : p16_2 fu ((a, c, noR, ()), ()) = some (((a, c, noR, ()), (), ()), (0, 0, ())) := by
  unfold p16_2 pAs
  simp only [cond_false, cond_true, Option.bind_some, Bool.not_true, eqL_t]
theorem p16_er {a : List Int} {c e q : Int} : p16_2 fu ((a, c, erR e q, ()), ()) = some (((a, c, erR e q, ()), (), ()), (e, q, ())) := by
  unfold p16_2 pAs
  simp only [cond_true, cond_false, Option.bind_some, Bool.not_false, eqL_t]
theorem p19_er {a : List Int} {c e q : Int} (he : e ≠ 0) : p19_2 fu ((a, c, erR e q, ()), ()) = some (((a, c, erR e q, ()), (), ()), e) := by
  have g : (e == 0) = false := beq_eq_false_iff_ne.2 he
  unfold p19_2
  simp only [cond_true, p16_er, Option.bind_some, eqL_t, g, cond_false]
theorem p19_ok {a : List Int} {c : Int} : p19_2 fu ((a, c, noR, ()), ()) = some (((a, c, noR, ()), (), ()), if c < (a.length : Int) then 15 else 0) := by
  unfold p19_2
  simp only [cond_true, cond_false, p16_ok, Option.bind_some, eqL_t, BEq.rfl]
  by_cases g : c < (a.length : Int)
  · simp only [decide_eq_true g, cond_true, if_pos g]
  · simp only [decide_eq_false g, cond_false, if_neg g]
theorem p51_er {a : List Int} {c e q : Int} (he : e ≠ 0) : p51 fu ((a, c, e, q, ()), ()) = some (((a, c, e, q, ()), ()), 0) := by
  have g : (e != 0) = true := bne_iff_ne.2 he
  unfold p51
  simp only [g, cond_true]
theorem p51D {a : List Int} {c : Nat} (h : okA fu a) (hc : c ≤ a.length) : DR a 0 (uS a c) isU (p51 fu ((a, (c : Int), 0, 0, ()), ())) := by
  have hl := h.hn
  have hp := p51_any (fu := fu) (pre := a.take c) (b := a.drop c) (h := 0) (h.dr c) (by rw [List.take_append_drop]; exact hl) h.hfu
  rw [List.take_append_drop, List.length_take, Nat.min_eq_left hc] at hp
  rw [hp]
  rcases uS_cases h hc with ⟨v, k, hnum, hu, hk, hv⟩ | ⟨e, he, hnum, hu⟩
  · rw [hu, hnum]
    exact ⟨hk, hv, rfl⟩
  · rw [hu, hnum]
    refine ⟨he, c, ?_⟩
    unfold afterU
    rw [if_neg he]
theorem p65_er {a : List Int} {c e q : Int} (he : e ≠ 0) : p65 fu ((a, c, e, q, ()), ()) = some (((a, c, e, q, ()), ()), 0) := by
  unfold p65
  dsimp only
  rw [p51_er he]
  rfl
theorem p65D {a : List Int} {c : Nat} (h : okA fu a) (hc : c ≤ a.length) : DR a 0 (iS a c) isI (p65 fu ((a, (c : Int), 0, 0, ()), ())) := by
  have hp := p51D h hc
  unfold iS p65
  dsimp only
  rcases hu : uS a c with ⟨c1, v⟩ | ⟨e, q⟩
  · rw [hu] at hp
    obtain ⟨h1, h2, h3⟩ := hp
    rw [h3]
    obtain ⟨n, rfl⟩ := Int.eq_ofNat_of_zero_le h2.1
    have hn := h2.2
    have et : Int.tmod (n : Int) 2 = ((n % 2 : Nat) : Int) := rfl
    have ed : Int.tdiv (n : Int) 2 = ((n / 2 : Nat) : Int) := rfl
    simp only [Option.bind_some, RR.bind, et, ed]
    rw [wu64 (x := ((n / 2 : Nat) : Int)) (by omega) (by omega), wi64 (x := ((n / 2 : Nat) : Int)) (by omega) (by omega), wi64 (x := 0 - ((n / 2 : Nat) : Int)) (by omega) (by omega), wi64 (x := 0 - ((n / 2 : Nat) : Int) - 1) (by omega) (by omega)]
    by_cases ho : n % 2 = 1
    · have g : (((n % 2 : Nat) : Int) == 1) = true := by rw [ho]; rfl
      refine ⟨h1, unzz_i h2, ?_⟩
      simp only [g, cond_true]
      unfold unzz
      rw [if_pos (by omega), show 0 - ((n / 2 : Nat) : Int) - 1 = -((n : Int) / 2) - 1 by omega]
    · have g : (((n % 2 : Nat) : Int) == 1) = false := beq_eq_false_iff_ne.2 (by omega)
      refine ⟨h1, unzz_i h2, ?_⟩
      simp only [g, cond_false]
      unfold unzz
      rw [if_neg (by omega), show ((n / 2 : Nat) : Int) = (n : Int) / 2 by omega]
  · rw [hu] at hp
    obtain ⟨h1, c2, h3⟩ := hp
    rw [h3]
    exact ⟨h1, c2, rfl⟩
theorem p79_er {a : List Int} {c e q j : Int} (he : e ≠ 0) : p79 fu ((a, c, e, q, ()), j, ()) = some (((a, c, e, q, ()), ()), 0) := by
  have g : (e != 0) = true := bne_iff_ne.2 he
  unfold p79
  dsimp only
  rw [p51_er he]
  simp only [Option.bind_some, g, cond_true]
theorem p79D {a : List Int} {c : Nat} {j : Int} (h : okA fu a) (hc : c ≤ a.length) (hj : isI j) : DR a 0 (cntS a j c) (fun n => 0 ≤ n) (p79 fu ((a, (c : Int), 0, 0, ()), j, ())) := by
  have hp := p51D (fu := fu) h hc
  have hl := h.hn
  obtain ⟨hj1, hj2⟩ := hj
  unfold cntS p79
  dsimp only
  rcases hu : uS a c with ⟨c1, v⟩ | ⟨e, q⟩
  · rw [hu] at hp
    obtain ⟨h1, ⟨h2, h2'⟩, h3⟩ := hp
    rw [h3]
    simp only [Option.bind_some, cond_false, RR.bind, bne_self_eq_false]
    have hw2 : IntKind.wrap .u64 (IntKind.wrap .i64 ((a.length : Int) - (c1 : Int))) = ((a.length - c1 : Nat) : Int) := by rw [wi64 (by omega) (by omega), wu64 (by omega) (by omega)]; omega
    by_cases hbad : j < 0 ∨ v > j
    · rw [if_pos hbad]
      refine ⟨by decide, c, ?_⟩
      by_cases g : j < 0
      · simp only [decide_eq_true g, cond_true, orK_inl]
        rw [p91_is (by decide)]
        rfl
      · have g2 : v > IntKind.wrap .u64 j := by rw [wu64 (by omega) (by omega)]; omega
        simp only [decide_eq_false g, decide_eq_true g2, cond_true, cond_false, orK_inl]
        rw [p91_is (by decide)]
        rfl
    · rw [if_neg hbad]
      have g : ¬ j < 0 := fun k => hbad (.inl k)
      have g2 : ¬ v > IntKind.wrap .u64 j := by rw [wu64 (by omega) (by omega)]; omega
      simp only [decide_eq_false g, decide_eq_false g2, cond_false, orK_inl, hw2]
      by_cases g3 : v > ((a.length - c1 : Nat) : Int)
      · rw [if_pos g3]
        refine ⟨by decide, c, ?_⟩
        simp only [decide_eq_true g3, cond_true]
        rw [p91_is (by decide)]
        rfl
      · rw [if_neg g3]
        have hwv : IntKind.wrap .i64 v = v := wi64 (by omega) (by omega)
        refine ⟨h1, h2, ?_⟩
        simp only [decide_eq_false g3, cond_false, hwv]
  · rw [hu] at hp
    obtain ⟨h1, c2, h3⟩ := hp
    have ge : (e != 0) = true := bne_iff_ne.2 h1
    rw [h3]
    simp only [Option.bind_some, ge, cond_true, RR.bind]
    exact ⟨h1, c2, rfl⟩
theorem p68_er {a : List Int} {c e q j : Int} (he : e ≠ 0) : p68 fu ((a, c, e, q, ()), j, ()) = some (((a, c, e, q, ()), ()), []) := by
  have g : (e != 0) = true := bne_iff_ne.2 he
  unfold p68
  dsimp only
  rw [p79_er he]
  simp only [Option.bind_some, g, cond_true]
theorem p68D {a : List Int} {c : Nat} {j : Int} (h : okA fu a) (hc : c ≤ a.length) (hj : isI j) : DR a [] (bytS a j c) (isBs a) (p68 fu ((a, (c : Int), 0, 0, ()), j, ())) := by
  have hp := p79D (fu := fu) h hc hj
  have hl := h.hn
  unfold bytS p68
  dsimp only
  rcases hu : cntS a j c with ⟨c1, v⟩ | ⟨e, q⟩
  · rw [hu] at hp
    obtain ⟨h1, h2, h3⟩ := hp
    obtain ⟨k, rfl⟩ := Int.eq_ofNat_of_zero_le h2
    have hck := (cntS_ok hu).2.1
    rw [h3]
    have w1 : IntKind.wrap .i64 ((c1 : Int) + (k : Int)) = ((c1 + k : Nat) : Int) := by rw [wi64 (by omega) (by omega)]; omega
    have w2 : IntKind.wrap .i64 (((c1 + k : Nat) : Int) - (k : Int)) = (c1 : Int) := by rw [wi64 (by omega) (by omega)]; omega
    have e2 : decide ((0 : Int) ≤ (c1 : Int)) = true := by simp
    have e3 : decide ((0 : Int) ≤ ((c1 + k : Nat) : Int)) = true := by simp; omega
    have e4 : decide (c1 ≤ c1 + k ∧ c1 + k ≤ a.length) = true := by simp; omega
    have es : slice' a c1 (some (c1 + k)) = (a.drop c1).take k := by rw [sl_eq, Nat.add_sub_cancel_left]
    have hl2 : ((a.drop c1).take k).length ≤ 140737488355328 := by rw [List.length_take, List.length_drop]; omega
    have e5 : (0 + ((a.drop c1).take k).length ≤ maxLen ∧ (0 + ((a.drop c1).take k).length) * 1 ≤ 140737488355328) = True := eq_true ⟨Nat.le_trans (by omega) (show 140737488355328 ≤ maxLen by decide), by omega⟩
    simp only [Option.bind_some, cond_false, RR.bind, bne_self_eq_false, w1, w2, e2, e3, Int.toNat_natCast, e4, es, e5, decide_true, eqL_t, cond_true, List.length_nil, List.nil_append]
    refine ⟨by omega, ⟨by rw [List.length_take, List.length_drop]; omega, fun x hx => h.hb x (List.mem_of_mem_drop (List.mem_of_mem_take hx))⟩, rfl⟩
  · rw [hu] at hp
    obtain ⟨h1, c2, h3⟩ := hp
    have ge : (e != 0) = true := bne_iff_ne.2 h1
    rw [h3]
    simp only [Option.bind_some, ge, cond_true, RR.bind]
    exact ⟨h1, c2, rfl⟩
theorem p97_er {a : List Int} {c e q : Int} (he : e ≠ 0) (hfu : 10 < fu) : p97 fu ((a, c, e, q, ()), ()) = some (((a, c, e, q, ()), ()), []) := by
  have g : (e != 0) = true := bne_iff_ne.2 he
  obtain ⟨f, rfl⟩ : ∃ f, fu = f + 1 := ⟨fu - 1, by omega⟩
  unfold p97
  dsimp only
  rw [p79_er he]
  simp only [Option.bind_some]
  simp only [loopO, Int.lt_irrefl, decide_false, eqL_t, cond_true, cond_false, inrO, Option.map_some, orK_inl, g]
/-- The rounds of a list's reading, by the document. -/
def ND (a : List Int) (m : Nat) (r : RR (List Int)) (s : (List Int × Int × Unit) × (DT × Unit)) : Prop :=
  ∃ (k : Nat) (l : List Int), k ≤ m ∧ l.length = k ∧ (∀ x ∈ l, isI x) ∧ ((∃ c : Nat, c ≤ a.length ∧ nodS a (m - k) l c = r ∧ s = ((l, (k : Int), ()), ((a, (c : Int), 0, 0, ()), ()))) ∨ (∃ c e q : Int, e ≠ 0 ∧ r = .er e q ∧ s = ((l, (k : Int), ()), ((a, c, e, q, ()), ()))))
theorem orK_G {S E R : Type} {f : S → Option (S ⊕ (E ⊕ R))} {n : Nat} {s : S} {k : E → Option R} (G : Option R → Prop) (I : S → Prop) (m : S → Nat) (hs : I s) (hn : m s < n) (h : ∀ s, I s → ∃ o, f s = some o ∧ LStep I m (fun r => G (orK (some r) k)) s o) : G (orK (loopO n f s) k) := by
  obtain ⟨r, h1, h2⟩ := loopO_rule I m _ h n s hs hn
  rw [h1]
  exact h2
theorem p97D {a : List Int} {c : Nat} (h : okA fu a) (hc : c ≤ a.length) : DR a [] (ndsS a c) okL (p97 fu ((a, (c : Int), 0, 0, ()), ())) := by
  have hp := p79D (fu := fu) (j := 7) h hc (by unfold isI; omega)
  have hfu := h.hfu
  unfold ndsS p97
  dsimp only
  rcases hu : cntS a 7 c with ⟨c1, v⟩ | ⟨e, q⟩
  · rw [hu] at hp
    obtain ⟨h1, h2, h3⟩ := hp
    obtain ⟨m, rfl⟩ := Int.eq_ofNat_of_zero_le h2
    have hm7 := (cntS_ok hu).1
    rw [h3]
    simp only [Option.bind_some, RR.bind, Int.toNat_natCast, eqL_t, cond_true]
    generalize hR : nodS a m [] c1 = R
    refine orK_G (G := fun o => DR a [] R okL o) (ND a m R) (fun s => m - s.1.2.1.toNat) ⟨0, [], Nat.zero_le _, rfl, fun x hx => by simp at hx, .inl ⟨c1, h1, hR, rfl⟩⟩ (Nat.lt_of_le_of_lt (Nat.sub_le m _) (show m < fu by omega)) ?_
    rintro _ ⟨k, l, hk, hl, hi, ⟨c, hc, hr, rfl⟩ | ⟨c, e, q, he, hr, rfl⟩⟩
    · by_cases hlt : k < m
      · have e1 : decide ((k : Int) < (m : Int)) = true := by simpa using hlt
        have hw : IntKind.wrap .i64 ((k : Int) + 1) = ((k + 1 : Nat) : Int) := by rw [wi64 (by omega) (by omega)]; omega
        have h8 := len8 (n := k + 1) (by omega)
        have hq := p65D (fu := fu) h hc
        rw [show m - k = (m - (k + 1)) + 1 by omega, nodS] at hr
        rcases hu2 : iS a c with ⟨c2, x⟩ | ⟨e, q⟩
        · rw [hu2] at hq hr
          obtain ⟨g1, g2, g3⟩ := hq
          refine ⟨.inl (((l ++ [x]), ((k + 1 : Nat) : Int), ()), ((a, (c2 : Int), 0, 0, ()), ())), ?_, ⟨k + 1, l ++ [x], hlt, by simp [hl], ?_, .inl ⟨c2, g1, hr, rfl⟩⟩, by dsimp only; omega⟩
          · simp only [e1, cond_true, g3, Option.bind_some, decide_true, List.length_singleton, hl, h8, and_self, hw, BEq.rfl]
          · intro y hy
            rcases List.mem_append.1 hy with h | h
            · exact hi y h
            · rw [List.mem_singleton.1 h]; exact g2
        · rw [hu2] at hq hr
          obtain ⟨g1, c2, g3⟩ := hq
          refine ⟨.inl (((l ++ [0]), ((k + 1 : Nat) : Int), ()), ((a, c2, e, q, ()), ())), ?_, ⟨k + 1, l ++ [0], hlt, by simp [hl], ?_, .inr ⟨c2, e, q, g1, hr.symm, rfl⟩⟩, by dsimp only; omega⟩
          · simp only [e1, cond_true, g3, Option.bind_some, decide_true, List.length_singleton, hl, h8, and_self, hw, BEq.rfl]
          · intro y hy
            rcases List.mem_append.1 hy with h | h
            · exact hi y h
            · rw [List.mem_singleton.1 h]; unfold isI; omega
      · have hkm : k = m := by omega
        subst hkm
        have e1 : decide ((k : Int) < (k : Int)) = false := by simp
        rw [Nat.sub_self] at hr
        rw [nodS] at hr
        refine ⟨.inr (.inl ((l, ()), ((a, (c : Int), 0, 0, ()), ()))), ?_, ?_⟩
        · simp only [cond_false, e1, inrO, Option.map_some]
        · show DR a [] R okL _
          rw [← hr]
          simp only [orK_inl, bne_self_eq_false, cond_false]
          exact ⟨hc, ⟨by omega, hi⟩, rfl⟩
    · have ge : (e != 0) = true := bne_iff_ne.2 he
      have gf : (e == 0) = false := beq_eq_false_iff_ne.2 he
      refine ⟨.inr (.inl ((l, ()), ((a, c, e, q, ()), ()))), ?_, ?_⟩
      · rcases Bool.eq_false_or_eq_true (decide ((k : Int) < (m : Int))) with g | g <;> simp only [g, gf, cond_true, cond_false, inrO, Option.map_some]
      · show DR a [] R okL _
        rw [hr]
        simp only [orK_inl, ge, cond_true]
        exact ⟨he, c, rfl⟩
  · rw [hu] at hp
    obtain ⟨h1, c2, h3⟩ := hp
    have ge : (e != 0) = true := bne_iff_ne.2 h1
    rw [h3]
    obtain ⟨f, rfl⟩ : ∃ f, fu = f + 1 := ⟨fu - 1, by omega⟩
    simp only [Option.bind_some, RR.bind]
    simp only [loopO, Int.lt_irrefl, decide_false, eqL_t, cond_true, cond_false, inrO, Option.map_some, orK_inl, ge]
    exact ⟨h1, c2, rfl⟩
theorem p72_er {a : List Int} {c e q : Int} (he : e ≠ 0) (hfu : 10 < fu) : p72 fu ((a, c, e, q, ()), ()) = some (((a, c, e, q, ()), ()), ([], [], ())) := by
  have g : (e != 0) = true := bne_iff_ne.2 he
  unfold p72
  dsimp only
  simp only [p97_er he hfu, Option.bind_some, g, cond_true]
theorem p72D {a : List Int} {c : Nat} (h : okA fu a) (hc : c ≤ a.length) : DR a ([], [], ()) (confS a c) (fun f => okL f.1 ∧ okL f.2.1) (p72 fu ((a, (c : Int), 0, 0, ()), ())) := by
  unfold confS p72
  dsimp only
  have hp0 := p97D (fu := fu) h hc
  rcases hu0 : ndsS a c with ⟨c0, v0⟩ | ⟨e, q⟩
  rotate_left
  · rw [hu0] at hp0
    obtain ⟨h1, c9, h3⟩ := hp0
    have ge : (e != 0) = true := bne_iff_ne.2 h1
    rw [h3]
    simp only [Option.bind_some, eqL_t, cond_true, RR.bind, ge, p97_er h1 h.hfu]
    exact ⟨h1, c9, rfl⟩
  rw [hu0] at hp0
  obtain ⟨h10, h20, h30⟩ := hp0
  rw [h30]
  simp only [Option.bind_some, RR.bind, eqL_t, cond_true]
  have hp1 := p97D (fu := fu) h h10
  rcases hu1 : ndsS a c0 with ⟨c1, v1⟩ | ⟨e, q⟩
  rotate_left
  · rw [hu1] at hp1
    obtain ⟨h1, c9, h3⟩ := hp1
    have ge : (e != 0) = true := bne_iff_ne.2 h1
    rw [h3]
    simp only [Option.bind_some, cond_true, ge]
    exact ⟨h1, c9, rfl⟩
  rw [hu1] at hp1
  obtain ⟨h11, h21, h31⟩ := hp1
  rw [h31]
  simp only [Option.bind_some, cond_false, bne_self_eq_false]
  exact ⟨h11, ⟨h20, h21⟩, rfl⟩
theorem p91_er {a : List Int} {c e q j k : Int} (he : e ≠ 0) : p91 fu ((a, c, e, q, ()), j, k, ()) = some (((a, c, e, q, ()), ()), ()) := by
  have g : (e == 0) = false := beq_eq_false_iff_ne.2 he
  unfold p91
  simp only [g, cond_false, orK_inl]
theorem p74_er {a : List Int} {c e q : Int} (he : e ≠ 0) (hfu : 10 < fu) : p74 fu ((a, c, e, q, ()), ()) = some (((a, c, e, q, ()), ()), (0, 0, 0, [], [], [], ())) := by
  have g : (e != 0) = true := bne_iff_ne.2 he
  have g2 : decide ((0 : Int) < 1) = true := by decide
  unfold p74
  simp only [p51_er he, p65_er he, p68_er he, p72_er he hfu, p91_er he, Option.bind_some, g, g2, cond_true, orK_inl]
theorem p74D {a : List Int} {c : Nat} (h : okA fu a) (hc : c ≤ a.length) : DR a (0, 0, 0, [], [], [], ()) (entS a c) (fun x => isU x.1 ∧ isU x.2.1 ∧ (1 ≤ x.2.2.1 ∧ x.2.2.1 ≤ 3) ∧ isBs a x.2.2.2.1 ∧ okL x.2.2.2.2.1 ∧ okL x.2.2.2.2.2.1) (p74 fu ((a, (c : Int), 0, 0, ()), ())) := by
  unfold entS p74
  dsimp only
  have hp0 := p51D (fu := fu) h hc
  rcases hu0 : uS a c with ⟨c0, v0⟩ | ⟨e, q⟩
  rotate_left
  · rw [hu0] at hp0
    obtain ⟨h1, c9, h3⟩ := hp0
    have ge : (e != 0) = true := bne_iff_ne.2 h1
    rw [h3]
    simp only [Option.bind_some, eqL_t, cond_true, RR.bind, ge, p51_er h1, p65_er h1, p91_er h1, p68_er h1, p72_er h1 h.hfu, show decide ((0 : Int) < 1) = true by decide, orK_inl]
    exact ⟨h1, c9, rfl⟩
  rw [hu0] at hp0
  obtain ⟨h10, h20, h30⟩ := hp0
  rw [h30]
  simp only [Option.bind_some, RR.bind, eqL_t, cond_true]
  have hp1 := p51D (fu := fu) h h10
  rcases hu1 : uS a c0 with ⟨c1, v1⟩ | ⟨e, q⟩
  rotate_left
  · rw [hu1] at hp1
    obtain ⟨h1, c9, h3⟩ := hp1
    have ge : (e != 0) = true := bne_iff_ne.2 h1
    rw [h3]
    simp only [Option.bind_some, cond_true, ge, p65_er h1, p91_er h1, p68_er h1, p72_er h1 h.hfu, show decide ((0 : Int) < 1) = true by decide, orK_inl]
    exact ⟨h1, c9, rfl⟩
  rw [hu1] at hp1
  obtain ⟨h11, h21, h31⟩ := hp1
  rw [h31]
  simp only [Option.bind_some]
  have hp2 := p65D (fu := fu) h h11
  unfold kindS
  rcases hu2 : iS a c1 with ⟨c2, v2⟩ | ⟨e, q⟩
  rotate_left
  · rw [hu2] at hp2
    obtain ⟨h1, c9, h3⟩ := hp2
    have ge : (e != 0) = true := bne_iff_ne.2 h1
    rw [h3]
    simp only [Option.bind_some, cond_true, RR.bind, ge, p91_er h1, p68_er h1, p72_er h1 h.hfu, show decide ((0 : Int) < 1) = true by decide, orK_inl]
    exact ⟨h1, c9, rfl⟩
  rw [hu2] at hp2
  obtain ⟨h12, h22, h32⟩ := hp2
  rw [h32]
  simp only [Option.bind_some, RR.bind]
  by_cases hbad : v2 < 1 ∨ v2 > 3
  · rw [if_pos hbad]
    refine ⟨by decide, (c1 : Int), ?_⟩
    have h16 : (16 : Int) ≠ 0 := by decide
    have g16 : ((16 : Int) != 0) = true := by decide
    by_cases g : v2 < 1
    · simp only [decide_eq_true g, cond_true, orK_inl, p91_is h16, Option.bind_some, p68_er h16, p72_er h16 h.hfu, g16]
    · have g2 : v2 > 3 := by omega
      simp only [decide_eq_false g, decide_eq_true g2, cond_true, cond_false, orK_inl, p91_is h16, Option.bind_some, p68_er h16, p72_er h16 h.hfu, g16]
  rw [if_neg hbad]
  have g : ¬ v2 < 1 := fun k => hbad (.inl k)
  have g2 : ¬ v2 > 3 := fun k => hbad (.inr k)
  simp only [decide_eq_false g, decide_eq_false g2, cond_false, orK_inl]
  have hp3 := p68D (fu := fu) h h12 (j := 262144) (by unfold isI; omega)
  rcases hu3 : bytS a 262144 c2 with ⟨c3, v3⟩ | ⟨e, q⟩
  rotate_left
  · rw [hu3] at hp3
    obtain ⟨h1, c9, h3⟩ := hp3
    have ge : (e != 0) = true := bne_iff_ne.2 h1
    rw [h3]
    simp only [Option.bind_some, cond_true, ge, p72_er h1 h.hfu]
    exact ⟨h1, c9, rfl⟩
  rw [hu3] at hp3
  obtain ⟨h13, h23, h33⟩ := hp3
  rw [h33]
  simp only [Option.bind_some]
  have hp4 := p72D (fu := fu) h h13
  rcases hu4 : confS a c3 with ⟨c4, v4⟩ | ⟨e, q⟩
  rotate_left
  · rw [hu4] at hp4
    obtain ⟨h1, c9, h3⟩ := hp4
    have ge : (e != 0) = true := bne_iff_ne.2 h1
    rw [h3]
    simp only [Option.bind_some, cond_true, ge]
    exact ⟨h1, c9, rfl⟩
  rw [hu4] at hp4
  obtain ⟨h14, h24, h34⟩ := hp4
  obtain ⟨fl, fm, ⟨⟩⟩ := v4
  rw [h34]
  simp only [Option.bind_some, cond_false, bne_self_eq_false]
  exact ⟨h14, ⟨h20, h21, ⟨by dsimp only; omega, by dsimp only; omega⟩, h23, h24⟩, rfl⟩
theorem p76_er {a : List Int} {c e q : Int} (he : e ≠ 0) (hfu : 10 < fu) : p76 fu ((a, c, e, q, ()), ()) = some (((a, c, e, q, ()), ()), (0, 0, [], [], [], ())) := by
  have g : (e != 0) = true := bne_iff_ne.2 he
  unfold p76
  simp only [Option.bind_some, eqL_t, g, cond_true, p51_er he, p68_er he, p72_er he hfu]
theorem p76D {a : List Int} {c : Nat} (h : okA fu a) (hc : c ≤ a.length) : DR a (0, 0, [], [], [], ()) (snapS a c) (fun x => isU x.1 ∧ isU x.2.1 ∧ okL x.2.2.1 ∧ okL x.2.2.2.1 ∧ isBs a x.2.2.2.2.1) (p76 fu ((a, (c : Int), 0, 0, ()), ())) := by
  unfold snapS p76
  dsimp only
  have hp0 := p51D (fu := fu) h hc
  rcases hu0 : uS a c with ⟨c0, v0⟩ | ⟨e, q⟩
  rotate_left
  · rw [hu0] at hp0
    obtain ⟨h1, c9, h3⟩ := hp0
    have ge : (e != 0) = true := bne_iff_ne.2 h1
    rw [h3]
    simp only [Option.bind_some, eqL_t, cond_true, RR.bind, ge, p51_er h1, p68_er h1, p72_er h1 h.hfu]
    exact ⟨h1, c9, rfl⟩
  rw [hu0] at hp0
  obtain ⟨h10, h20, h30⟩ := hp0
  rw [h30]
  simp only [Option.bind_some, RR.bind, eqL_t, cond_true]
  have hp1 := p51D (fu := fu) h h10
  rcases hu1 : uS a c0 with ⟨c1, v1⟩ | ⟨e, q⟩
  rotate_left
  · rw [hu1] at hp1
    obtain ⟨h1, c9, h3⟩ := hp1
    have ge : (e != 0) = true := bne_iff_ne.2 h1
    rw [h3]
    simp only [Option.bind_some, cond_true, ge, p68_er h1, p72_er h1 h.hfu]
    exact ⟨h1, c9, rfl⟩
  rw [hu1] at hp1
  obtain ⟨h11, h21, h31⟩ := hp1
  rw [h31]
  simp only [Option.bind_some]
  have hp2 := p72D (fu := fu) h h11
  rcases hu2 : confS a c1 with ⟨c2, v2⟩ | ⟨e, q⟩
  rotate_left
  · rw [hu2] at hp2
    obtain ⟨h1, c9, h3⟩ := hp2
    have ge : (e != 0) = true := bne_iff_ne.2 h1
    rw [h3]
    simp only [Option.bind_some, cond_true, ge, p68_er h1]
    exact ⟨h1, c9, rfl⟩
  rw [hu2] at hp2
  obtain ⟨h12, h22, h32⟩ := hp2
  obtain ⟨fl, fm, ⟨⟩⟩ := v2
  rw [h32]
  simp only [Option.bind_some]
  have hp3 := p68D (fu := fu) h h12 (j := 262144) (by unfold isI; omega)
  rcases hu3 : bytS a 262144 c2 with ⟨c3, v3⟩ | ⟨e, q⟩
  rotate_left
  · rw [hu3] at hp3
    obtain ⟨h1, c9, h3⟩ := hp3
    have ge : (e != 0) = true := bne_iff_ne.2 h1
    rw [h3]
    simp only [Option.bind_some, cond_true, ge]
    exact ⟨h1, c9, rfl⟩
  rw [hu3] at hp3
  obtain ⟨h13, h23, h33⟩ := hp3
  rw [h33]
  simp only [Option.bind_some, cond_false, bne_self_eq_false]
  exact ⟨h13, ⟨h20, h21, h22.1, h22.2, h23⟩, rfl⟩
theorem p29_er {a : List Int} {c e q : Int} (he : e ≠ 0) : p29 fu ((a, c, e, q, ()), ()) = some ((), e) := by
  have g : (e == 0) = false := beq_eq_false_iff_ne.2 he
  unfold p29
  simp only [g, cond_false, orK_inl]
theorem p29_ok {a : List Int} {c q : Int} : p29 fu ((a, c, 0, q, ()), ()) = some ((), if c < (a.length : Int) then 15 else 0) := by
  unfold p29
  simp only [BEq.rfl, cond_true]
  by_cases g : c < (a.length : Int)
  · simp only [decide_eq_true g, cond_true, if_pos g, inrO, Option.map_some, orK_inr]
  · simp only [decide_eq_false g, cond_false, if_neg g, orK_inl]
theorem p80_er {a : List Int} {c e q k : Int} (he : e ≠ 0) : p80 fu ((a, c, e, q, ()), k, ()) = some (((a, c, e, q, ()), ()), ()) := by
  unfold p80
  dsimp only
  rw [p91_er he]
  rfl
theorem p80_ok {a : List Int} {c k : Int} (hk : k ≠ 0) : p80 fu ((a, c, 0, 0, ()), k, ()) = some (((a, c, k, c, ()), ()), ()) := by
  unfold p80
  dsimp only
  rw [p91_is hk]
  rfl
theorem p80_no {a : List Int} {c : Int} : p80 fu ((a, c, 0, 0, ()), 0, ()) = some (((a, c, 0, 0, ()), ()), ()) := rfl
/-- Lists that are the same. -/
theorem p94_is {l : List Int} (hl : l.length ≤ 1048576) (hfu : l.length < fu) : p94 fu (l, l, ()) = some ((), true) := by
  unfold p94
  simp only [bne_self_eq_false, cond_false]
  refine loopO_eq (fun (s : (Int × Unit) × Unit) => ∃ k : Nat, k ≤ l.length ∧ s = (((k : Int), ()), ())) (fun s => l.length - s.1.1.toNat) (fun _ => ((), true)) ?_ fu _ ⟨0, Nat.zero_le _, rfl⟩ (by dsimp only; omega)
  rintro _ ⟨k, hk, rfl⟩
  by_cases hlt : k < l.length
  · left
    have e1 : decide ((k : Int) < (l.length : Int)) = true := by simpa using hlt
    have e2 : decide ((0 : Int) ≤ (k : Int) ∧ (k : Int) < (l.length : Int)) = true := by simp; omega
    have e3 : decide (k < l.length) = true := by simpa using hlt
    have hw : IntKind.wrap .i64 ((k : Int) + 1) = ((k + 1 : Nat) : Int) := by rw [wi64 (by omega) (by omega)]; omega
    refine ⟨_, ?_, ⟨k + 1, hlt, rfl⟩, by dsimp only; omega, rfl⟩
    simp only [e1, e2, Int.toNat_natCast, e3, cond_true, hw]
  · right
    have e1 : decide ((k : Int) < (l.length : Int)) = false := by simp; omega
    simp only [e1, cond_false, inrO, Option.map_some]
theorem p70_is {l m : List Int} (hl : l.length ≤ 7) (hm : m.length ≤ 7) (hfu : 10 < fu) : p70 fu ((l, m, ()), (l, m, ()), ()) = some ((), true) := by
  unfold p70
  dsimp only
  rw [p94_is (by omega) (by omega), bind_val]
  simp only [cond_true]
  rw [p94_is (by omega) (by omega)]
  rfl
theorem p73_is {i t k : Int} {d l m : List Int} (hl : l.length ≤ 7) (hm : m.length ≤ 7) (hfu : 10 < fu) : p73 fu ((i, t, k, d, l, m, ()), (i, t, k, d, l, m, ()), ()) = some ((), true) := by
  unfold p73
  dsimp only
  rw [p70_is hl hm hfu]
  simp only [bind_val, cond_true, BEq.rfl]
theorem p75_is {i t : Int} {d l m : List Int} (hl : l.length ≤ 7) (hm : m.length ≤ 7) (hfu : 10 < fu) : p75 fu ((i, t, l, m, d, ()), (i, t, l, m, d, ()), ()) = some ((), true) := by
  unfold p75
  dsimp only
  rw [p70_is hl hm hfu]
  simp only [bind_val, cond_true, BEq.rfl]
/-- The program's reader and the document's. -/
def RelR (a : List Int) (x : PT) (y : DT) : Prop :=
  (∃ c : Nat, c ≤ a.length ∧ x = (a, (c : Int), noR, ()) ∧ y = (a, (c : Int), 0, 0, ())) ∨ (∃ c c' e q : Int, e ≠ 0 ∧ x = (a, c, erR e q, ()) ∧ y = (a, c', e, q, ()))
theorem both {α : Type} {a : List Int} {d : α} {r : RR α} {P : α → Prop} {o : Option ((PT × Unit × Unit) × α)} {u : Option ((DT × Unit) × α)} (h1 : PR a d r P o) (h2 : DR a d r P u) (hd : P d) :
    ∃ x y v, RelR a x y ∧ P v ∧ o = some ((x, (), ()), v) ∧ u = some ((y, ()), v) ∧ ((∃ c e q, e ≠ 0 ∧ x = (a, c, erR e q, ())) ∨ ∃ c : Int, x = (a, c, noR, ())) := by
  cases r with
  | ok c v =>
    obtain ⟨a1, a2, a3⟩ := h1
    obtain ⟨b1, b2, b3⟩ := h2
    exact ⟨_, _, v, .inl ⟨c, a1, rfl, rfl⟩, a2, a3, b3, .inr ⟨_, rfl⟩⟩
  | er e q =>
    obtain ⟨a1, c, a3⟩ := h1
    obtain ⟨b1, c', b3⟩ := h2
    exact ⟨_, _, d, .inr ⟨c, c', e, q, a1, rfl, rfl⟩, hd, a3, b3, .inl ⟨_, _, _, a1, rfl⟩⟩
theorem beqB (s : ByteArray) : (s == s) = true := by
  first | exact beq_self_eq_true s | simp | (cases s; rename_i d; show (d == d) = true; simp)
theorem okL_nil : okL [] := ⟨by simp, fun x hx => by simp at hx⟩
theorem isU0 : isU 0 := ⟨by omega, by omega⟩
theorem isI0 : isI 0 := ⟨by omega, by omega⟩
theorem isBs_nil {a : List Int} : isBs a [] := ⟨by simp, fun x hx => by simp at hx⟩
theorem PRw {α : Type} {a : List Int} {d : α} {r : RR α} {P Q : α → Prop} {o : Option ((PT × Unit × Unit) × α)} (h : PR a d r P o) (hq : ∀ v, P v → Q v) : PR a d r Q o := by
  cases r with
  | ok c v => exact ⟨h.1, hq _ h.2.1, h.2.2⟩
  | er e q => exact h
theorem DRw {α : Type} {a : List Int} {d : α} {r : RR α} {P Q : α → Prop} {o : Option ((DT × Unit) × α)} (h : DR a d r P o) (hq : ∀ v, P v → Q v) : DR a d r Q o := by
  cases r with
  | ok c v => exact ⟨h.1, hq _ h.2.1, h.2.2⟩
  | er e q => exact h
theorem p67s {a : List Int} {c : Nat} {j : Int} (h : okA fu a) (hc : c ≤ a.length) (hj : isI j) : DR a (⟨#[]⟩ : ByteArray) (strS a j c) (fun _ => True) (Option.bind (p68 fu ((a, (c : Int), 0, 0, ()), j, ())) fun r => some (r.1, strOfNums r.2)) := by
  have hp := p68D (fu := fu) h hc hj
  unfold strS
  rcases hu : bytS a j c with ⟨c1, v⟩ | ⟨e, q⟩
  · rw [hu] at hp
    obtain ⟨h1, h2, h3⟩ := hp
    rw [h3]
    exact ⟨h1, trivial, rfl⟩
  · rw [hu] at hp
    obtain ⟨h1, c2, h3⟩ := hp
    rw [h3]
    exact ⟨h1, c2, rfl⟩
end
section
variable {fu : Nat}
abbrev IT := Int × Int × Int × Int × Int × List Int × List Int × List Int × Int × Int × Int × Int × Int × Int × List Int × List Int × List Int × Unit
def zeroI : IT := (0, 0, 0, 0, 0, [], [], [], 0, 0, 0, 0, 0, 0, [], [], [], ())
def itkS (a : List Int) (c : Nat) : RR Int := (iS a c).bind fun c1 k => if k < 1 ∨ k > 5 then .er 16 (c : Int) else .ok c1 k
def bodS (a : List Int) (k g : Int) (c : Nat) : RR IT :=
  if k = 1 then (entS a c).bind fun c e => .ok c (k, g, e.1, e.2.1, e.2.2.1, e.2.2.2.1, e.2.2.2.2.1, e.2.2.2.2.2.1, 0, 0, 0, 0, 0, 0, [], [], [], ())
  else if k = 2 then (uS a c).bind fun c t => (iS a c).bind fun c v => (uS a c).bind fun c m => .ok c (k, g, 0, 0, 0, [], [], [], t, v, m, 0, 0, 0, [], [], [], ())
  else if k = 3 then (uS a c).bind fun c i => .ok c (k, g, 0, 0, 0, [], [], [], 0, 0, 0, i, 0, 0, [], [], [], ())
  else if k = 4 then (snapS a c).bind fun c s => .ok c (k, g, 0, 0, 0, [], [], [], 0, 0, 0, 0, s.1, s.2.1, s.2.2.1, s.2.2.2.1, s.2.2.2.2.1, ())
  else .ok c (k, g, 0, 0, 0, [], [], [], 0, 0, 0, 0, 0, 0, [], [], [], ())
def itemS (a : List Int) : RR IT := (itkS a 0).bind fun c k => (uS a c).bind fun c g => bodS a k g c
def outI (a : List Int) : IT × Int × Unit :=
  match itemS a with
  | .ok c x => if (c : Int) < (a.length : Int) then (zeroI, 15, ()) else (x, 0, ())
  | .er e _ => (zeroI, e, ())
theorem inrO_of {E R : Type} {o : Option R} {r : R} (h : o = some r) : inrO (E := E) o = some (.inr r) := by rw [h]; rfl
theorem p14_is {a : List Int} (h : a.length ≤ 140737488355328) : p14 fu (a, ()) = some ((), (a, (0 : Int), (), ())) := by
  have e : (a.length ≤ maxLen ∧ a.length * 1 ≤ 140737488355328) = True := eq_true ⟨Nat.le_trans h (show 140737488355328 ≤ maxLen by decide), by omega⟩
  unfold p14
  simp only [e, decide_true, eqL_t, cond_true]
theorem p15N {a : List Int} {c : Nat} (h : okA fu a) (hc : c ≤ a.length) : PR a 0 (uS a c) isU (p15 fu ((a, (c : Int), (), ()), ())) := by
  have e1 : decide ((0 : Int) ≤ (c : Int)) = true := by simp
  have e2 : decide (c ≤ a.length ∧ 0 + a.length ≤ a.length) = true := by simp; omega
  have e3 : decide (c + (a.length - c) ≤ a.length) = true := by simp; omega
  have hl := h.hn
  rcases uS_cases h hc with ⟨v, k, hnum, hu, hk, hv⟩ | ⟨e, he, hnum, hu⟩
  · have hw : IntKind.wrap .i64 ((c : Int) + (k : Int)) = ((c + k : Nat) : Int) := by rw [wi64 (by omega) (by omega)]; omega
    rw [hu]
    refine ⟨hk, hv, ?_⟩
    unfold p15
    simp only [e1, Int.toNat_natCast, e2, e3, cond_true, eqL_t]
    rw [sub_all hc, p40_any (h.dr c) (by rw [List.length_drop]; omega) h.hfu, hnum]
    simp only [Option.bind_some]
    rw [p41R_ok]
    simp only [Option.bind_some, cond_false, hw]
  · have hw : IntKind.wrap .i64 ((c : Int) + 0) = (c : Int) := by rw [wi64 (by omega) (by omega)]; omega
    rw [hu]
    refine ⟨he, c, ?_⟩
    unfold p15
    simp only [e1, Int.toNat_natCast, e2, e3, cond_true, eqL_t]
    rw [sub_all hc, p40_any (h.dr c) (by rw [List.length_drop]; omega) h.hfu, hnum]
    simp only [Option.bind_some]
    rw [p41R_er he]
    simp only [Option.bind_some, cond_true, hw]
theorem p48N {a : List Int} {c : Nat} (h : okA fu a) (hc : c ≤ a.length) : PR a 0 (iS a c) isI (p48 fu ((a, (c : Int), (), ()), ())) := by
  have hp := p15N h hc
  unfold iS p48
  simp only [cond_true, eqL_t]
  rcases hu : uS a c with ⟨c1, v⟩ | ⟨e, q⟩
  · rw [hu] at hp
    obtain ⟨h1, h2, h3⟩ := hp
    rw [h3]
    obtain ⟨n, rfl⟩ := Int.eq_ofNat_of_zero_le h2.1
    simp only [Option.bind_some, cond_false, RR.bind]
    rw [xor1 n (by have := h2.2; omega)]
    exact ⟨h1, unzz_i h2, rfl⟩
  · rw [hu] at hp
    obtain ⟨h1, c2, h3⟩ := hp
    rw [h3]
    simp only [Option.bind_some, cond_true, RR.bind]
    rw [xor0]
    exact ⟨h1, c2, rfl⟩
theorem p46P {a : List Int} {c : Nat} (h : okA fu a) (hc : c ≤ a.length) : PX a (itkS a c) (fun k => 1 ≤ k ∧ k ≤ 5) (p46 fu ((a, (c : Int), (), ()), ())) := by
  have hp := p48N (fu := fu) h hc
  unfold itkS p46
  simp only [cond_true, eqL_t]
  rcases hu : iS a c with ⟨c1, k⟩ | ⟨e, q⟩
  · rw [hu] at hp
    obtain ⟨h1, h2, h3⟩ := hp
    rw [h3]
    simp only [Option.bind_some, cond_false, RR.bind]
    by_cases hk : k < 1 ∨ k > 5
    · rw [if_pos hk]
      refine ⟨by decide, c1, k, ?_⟩
      by_cases g : k < 1
      · simp only [decide_eq_true g, cond_true, orK_inl, p43_2_ok (show (16 : Int) ≠ 0 by decide), Option.bind_some]
      · have g2 : k > 5 := by omega
        simp only [decide_eq_false g, decide_eq_true g2, cond_true, cond_false, orK_inl, p43_2_ok (show (16 : Int) ≠ 0 by decide), Option.bind_some]
    · rw [if_neg hk]
      have g : ¬ k < 1 := fun x => hk (.inl x)
      have g2 : ¬ k > 5 := fun x => hk (.inr x)
      refine ⟨h1, ⟨by omega, by omega⟩, ?_⟩
      simp only [decide_eq_false g, decide_eq_false g2, cond_false, orK_inl]
  · rw [hu] at hp
    obtain ⟨h1, c2, h3⟩ := hp
    rw [h3]
    simp only [Option.bind_some, cond_true, RR.bind, p43_2_er]
    exact ⟨h1, c2, 0, rfl⟩
theorem p20_is {a : List Int} (hA : okA fu a) : p20 fu (a, ()) = some ((), outI a) := by
  have hk := p46P (fu := fu) (c := 0) hA (Nat.zero_le _)
  have hq0 : p46 fu ((a, (0 : Int), (), ()), ()) = p46 fu ((a, ((0 : Nat) : Int), (), ()), ()) := rfl
  unfold p20
  dsimp only
  rw [p14_is hA.hn]
  simp only [bind_val, eqL_t, cond_true]
  rw [hq0]
  rcases hu0 : itkS a 0 with ⟨c0, k⟩ | ⟨e, q⟩
  rotate_left
  · have ho : outI a = (zeroI, e, ()) := by unfold outI itemS; rw [hu0]; rfl
    rw [hu0] at hk
    obtain ⟨h1, c9, m, h3⟩ := hk
    have ge : (e != 0) = true := bne_iff_ne.2 h1
    rw [h3, ho]
    by_cases k1 : m = 1
    · have g1 : (m == (1 : Int)) = true := beq_iff_eq.2 k1
      simp only [g1, bind_val, cond_true, orK_inl, p15_er, p48_er, p47_2_er hA.hfu, p49_2_er hA.hfu, p19_er h1, ge]
      rfl
    have g1 : (m == (1 : Int)) = false := beq_eq_false_iff_ne.2 k1
    by_cases k2 : m = 2
    · have g2 : (m == (2 : Int)) = true := beq_iff_eq.2 k2
      simp only [g1, g2, bind_val, cond_true, cond_false, orK_inl, p15_er, p48_er, p47_2_er hA.hfu, p49_2_er hA.hfu, p19_er h1, ge]
      rfl
    have g2 : (m == (2 : Int)) = false := beq_eq_false_iff_ne.2 k2
    by_cases k3 : m = 3
    · have g3 : (m == (3 : Int)) = true := beq_iff_eq.2 k3
      simp only [g1, g2, g3, bind_val, cond_true, cond_false, orK_inl, p15_er, p48_er, p47_2_er hA.hfu, p49_2_er hA.hfu, p19_er h1, ge]
      rfl
    have g3 : (m == (3 : Int)) = false := beq_eq_false_iff_ne.2 k3
    by_cases k4 : m = 4
    · have g4 : (m == (4 : Int)) = true := beq_iff_eq.2 k4
      simp only [g1, g2, g3, g4, bind_val, cond_true, cond_false, orK_inl, p15_er, p48_er, p47_2_er hA.hfu, p49_2_er hA.hfu, p19_er h1, ge]
      rfl
    have g4 : (m == (4 : Int)) = false := beq_eq_false_iff_ne.2 k4
    simp only [g1, g2, g3, g4, bind_val, cond_true, cond_false, orK_inl, p15_er, p48_er, p47_2_er hA.hfu, p49_2_er hA.hfu, p19_er h1, ge]
    rfl
  rw [hu0] at hk
  obtain ⟨hc0, ⟨hk1, hk5⟩, h3⟩ := hk
  rw [h3]
  have hp := p15P (fu := fu) hA hc0
  rcases hu1 : uS a c0 with ⟨c1, g⟩ | ⟨e, q⟩
  rotate_left
  · have ho : outI a = (zeroI, e, ()) := by unfold outI itemS; rw [hu0]; simp only [RR.bind]; rw [hu1]
    rw [hu1] at hp
    obtain ⟨h1, c9, h3⟩ := hp
    have ge : (e != 0) = true := bne_iff_ne.2 h1
    rw [ho]
    simp only [bind_val, cond_true, cond_false, h3]
    by_cases k1 : k = 1
    · have g1 : (k == (1 : Int)) = true := beq_iff_eq.2 k1
      simp only [g1, bind_val, cond_true, orK_inl, p15_er, p48_er, p47_2_er hA.hfu, p49_2_er hA.hfu, p19_er h1, ge]
      rfl
    have g1 : (k == (1 : Int)) = false := beq_eq_false_iff_ne.2 k1
    by_cases k2 : k = 2
    · have g2 : (k == (2 : Int)) = true := beq_iff_eq.2 k2
      simp only [g1, g2, bind_val, cond_true, cond_false, orK_inl, p15_er, p48_er, p47_2_er hA.hfu, p49_2_er hA.hfu, p19_er h1, ge]
      rfl
    have g2 : (k == (2 : Int)) = false := beq_eq_false_iff_ne.2 k2
    by_cases k3 : k = 3
    · have g3 : (k == (3 : Int)) = true := beq_iff_eq.2 k3
      simp only [g1, g2, g3, bind_val, cond_true, cond_false, orK_inl, p15_er, p48_er, p47_2_er hA.hfu, p49_2_er hA.hfu, p19_er h1, ge]
      rfl
    have g3 : (k == (3 : Int)) = false := beq_eq_false_iff_ne.2 k3
    by_cases k4 : k = 4
    · have g4 : (k == (4 : Int)) = true := beq_iff_eq.2 k4
      simp only [g1, g2, g3, g4, bind_val, cond_true, cond_false, orK_inl, p15_er, p48_er, p47_2_er hA.hfu, p49_2_er hA.hfu, p19_er h1, ge]
      rfl
    have g4 : (k == (4 : Int)) = false := beq_eq_false_iff_ne.2 k4
    simp only [g1, g2, g3, g4, bind_val, cond_true, cond_false, orK_inl, p15_er, p48_er, p47_2_er hA.hfu, p49_2_er hA.hfu, p19_er h1, ge]
    rfl
  have hi : itemS a = bodS a k g c1 := by unfold itemS; rw [hu0]; simp only [RR.bind]; rw [hu1]
  rw [hu1] at hp
  obtain ⟨hc1, hg, h3⟩ := hp
  simp only [bind_val, cond_false, h3]
  by_cases k1 : k = 1
  · have g1 : (k == (1 : Int)) = true := beq_iff_eq.2 k1
    unfold bodS at hi
    rw [if_pos k1] at hi
    have hp0 := p47P (fu := fu) hA hc1
    rcases hv0 : entS a c1 with ⟨d0, v0⟩ | ⟨e, q⟩
    rotate_left
    · rw [hv0] at hp0 hi
      have ho : outI a = (zeroI, e, ()) := by unfold outI; (rw [hi]) <;> rfl
      obtain ⟨h1, c9, h9⟩ := hp0
      have ge : (e != 0) = true := bne_iff_ne.2 h1
      rw [ho]
      simp only [g1, bind_val, cond_true, orK_inl, h9, p15_er, p48_er, p19_er h1, ge]
      rfl
    rw [hv0] at hp0 hi
    obtain ⟨hd0, hw0, h40⟩ := hp0
    by_cases hlt : (d0 : Int) < (a.length : Int)
    · have ho : outI a = (zeroI, 15, ()) := by unfold outI; rw [hi]; exact if_pos hlt
      rw [ho]
      simp only [g1, bind_val, cond_true, cond_false, orK_inl, h40, p19_ok, if_pos hlt, show ((15 : Int) != 0) = true from rfl]
      rfl
    · unfold outI
      rw [hi]
      simp only [RR.bind, g1, bind_val, cond_true, cond_false, orK_inl, h40, p19_ok, if_neg hlt, bne_self_eq_false]
  have g1 : (k == (1 : Int)) = false := beq_eq_false_iff_ne.2 k1
  by_cases k2 : k = 2
  · have g2 : (k == (2 : Int)) = true := beq_iff_eq.2 k2
    unfold bodS at hi
    rw [if_neg k1] at hi
    rw [if_pos k2] at hi
    have hp0 := p15P (fu := fu) hA hc1
    rcases hv0 : uS a c1 with ⟨d0, v0⟩ | ⟨e, q⟩
    rotate_left
    · rw [hv0] at hp0 hi
      have ho : outI a = (zeroI, e, ()) := by unfold outI; (rw [hi]) <;> rfl
      obtain ⟨h1, c9, h9⟩ := hp0
      have ge : (e != 0) = true := bne_iff_ne.2 h1
      rw [ho]
      simp only [g1, g2, bind_val, cond_true, cond_false, orK_inl, h9, p15_er, p48_er, p19_er h1, ge]
      rfl
    rw [hv0] at hp0 hi
    obtain ⟨hd0, hw0, h40⟩ := hp0
    simp only [RR.bind] at hi
    have hp1 := p48P (fu := fu) hA hd0
    rcases hv1 : iS a d0 with ⟨d1, v1⟩ | ⟨e, q⟩
    rotate_left
    · rw [hv1] at hp1 hi
      have ho : outI a = (zeroI, e, ()) := by unfold outI; (rw [hi]) <;> rfl
      obtain ⟨h1, c9, h9⟩ := hp1
      have ge : (e != 0) = true := bne_iff_ne.2 h1
      rw [ho]
      simp only [g1, g2, bind_val, cond_true, cond_false, orK_inl, h40, h9, p15_er, p48_er, p19_er h1, ge]
      rfl
    rw [hv1] at hp1 hi
    obtain ⟨hd1, hw1, h41⟩ := hp1
    simp only at hi
    have hp2 := p15P (fu := fu) hA hd1
    rcases hv2 : uS a d1 with ⟨d2, v2⟩ | ⟨e, q⟩
    rotate_left
    · rw [hv2] at hp2 hi
      have ho : outI a = (zeroI, e, ()) := by unfold outI; (rw [hi]) <;> rfl
      obtain ⟨h1, c9, h9⟩ := hp2
      have ge : (e != 0) = true := bne_iff_ne.2 h1
      rw [ho]
      simp only [g1, g2, bind_val, cond_true, cond_false, orK_inl, h40, h41, h9, p15_er, p48_er, p19_er h1, ge]
      rfl
    rw [hv2] at hp2 hi
    obtain ⟨hd2, hw2, h42⟩ := hp2
    by_cases hlt : (d2 : Int) < (a.length : Int)
    · have ho : outI a = (zeroI, 15, ()) := by unfold outI; rw [hi]; exact if_pos hlt
      rw [ho]
      simp only [g1, g2, bind_val, cond_true, cond_false, orK_inl, h40, h41, h42, p19_ok, if_pos hlt, show ((15 : Int) != 0) = true from rfl]
      rfl
    · unfold outI
      rw [hi]
      simp only [g1, g2, bind_val, cond_true, cond_false, orK_inl, h40, h41, h42, p19_ok, if_neg hlt, bne_self_eq_false]
  have g2 : (k == (2 : Int)) = false := beq_eq_false_iff_ne.2 k2
  by_cases k3 : k = 3
  · have g3 : (k == (3 : Int)) = true := beq_iff_eq.2 k3
    unfold bodS at hi
    rw [if_neg k1] at hi
    rw [if_neg k2] at hi
    rw [if_pos k3] at hi
    have hp0 := p15P (fu := fu) hA hc1
    rcases hv0 : uS a c1 with ⟨d0, v0⟩ | ⟨e, q⟩
    rotate_left
    · rw [hv0] at hp0 hi
      have ho : outI a = (zeroI, e, ()) := by unfold outI; (rw [hi]) <;> rfl
      obtain ⟨h1, c9, h9⟩ := hp0
      have ge : (e != 0) = true := bne_iff_ne.2 h1
      rw [ho]
      simp only [g1, g2, g3, bind_val, cond_true, cond_false, orK_inl, h9, p15_er, p48_er, p19_er h1, ge]
      rfl
    rw [hv0] at hp0 hi
    obtain ⟨hd0, hw0, h40⟩ := hp0
    by_cases hlt : (d0 : Int) < (a.length : Int)
    · have ho : outI a = (zeroI, 15, ()) := by unfold outI; rw [hi]; exact if_pos hlt
      rw [ho]
      simp only [g1, g2, g3, bind_val, cond_true, cond_false, orK_inl, h40, p19_ok, if_pos hlt, show ((15 : Int) != 0) = true from rfl]
      rfl
    · unfold outI
      rw [hi]
      simp only [RR.bind, g1, g2, g3, bind_val, cond_true, cond_false, orK_inl, h40, p19_ok, if_neg hlt, bne_self_eq_false]
  have g3 : (k == (3 : Int)) = false := beq_eq_false_iff_ne.2 k3
  by_cases k4 : k = 4
  · have g4 : (k == (4 : Int)) = true := beq_iff_eq.2 k4
    unfold bodS at hi
    rw [if_neg k1] at hi
    rw [if_neg k2] at hi
    rw [if_neg k3] at hi
    rw [if_pos k4] at hi
    have hp0 := p49P (fu := fu) hA hc1
    rcases hv0 : snapS a c1 with ⟨d0, v0⟩ | ⟨e, q⟩
    rotate_left
    · rw [hv0] at hp0 hi
      have ho : outI a = (zeroI, e, ()) := by unfold outI; (rw [hi]) <;> rfl
      obtain ⟨h1, c9, h9⟩ := hp0
      have ge : (e != 0) = true := bne_iff_ne.2 h1
      rw [ho]
      simp only [g1, g2, g3, g4, bind_val, cond_true, cond_false, orK_inl, h9, p15_er, p48_er, p19_er h1, ge]
      rfl
    rw [hv0] at hp0 hi
    obtain ⟨hd0, hw0, h40⟩ := hp0
    by_cases hlt : (d0 : Int) < (a.length : Int)
    · have ho : outI a = (zeroI, 15, ()) := by unfold outI; rw [hi]; exact if_pos hlt
      rw [ho]
      simp only [g1, g2, g3, g4, bind_val, cond_true, cond_false, orK_inl, h40, p19_ok, if_pos hlt, show ((15 : Int) != 0) = true from rfl]
      rfl
    · unfold outI
      rw [hi]
      simp only [RR.bind, g1, g2, g3, g4, bind_val, cond_true, cond_false, orK_inl, h40, p19_ok, if_neg hlt, bne_self_eq_false]
  have g4 : (k == (4 : Int)) = false := beq_eq_false_iff_ne.2 k4
  unfold bodS at hi
  rw [if_neg k1] at hi
  rw [if_neg k2] at hi
  rw [if_neg k3] at hi
  rw [if_neg k4] at hi
  by_cases hlt : (c1 : Int) < (a.length : Int)
  · have ho : outI a = (zeroI, 15, ()) := by unfold outI; rw [hi]; exact if_pos hlt
    rw [ho]
    simp only [g1, g2, g3, g4, bind_val, cond_true, cond_false, orK_inl, p19_ok, if_pos hlt, show ((15 : Int) != 0) = true from rfl]
    rfl
  · unfold outI
    rw [hi]
    simp only [g1, g2, g3, g4, bind_val, cond_false, orK_inl, p19_ok, if_neg hlt, bne_self_eq_false]
theorem p30_is {a : List Int} (hA : okA fu a) : p30 fu (a, ()) = some ((), outI a) := by
  have hk := p65D (fu := fu) (c := 0) hA (Nat.zero_le _)
  have hq0 : p65 fu ((a, (0 : Int), (0 : Int), (0 : Int), ()), ()) = p65 fu ((a, ((0 : Nat) : Int), (0 : Int), (0 : Int), ()), ()) := rfl
  unfold p30
  dsimp only
  rw [hq0]
  rcases hu0 : iS a 0 with ⟨c0, k⟩ | ⟨e, q⟩
  rotate_left
  · have ho : outI a = (zeroI, e, ()) := by unfold outI itemS itkS; rw [hu0]; rfl
    rw [hu0] at hk
    obtain ⟨h1, c9, h3⟩ := hk
    have ge : (e != 0) = true := bne_iff_ne.2 h1
    rw [h3, ho]
    simp only [show ((0 : Int) == 1) = false from rfl, show ((0 : Int) == 2) = false from rfl, show ((0 : Int) == 3) = false from rfl, show ((0 : Int) == 4) = false from rfl, show decide ((0 : Int) < 1) = true from rfl, bind_val, cond_true, cond_false, eqL_t, orK_inl, p51_er h1, p29_er h1, p80_er h1, ge]
    rfl
  rw [hu0] at hk
  obtain ⟨hc0, hkI, h3⟩ := hk
  rw [h3]
  by_cases hbad : k < 1 ∨ k > 5
  · have hi0 : itkS a 0 = .er 16 0 := by unfold itkS; rw [hu0]; exact if_pos hbad
    have ho : outI a = (zeroI, 16, ()) := by unfold outI itemS; rw [hi0]; rfl
    have g1 : (k == (1 : Int)) = false := beq_eq_false_iff_ne.2 (by omega)
    have g2 : (k == (2 : Int)) = false := beq_eq_false_iff_ne.2 (by omega)
    have g3 : (k == (3 : Int)) = false := beq_eq_false_iff_ne.2 (by omega)
    have g4 : (k == (4 : Int)) = false := beq_eq_false_iff_ne.2 (by omega)
    have h1 : (16 : Int) ≠ 0 := by decide
    have ge : ((16 : Int) != 0) = true := by decide
    rw [ho]
    by_cases g : k < 1
    · simp only [decide_eq_true g, g1, g2, g3, g4, p80_ok h1, bind_val, cond_true, cond_false, eqL_t, orK_inl, p51_er h1, p29_er h1, ge]
      rfl
    · have g5 : k > 5 := by omega
      simp only [decide_eq_false g, decide_eq_true g5, g1, g2, g3, g4, p80_ok h1, bind_val, cond_true, cond_false, eqL_t, orK_inl, p51_er h1, p29_er h1, ge]
      rfl
  have hi0 : itkS a 0 = .ok c0 k := by unfold itkS; rw [hu0]; exact if_neg hbad
  have n1 : ¬ k < 1 := fun x => hbad (.inl x)
  have n5 : ¬ k > 5 := fun x => hbad (.inr x)
  have hp := p51D (fu := fu) hA hc0
  simp only [bind_val, decide_eq_false n1, decide_eq_false n5, cond_false, orK_inl]
  rcases hu1 : uS a c0 with ⟨c1, g⟩ | ⟨e, q⟩
  rotate_left
  · have ho : outI a = (zeroI, e, ()) := by unfold outI itemS; rw [hi0]; simp only [RR.bind]; rw [hu1]
    rw [hu1] at hp
    obtain ⟨h1, c9, h3⟩ := hp
    have ge : (e != 0) = true := bne_iff_ne.2 h1
    rw [ho]
    simp only [bind_val, h3]
    by_cases k1 : k = 1
    · have g1 : (k == (1 : Int)) = true := beq_iff_eq.2 k1
      simp only [g1, bind_val, cond_true, eqL_t, orK_inl, p51_er h1, p65_er h1, p74_er h1 hA.hfu, p76_er h1 hA.hfu, p29_er h1, ge]
      rfl
    have g1 : (k == (1 : Int)) = false := beq_eq_false_iff_ne.2 k1
    by_cases k2 : k = 2
    · have g2 : (k == (2 : Int)) = true := beq_iff_eq.2 k2
      simp only [g1, g2, bind_val, cond_true, cond_false, eqL_t, orK_inl, p51_er h1, p65_er h1, p74_er h1 hA.hfu, p76_er h1 hA.hfu, p29_er h1, ge]
      rfl
    have g2 : (k == (2 : Int)) = false := beq_eq_false_iff_ne.2 k2
    by_cases k3 : k = 3
    · have g3 : (k == (3 : Int)) = true := beq_iff_eq.2 k3
      simp only [g1, g2, g3, bind_val, cond_true, cond_false, eqL_t, orK_inl, p51_er h1, p65_er h1, p74_er h1 hA.hfu, p76_er h1 hA.hfu, p29_er h1, ge]
      rfl
    have g3 : (k == (3 : Int)) = false := beq_eq_false_iff_ne.2 k3
    by_cases k4 : k = 4
    · have g4 : (k == (4 : Int)) = true := beq_iff_eq.2 k4
      simp only [g1, g2, g3, g4, bind_val, cond_true, cond_false, eqL_t, orK_inl, p51_er h1, p65_er h1, p74_er h1 hA.hfu, p76_er h1 hA.hfu, p29_er h1, ge]
      rfl
    have g4 : (k == (4 : Int)) = false := beq_eq_false_iff_ne.2 k4
    simp only [g1, g2, g3, g4, bind_val, cond_true, cond_false, eqL_t, orK_inl, p51_er h1, p65_er h1, p74_er h1 hA.hfu, p76_er h1 hA.hfu, p29_er h1, ge]
    rfl
  have hi : itemS a = bodS a k g c1 := by unfold itemS; rw [hi0]; simp only [RR.bind]; rw [hu1]
  rw [hu1] at hp
  obtain ⟨hc1, hg, h3⟩ := hp
  simp only [bind_val, h3]
  by_cases k1 : k = 1
  · have g1 : (k == (1 : Int)) = true := beq_iff_eq.2 k1
    unfold bodS at hi
    rw [if_pos k1] at hi
    have hp0 := p74D (fu := fu) hA hc1
    rcases hv0 : entS a c1 with ⟨d0, v0⟩ | ⟨e, q⟩
    rotate_left
    · rw [hv0] at hp0 hi
      have ho : outI a = (zeroI, e, ()) := by unfold outI; (rw [hi]) <;> rfl
      obtain ⟨h1, c9, h9⟩ := hp0
      have ge : (e != 0) = true := bne_iff_ne.2 h1
      rw [ho]
      simp only [g1, bind_val, cond_true, eqL_t, orK_inl, h9, p29_er h1, ge]
      rfl
    rw [hv0] at hp0 hi
    obtain ⟨hd0, hw0, h40⟩ := hp0
    by_cases hlt : (d0 : Int) < (a.length : Int)
    · have ho : outI a = (zeroI, 15, ()) := by unfold outI; rw [hi]; exact if_pos hlt
      rw [ho]
      simp only [g1, bind_val, cond_true, eqL_t, orK_inl, h40, p29_ok, if_pos hlt, show ((15 : Int) != 0) = true from rfl]
      rfl
    · unfold outI
      rw [hi]
      simp only [RR.bind, g1, bind_val, cond_true, cond_false, eqL_t, orK_inl, h40, p29_ok, if_neg hlt, bne_self_eq_false]
  have g1 : (k == (1 : Int)) = false := beq_eq_false_iff_ne.2 k1
  by_cases k2 : k = 2
  · have g2 : (k == (2 : Int)) = true := beq_iff_eq.2 k2
    unfold bodS at hi
    rw [if_neg k1] at hi
    rw [if_pos k2] at hi
    have hp0 := p51D (fu := fu) hA hc1
    rcases hv0 : uS a c1 with ⟨d0, v0⟩ | ⟨e, q⟩
    rotate_left
    · rw [hv0] at hp0 hi
      have ho : outI a = (zeroI, e, ()) := by unfold outI; (rw [hi]) <;> rfl
      obtain ⟨h1, c9, h9⟩ := hp0
      have ge : (e != 0) = true := bne_iff_ne.2 h1
      rw [ho]
      simp only [g1, g2, bind_val, cond_true, cond_false, eqL_t, orK_inl, h9, p51_er h1, p65_er h1, p29_er h1, ge]
      rfl
    rw [hv0] at hp0 hi
    obtain ⟨hd0, hw0, h40⟩ := hp0
    simp only [RR.bind] at hi
    have hp1 := p65D (fu := fu) hA hd0
    rcases hv1 : iS a d0 with ⟨d1, v1⟩ | ⟨e, q⟩
    rotate_left
    · rw [hv1] at hp1 hi
      have ho : outI a = (zeroI, e, ()) := by unfold outI; (rw [hi]) <;> rfl
      obtain ⟨h1, c9, h9⟩ := hp1
      have ge : (e != 0) = true := bne_iff_ne.2 h1
      rw [ho]
      simp only [g1, g2, bind_val, cond_true, cond_false, eqL_t, orK_inl, h40, h9, p51_er h1, p29_er h1, ge]
      rfl
    rw [hv1] at hp1 hi
    obtain ⟨hd1, hw1, h41⟩ := hp1
    simp only at hi
    have hp2 := p51D (fu := fu) hA hd1
    rcases hv2 : uS a d1 with ⟨d2, v2⟩ | ⟨e, q⟩
    rotate_left
    · rw [hv2] at hp2 hi
      have ho : outI a = (zeroI, e, ()) := by unfold outI; (rw [hi]) <;> rfl
      obtain ⟨h1, c9, h9⟩ := hp2
      have ge : (e != 0) = true := bne_iff_ne.2 h1
      rw [ho]
      simp only [g1, g2, bind_val, cond_true, cond_false, eqL_t, orK_inl, h40, h41, h9, p29_er h1, ge]
      rfl
    rw [hv2] at hp2 hi
    obtain ⟨hd2, hw2, h42⟩ := hp2
    by_cases hlt : (d2 : Int) < (a.length : Int)
    · have ho : outI a = (zeroI, 15, ()) := by unfold outI; rw [hi]; exact if_pos hlt
      rw [ho]
      simp only [g1, g2, bind_val, cond_true, cond_false, eqL_t, orK_inl, h40, h41, h42, p29_ok, if_pos hlt, show ((15 : Int) != 0) = true from rfl]
      rfl
    · unfold outI
      rw [hi]
      simp only [g1, g2, bind_val, cond_true, cond_false, eqL_t, orK_inl, h40, h41, h42, p29_ok, if_neg hlt, bne_self_eq_false]
  have g2 : (k == (2 : Int)) = false := beq_eq_false_iff_ne.2 k2
  by_cases k3 : k = 3
  · have g3 : (k == (3 : Int)) = true := beq_iff_eq.2 k3
    unfold bodS at hi
    rw [if_neg k1] at hi
    rw [if_neg k2] at hi
    rw [if_pos k3] at hi
    have hp0 := p51D (fu := fu) hA hc1
    rcases hv0 : uS a c1 with ⟨d0, v0⟩ | ⟨e, q⟩
    rotate_left
    · rw [hv0] at hp0 hi
      have ho : outI a = (zeroI, e, ()) := by unfold outI; (rw [hi]) <;> rfl
      obtain ⟨h1, c9, h9⟩ := hp0
      have ge : (e != 0) = true := bne_iff_ne.2 h1
      rw [ho]
      simp only [g1, g2, g3, bind_val, cond_true, cond_false, eqL_t, orK_inl, h9, p51_er h1, p65_er h1, p29_er h1, ge]
      rfl
    rw [hv0] at hp0 hi
    obtain ⟨hd0, hw0, h40⟩ := hp0
    by_cases hlt : (d0 : Int) < (a.length : Int)
    · have ho : outI a = (zeroI, 15, ()) := by unfold outI; rw [hi]; exact if_pos hlt
      rw [ho]
      simp only [g1, g2, g3, bind_val, cond_true, cond_false, eqL_t, orK_inl, h40, p29_ok, if_pos hlt, show ((15 : Int) != 0) = true from rfl]
      rfl
    · unfold outI
      rw [hi]
      simp only [RR.bind, g1, g2, g3, bind_val, cond_true, cond_false, eqL_t, orK_inl, h40, p29_ok, if_neg hlt, bne_self_eq_false]
  have g3 : (k == (3 : Int)) = false := beq_eq_false_iff_ne.2 k3
  by_cases k4 : k = 4
  · have g4 : (k == (4 : Int)) = true := beq_iff_eq.2 k4
    unfold bodS at hi
    rw [if_neg k1] at hi
    rw [if_neg k2] at hi
    rw [if_neg k3] at hi
    rw [if_pos k4] at hi
    have hp0 := p76D (fu := fu) hA hc1
    rcases hv0 : snapS a c1 with ⟨d0, v0⟩ | ⟨e, q⟩
    rotate_left
    · rw [hv0] at hp0 hi
      have ho : outI a = (zeroI, e, ()) := by unfold outI; (rw [hi]) <;> rfl
      obtain ⟨h1, c9, h9⟩ := hp0
      have ge : (e != 0) = true := bne_iff_ne.2 h1
      rw [ho]
      simp only [g1, g2, g3, g4, bind_val, cond_true, cond_false, eqL_t, orK_inl, h9, p29_er h1, ge]
      rfl
    rw [hv0] at hp0 hi
    obtain ⟨hd0, hw0, h40⟩ := hp0
    by_cases hlt : (d0 : Int) < (a.length : Int)
    · have ho : outI a = (zeroI, 15, ()) := by unfold outI; rw [hi]; exact if_pos hlt
      rw [ho]
      simp only [g1, g2, g3, g4, bind_val, cond_true, cond_false, eqL_t, orK_inl, h40, p29_ok, if_pos hlt, show ((15 : Int) != 0) = true from rfl]
      rfl
    · unfold outI
      rw [hi]
      simp only [RR.bind, g1, g2, g3, g4, bind_val, cond_true, cond_false, eqL_t, orK_inl, h40, p29_ok, if_neg hlt, bne_self_eq_false]
  have g4 : (k == (4 : Int)) = false := beq_eq_false_iff_ne.2 k4
  unfold bodS at hi
  rw [if_neg k1] at hi
  rw [if_neg k2] at hi
  rw [if_neg k3] at hi
  rw [if_neg k4] at hi
  by_cases hlt : (c1 : Int) < (a.length : Int)
  · have ho : outI a = (zeroI, 15, ()) := by unfold outI; rw [hi]; exact if_pos hlt
    rw [ho]
    simp only [g1, g2, g3, g4, bind_val, cond_true, cond_false, eqL_t, orK_inl, p29_ok, if_pos hlt, show ((15 : Int) != 0) = true from rfl]
    rfl
  · unfold outI
    rw [hi]
    simp only [g1, g2, g3, g4, bind_val, cond_true, cond_false, eqL_t, orK_inl, p29_ok, if_neg hlt, bne_self_eq_false]
end
section
variable {fu : Nat}
theorem p34uF_is {v : Int} (hv : isU v) (hfu : 10 < fu) : p34 fu (((), ()), v, ()) = some (((uB v, ()), ()), ()) := by
  have h10 := uB_len hv
  unfold p34
  dsimp only
  refine loopO_eq (fun (s : (Int × Unit) × ((List Int × Unit) × Unit)) => isU s.1.1 ∧ s.2.1.1.length + (uB s.1.1).length ≤ 10) (fun s => (uB s.1.1).length) (fun s => (((s.2.1.1 ++ uB s.1.1, ()), ()), ())) ?_ fu ((v, ()), (([], ()), ())) ⟨hv, by simpa using h10⟩ (Nat.lt_of_le_of_lt h10 hfu)
  rintro ⟨⟨f, ⟨⟩⟩, ⟨⟨h, ⟨⟩⟩, ⟨⟩⟩⟩ ⟨⟨h0, h1⟩, h2⟩
  dsimp only at h0 h1 h2
  obtain ⟨n, rfl⟩ := Int.eq_ofNat_of_zero_le h0
  have e : uB ((n : Nat) : Int) = ub n := rfl
  simp only [e] at h2 ⊢
  by_cases hn : n < 128
  · right
    rw [ub_small hn] at h2 ⊢
    simp only [List.length_singleton] at h2
    have hw : IntKind.wrap .u8 (n : Int) = (n : Int) := wu8 (by omega) (by omega)
    have hge : ¬ ((n : Int) ≥ 128) := by omega
    have hl : (h.length + 1 ≤ maxLen ∧ (h.length + 1) * 1 ≤ 140737488355328) = True := eq_true ⟨fits_top (by omega), by omega⟩
    simp only [hge, hw, hl, List.length_singleton, decide_false, decide_true, eqL_t, cond_false, cond_true, inrO, Option.map_some]
  · left
    rw [ub_big hn] at h2 ⊢
    simp only [List.length_cons] at h2
    have hl : (h.length + 1 ≤ maxLen ∧ (h.length + 1) * 1 ≤ 140737488355328) = True := eq_true ⟨fits_top (by omega), by omega⟩
    refine ⟨((((n / 128 : Nat) : Int), ()), ((h ++ [((n % 128 + 128 : Nat) : Int)], ()), ())), ?_, ⟨⟨by dsimp only; omega, by dsimp only; omega⟩, ?_⟩, ?_, ?_⟩
    · have hge : (n : Int) ≥ 128 := by omega
      simp only [lowP, fdiv7, List.length_singleton, hl, hge, decide_true, eqL_t, cond_true]
    · show (h ++ [((n % 128 + 128 : Nat) : Int)]).length + (ub (n / 128)).length ≤ _
      simp only [List.length_append, List.length_singleton]
      omega
    · show (ub (n / 128)).length < _
      simp
    · show (((((h ++ [((n % 128 + 128 : Nat) : Int)]) ++ ub (n / 128), ()), ()), ())) = _
      simp
theorem fitF {n : Nat} (h : n ≤ 140737488355328) : (n ≤ maxLen ∧ n * 1 ≤ 140737488355328) = True := eq_true ⟨fits_top h, by omega⟩
theorem p37u_is {c : Int} (hc : isI c) (hfu : 10 < fu) : p37 fu (((), ()), c, ()) = some (((iB c, ()), ()), ()) := by
  unfold p37
  simp only [zzP hc]
  rw [p34uF_is (zz_u hc) hfu]
  simp only [Option.bind_some, eqL_t, cond_true]
  rfl
theorem p27_is {a : List Int} (h : a.length ≤ 140737488355328) : p27 fu ((a, ()), ()) = some ((), a) := by
  unfold p27
  simp only [fits2 h, decide_true, eqL_t, cond_true]
theorem p11i_is (hfu : 30 < fu) : p11 fu () = some ((), true) := by
  obtain ⟨m, rfl⟩ : ∃ m, fu = m + 30 := ⟨fu - 30, by omega⟩
  kernel_rfl
/-- An item that may be written. -/
structure itOk (fu : Nat) (x : IT) : Prop where
  k : isI x.1
  g : isU x.2.1
  i : isU x.2.2.1
  t : isU x.2.2.2.1
  ek : isI x.2.2.2.2.1
  d : x.2.2.2.2.2.1.length ≤ 1048576
  c : confOk fu x.2.2.2.2.2.2.1 x.2.2.2.2.2.2.2.1
  ht : isU x.2.2.2.2.2.2.2.2.1
  hv : isI x.2.2.2.2.2.2.2.2.2.1
  hc : isU x.2.2.2.2.2.2.2.2.2.2.1
  ix : isU x.2.2.2.2.2.2.2.2.2.2.2.1
  si : isU x.2.2.2.2.2.2.2.2.2.2.2.2.1
  st : isU x.2.2.2.2.2.2.2.2.2.2.2.2.2.1
  sc : confOk fu x.2.2.2.2.2.2.2.2.2.2.2.2.2.2.1 x.2.2.2.2.2.2.2.2.2.2.2.2.2.2.2.1
  sd : x.2.2.2.2.2.2.2.2.2.2.2.2.2.2.2.2.1.length ≤ 1048576
def hdB (k g : Int) : List Int := iB k ++ uB g
def itB (x : IT) : List Int :=
  if x.1 = 1 then hdB x.1 x.2.1 ++ eB x.2.2.1 x.2.2.2.1 x.2.2.2.2.1 x.2.2.2.2.2.1 x.2.2.2.2.2.2.1 x.2.2.2.2.2.2.2.1
  else if x.1 = 2 then hdB x.1 x.2.1 ++ (uB x.2.2.2.2.2.2.2.2.1 ++ (iB x.2.2.2.2.2.2.2.2.2.1 ++ uB x.2.2.2.2.2.2.2.2.2.2.1))
  else if x.1 = 3 then hdB x.1 x.2.1 ++ uB x.2.2.2.2.2.2.2.2.2.2.2.1
  else if x.1 = 4 then hdB x.1 x.2.1 ++ sB x.2.2.2.2.2.2.2.2.2.2.2.2.1 x.2.2.2.2.2.2.2.2.2.2.2.2.2.1 x.2.2.2.2.2.2.2.2.2.2.2.2.2.2.1 x.2.2.2.2.2.2.2.2.2.2.2.2.2.2.2.1 x.2.2.2.2.2.2.2.2.2.2.2.2.2.2.2.2.1
  else if x.1 = 5 then hdB x.1 x.2.1
  else []
theorem eB_len {i t k : Int} {d v l : List Int} (hi : isU i) (ht : isU t) (hk : isI k) (hd : d.length ≤ 1048576) (hc : confOk fu v l) : (eB i t k d v l).length ≤ 22020200 := by
  have l0 := uB_len hi
  have l1 := uB_len ht
  have l2 : (iB k).length ≤ 10 := uB_len (zz_u hk)
  have l3 := tB_len (l := d) (by omega)
  have l4 := cB_len hc
  unfold eB
  simp only [List.length_append]
  omega
theorem sB_len {i t : Int} {d v l : List Int} (hi : isU i) (ht : isU t) (hd : d.length ≤ 1048576) (hc : confOk fu v l) : (sB i t v l d).length ≤ 22020200 := by
  have l0 := uB_len hi
  have l1 := uB_len ht
  have l3 := tB_len (l := d) (by omega)
  have l4 := cB_len hc
  unfold sB
  simp only [List.length_append]
  omega
theorem hdB_len {k g : Int} (hk : isI k) (hg : isU g) : (hdB k g).length ≤ 20 := by
  have l0 := uB_len hg
  have l2 : (iB k).length ≤ 10 := uB_len (zz_u hk)
  unfold hdB
  rw [List.length_append]
  omega
theorem p13_is {k g i t ek ht hv hc ix si st : Int} {d v l sv sl sd : List Int} (h : itOk fu (k, g, i, t, ek, d, v, l, ht, hv, hc, ix, si, st, sv, sl, sd, ())) (hfu : 10 < fu) : p13 fu ((k, g, i, t, ek, d, v, l, ht, hv, hc, ix, si, st, sv, sl, sd, ()), ()) = some ((), itB (k, g, i, t, ek, d, v, l, ht, hv, hc, ix, si, st, sv, sl, sd, ())) := by
  have Hi : isU i := h.i
  have Ht : isU t := h.t
  have Hek : isI ek := h.ek
  have Hd : d.length ≤ 1048576 := h.d
  have Hc : confOk fu v l := h.c
  have Hht : isU ht := h.ht
  have Hhv : isI hv := h.hv
  have Hhc : isU hc := h.hc
  have Hix : isU ix := h.ix
  have Hsi : isU si := h.si
  have Hst : isU st := h.st
  have Hsc : confOk fu sv sl := h.sc
  have Hsd : sd.length ≤ 1048576 := h.sd
  have hk : isI k := h.k
  have hg : isU g := h.g
  have lh := hdB_len hk hg
  have l1 : (iB k).length ≤ 10 := uB_len (zz_u hk)
  have l2 := uB_len hg
  have eh : iB k ++ uB g = hdB k g := rfl
  unfold p13
  dsimp only
  rw [p37u_is hk hfu]
  simp only [Option.bind_some, eqL_t, cond_true]
  rw [p34_is hg (by omega) hfu]
  simp only [Option.bind_some, eh]
  by_cases k1 : k = 1
  · have g1 : (k == (1 : Int)) = true := beq_iff_eq.2 k1
    have hb : itB (k, g, i, t, ek, d, v, l, ht, hv, hc, ix, si, st, sv, sl, sd, ()) = hdB k g ++ eB i t ek d v l := by unfold itB; exact if_pos k1
    rw [hb]
    have le := eB_len (fu := fu) Hi Ht Hek Hd Hc
    simp only [g1, cond_true]
    rw [p38_is Hi Ht Hek Hc (by omega) hfu]
    simp only [Option.bind_some]
    rw [p27_is (by first | omega | (simp only [List.length_append]; omega))]
    simp only [Option.bind_some]
  have g1 : (k == (1 : Int)) = false := beq_eq_false_iff_ne.2 k1
  by_cases k2 : k = 2
  · have g2 : (k == (2 : Int)) = true := beq_iff_eq.2 k2
    have hb : itB (k, g, i, t, ek, d, v, l, ht, hv, hc, ix, si, st, sv, sl, sd, ()) = hdB k g ++ (uB ht ++ (iB hv ++ uB hc)) := by unfold itB; rw [if_neg k1]; exact if_pos k2
    rw [hb]
    have m1 := uB_len Hht
    have m2 : (iB hv).length ≤ 10 := uB_len (zz_u Hhv)
    have m3 := uB_len Hhc
    simp only [g1, g2, cond_true, cond_false]
    rw [p34_is Hht (by first | omega | (dsimp only; omega) | (simp only [List.length_append]; omega)) hfu]
    simp only [Option.bind_some]
    rw [p37_is Hhv (by first | omega | (dsimp only; omega) | (simp only [List.length_append]; omega)) hfu]
    simp only [Option.bind_some, List.append_assoc]
    rw [p34_is Hhc (by first | omega | (dsimp only; omega) | (simp only [List.length_append]; omega)) hfu]
    simp only [Option.bind_some, List.append_assoc]
    rw [p27_is (by first | omega | (dsimp only; omega) | (simp only [List.length_append]; omega))]
    simp only [Option.bind_some]
  have g2 : (k == (2 : Int)) = false := beq_eq_false_iff_ne.2 k2
  by_cases k3 : k = 3
  · have g3 : (k == (3 : Int)) = true := beq_iff_eq.2 k3
    have hb : itB (k, g, i, t, ek, d, v, l, ht, hv, hc, ix, si, st, sv, sl, sd, ()) = hdB k g ++ uB ix := by unfold itB; rw [if_neg k1]; rw [if_neg k2]; exact if_pos k3
    rw [hb]
    have m1 := uB_len Hix
    simp only [g1, g2, g3, cond_true, cond_false]
    rw [p34_is Hix (by first | omega | (dsimp only; omega) | (simp only [List.length_append]; omega)) hfu]
    simp only [Option.bind_some]
    rw [p27_is (by first | omega | (dsimp only; omega) | (simp only [List.length_append]; omega))]
    simp only [Option.bind_some]
  have g3 : (k == (3 : Int)) = false := beq_eq_false_iff_ne.2 k3
  by_cases k4 : k = 4
  · have g4 : (k == (4 : Int)) = true := beq_iff_eq.2 k4
    have hb : itB (k, g, i, t, ek, d, v, l, ht, hv, hc, ix, si, st, sv, sl, sd, ()) = hdB k g ++ sB si st sv sl sd := by unfold itB; rw [if_neg k1]; rw [if_neg k2]; rw [if_neg k3]; exact if_pos k4
    rw [hb]
    have le := sB_len (fu := fu) Hsi Hst Hsd Hsc
    simp only [g1, g2, g3, g4, cond_true, cond_false]
    rw [p39_is Hsi Hst Hsc (by first | omega | (dsimp only; omega) | (simp only [List.length_append]; omega)) hfu]
    simp only [Option.bind_some]
    rw [p27_is (by first | omega | (dsimp only; omega) | (simp only [List.length_append]; omega))]
    simp only [Option.bind_some]
  have g4 : (k == (4 : Int)) = false := beq_eq_false_iff_ne.2 k4
  by_cases k5 : k = 5
  · have g5 : (k == (5 : Int)) = true := beq_iff_eq.2 k5
    have hb : itB (k, g, i, t, ek, d, v, l, ht, hv, hc, ix, si, st, sv, sl, sd, ()) = hdB k g := by unfold itB; rw [if_neg k1]; rw [if_neg k2]; rw [if_neg k3]; rw [if_neg k4]; exact if_pos k5
    rw [hb]
    simp only [g1, g2, g3, g4, g5, cond_true, cond_false]
    rw [p27_is (by omega)]
    simp only [Option.bind_some]
  have g5 : (k == (5 : Int)) = false := beq_eq_false_iff_ne.2 k5
  have hb : itB (k, g, i, t, ek, d, v, l, ht, hv, hc, ix, si, st, sv, sl, sd, ()) = [] := by unfold itB; rw [if_neg k1]; rw [if_neg k2]; rw [if_neg k3]; rw [if_neg k4]; exact if_neg k5
  rw [hb]
  simp only [g1, g2, g3, g4, g5, cond_false]
theorem p32_is {k g i t ek ht hv hc ix si st : Int} {d v l sv sl sd : List Int} (h : itOk fu (k, g, i, t, ek, d, v, l, ht, hv, hc, ix, si, st, sv, sl, sd, ())) (hfu : 10 < fu) : p32 fu ((k, g, i, t, ek, d, v, l, ht, hv, hc, ix, si, st, sv, sl, sd, ()), ()) = some ((), itB (k, g, i, t, ek, d, v, l, ht, hv, hc, ix, si, st, sv, sl, sd, ())) := by
  have Hi : isU i := h.i
  have Ht : isU t := h.t
  have Hek : isI ek := h.ek
  have Hd : d.length ≤ 1048576 := h.d
  have Hc : confOk fu v l := h.c
  have Hht : isU ht := h.ht
  have Hhv : isI hv := h.hv
  have Hhc : isU hc := h.hc
  have Hix : isU ix := h.ix
  have Hsi : isU si := h.si
  have Hst : isU st := h.st
  have Hsc : confOk fu sv sl := h.sc
  have Hsd : sd.length ≤ 1048576 := h.sd
  have hk : isI k := h.k
  have hg : isU g := h.g
  have lh := hdB_len hk hg
  have l1 : (iB k).length ≤ 10 := uB_len (zz_u hk)
  have l2 := uB_len hg
  have eh : iB k ++ uB g = hdB k g := rfl
  have f1 := fits2 (n := (iB k).length + (uB g).length) (by omega)
  unfold p32
  dsimp only
  rw [p53_is hk hfu]
  simp only [Option.bind_some]
  rw [p52_is hg hfu]
  simp only [Option.bind_some, f1, eqL_t, decide_true, cond_true, eh]
  by_cases k1 : k = 1
  · have g1 : (k == (1 : Int)) = true := beq_iff_eq.2 k1
    have hb : itB (k, g, i, t, ek, d, v, l, ht, hv, hc, ix, si, st, sv, sl, sd, ()) = hdB k g ++ eB i t ek d v l := by unfold itB; exact if_pos k1
    rw [hb]
    have le := eB_len (fu := fu) Hi Ht Hek Hd Hc
    simp only [g1, cond_true]
    rw [p59_is Hi Ht Hek Hd Hc hfu]
    simp only [Option.bind_some, cond_true, fits2 (n := (hdB k g).length + (eB i t ek d v l).length) (by omega), decide_true]
  have g1 : (k == (1 : Int)) = false := beq_eq_false_iff_ne.2 k1
  by_cases k2 : k = 2
  · have g2 : (k == (2 : Int)) = true := beq_iff_eq.2 k2
    have hb : itB (k, g, i, t, ek, d, v, l, ht, hv, hc, ix, si, st, sv, sl, sd, ()) = hdB k g ++ (uB ht ++ (iB hv ++ uB hc)) := by unfold itB; rw [if_neg k1]; exact if_pos k2
    rw [hb]
    have m1 := uB_len Hht
    have m2 : (iB hv).length ≤ 10 := uB_len (zz_u Hhv)
    have m3 := uB_len Hhc
    simp only [g1, g2, cond_true, cond_false]
    rw [p52_is Hht hfu]
    simp only [Option.bind_some, cond_true, List.length_append, fits2 (n := (hdB k g).length + (uB ht).length) (by omega), decide_true]
    rw [p53_is Hhv hfu]
    simp only [Option.bind_some, cond_true, fits2 (n := (hdB k g).length + (uB ht).length + (iB hv).length) (by omega), decide_true]
    rw [p52_is Hhc hfu]
    simp only [Option.bind_some, cond_true, fits2 (n := (hdB k g).length + (uB ht).length + (iB hv).length + (uB hc).length) (by omega), decide_true, List.append_assoc]
  have g2 : (k == (2 : Int)) = false := beq_eq_false_iff_ne.2 k2
  by_cases k3 : k = 3
  · have g3 : (k == (3 : Int)) = true := beq_iff_eq.2 k3
    have hb : itB (k, g, i, t, ek, d, v, l, ht, hv, hc, ix, si, st, sv, sl, sd, ()) = hdB k g ++ uB ix := by unfold itB; rw [if_neg k1]; rw [if_neg k2]; exact if_pos k3
    rw [hb]
    have m1 := uB_len Hix
    simp only [g1, g2, g3, cond_true, cond_false]
    rw [p52_is Hix hfu]
    simp only [Option.bind_some, cond_true, fits2 (n := (hdB k g).length + (uB ix).length) (by omega), decide_true]
  have g3 : (k == (3 : Int)) = false := beq_eq_false_iff_ne.2 k3
  by_cases k4 : k = 4
  · have g4 : (k == (4 : Int)) = true := beq_iff_eq.2 k4
    have hb : itB (k, g, i, t, ek, d, v, l, ht, hv, hc, ix, si, st, sv, sl, sd, ()) = hdB k g ++ sB si st sv sl sd := by unfold itB; rw [if_neg k1]; rw [if_neg k2]; rw [if_neg k3]; exact if_pos k4
    rw [hb]
    have le := sB_len (fu := fu) Hsi Hst Hsd Hsc
    simp only [g1, g2, g3, g4, cond_true, cond_false]
    rw [p60_is Hsi Hst Hsd Hsc hfu]
    simp only [Option.bind_some, cond_true, fits2 (n := (hdB k g).length + (sB si st sv sl sd).length) (by omega), decide_true]
  have g4 : (k == (4 : Int)) = false := beq_eq_false_iff_ne.2 k4
  by_cases k5 : k = 5
  · have g5 : (k == (5 : Int)) = true := beq_iff_eq.2 k5
    have hb : itB (k, g, i, t, ek, d, v, l, ht, hv, hc, ix, si, st, sv, sl, sd, ()) = hdB k g := by unfold itB; rw [if_neg k1]; rw [if_neg k2]; rw [if_neg k3]; rw [if_neg k4]; exact if_pos k5
    rw [hb]
    simp only [g1, g2, g3, g4, g5, cond_true, cond_false]
  have g5 : (k == (5 : Int)) = false := beq_eq_false_iff_ne.2 k5
  have hb : itB (k, g, i, t, ek, d, v, l, ht, hv, hc, ix, si, st, sv, sl, sd, ()) = [] := by unfold itB; rw [if_neg k1]; rw [if_neg k2]; rw [if_neg k3]; rw [if_neg k4]; exact if_neg k5
  rw [hb]
  simp only [g1, g2, g3, g4, g5, cond_false]
theorem p31_is {k g i t ek ht hv hc ix si st : Int} {d v l sv sl sd : List Int} (h1 : v.length ≤ 7) (h2 : l.length ≤ 7) (h3 : sv.length ≤ 7) (h4 : sl.length ≤ 7) (hfu : 10 < fu) : p31 fu ((k, g, i, t, ek, d, v, l, ht, hv, hc, ix, si, st, sv, sl, sd, ()), (k, g, i, t, ek, d, v, l, ht, hv, hc, ix, si, st, sv, sl, sd, ()), ()) = some ((), true) := by
  unfold p31
  dsimp only
  rw [p73_is h1 h2 hfu, bind_val, p75_is h3 h4 hfu]
  simp only [bind_val, cond_true, BEq.rfl, Bool.and_self]
end
section
variable {fu : Nat}
theorem conf_okL {a b : List Int} (h1 : okL a) (h2 : okL b) (hfu : 10 < fu) : confOk fu a b := ⟨h1.2, h2.2, Nat.le_trans h1.1 (by decide), Nat.le_trans h2.1 (by decide), Nat.lt_of_le_of_lt h1.1 (by omega), Nat.lt_of_le_of_lt h2.1 (by omega)⟩
/-- An item as it is read. -/
structure goodI (fu : Nat) (x : IT) : Prop where
  w : itOk fu x
  k1 : 1 ≤ x.1
  k5 : x.1 ≤ 5
  v : x.2.2.2.2.2.2.1.length ≤ 7
  l : x.2.2.2.2.2.2.2.1.length ≤ 7
  sv : x.2.2.2.2.2.2.2.2.2.2.2.2.2.2.1.length ≤ 7
  sl : x.2.2.2.2.2.2.2.2.2.2.2.2.2.2.2.1.length ≤ 7
theorem c0 (hfu : 10 < fu) : confOk fu [] [] := conf_okL okL_nil okL_nil hfu
theorem l0 : ([] : List Int).length ≤ 1048576 := by simp
theorem l7 : ([] : List Int).length ≤ 7 := by simp
theorem itemS_good {a : List Int} {c : Nat} {x : IT} (hA : okA fu a) (hl : a.length ≤ 1048576) (h : itemS a = .ok c x) : c ≤ a.length ∧ goodI fu x := by
  have hfu := hA.hfu
  have hk := p46P (fu := fu) (c := 0) hA (Nat.zero_le _)
  unfold itemS at h
  rcases hu0 : itkS a 0 with ⟨c0', k⟩ | ⟨e, q⟩
  rotate_left
  · rw [hu0] at h; cases h
  rw [hu0] at h hk
  obtain ⟨hc0, ⟨hk1, hk5⟩, _⟩ := hk
  have hkI : isI k := ⟨by omega, by omega⟩
  simp only [RR.bind] at h
  have hp := p15P (fu := fu) hA hc0
  rcases hu1 : uS a c0' with ⟨c1, g⟩ | ⟨e, q⟩
  rotate_left
  · rw [hu1] at h; cases h
  rw [hu1] at h hp
  obtain ⟨hc1, hg, _⟩ := hp
  simp only [] at h
  unfold bodS at h
  by_cases k1 : k = 1
  · rw [if_pos k1] at h
    have hp0 := p47P (fu := fu) hA hc1
    rcases hv0 : entS a c1 with ⟨d0, v0⟩ | ⟨e, q⟩
    · rw [hv0] at h hp0
      obtain ⟨g1, ⟨w1, w2, w3, w4, w5, w6⟩, _⟩ := hp0
      injection h with h1 h2
      subst h1 h2
      exact ⟨g1, ⟨⟨hkI, hg, w1, w2, ⟨by have := w3.1; dsimp only; omega, by have := w3.2; dsimp only; omega⟩, Nat.le_trans w4.1 hl, conf_okL w5 w6 hfu, isU0, isI0, isU0, isU0, isU0, isU0, c0 hfu, l0⟩, hk1, hk5, w5.1, w6.1, l7, l7⟩⟩
    · rw [hv0] at h; cases h
  rw [if_neg k1] at h
  by_cases k2 : k = 2
  · rw [if_pos k2] at h
    have hp0 := p15P (fu := fu) hA hc1
    rcases hv0 : uS a c1 with ⟨d0, v0⟩ | ⟨e, q⟩
    rotate_left
    · rw [hv0] at h; cases h
    rw [hv0] at h hp0
    obtain ⟨g1, w1, _⟩ := hp0
    simp only [RR.bind] at h
    have hp1 := p48P (fu := fu) hA g1
    rcases hv1 : iS a d0 with ⟨d1, v1⟩ | ⟨e, q⟩
    rotate_left
    · rw [hv1] at h; cases h
    rw [hv1] at h hp1
    obtain ⟨g2, w2, _⟩ := hp1
    simp only [] at h
    have hp2 := p15P (fu := fu) hA g2
    rcases hv2 : uS a d1 with ⟨d2, v2⟩ | ⟨e, q⟩
    rotate_left
    · rw [hv2] at h; cases h
    rw [hv2] at h hp2
    obtain ⟨g3, w3, _⟩ := hp2
    injection h with h1 h2
    subst h1 h2
    exact ⟨g3, ⟨⟨hkI, hg, isU0, isU0, isI0, l0, c0 hfu, w1, w2, w3, isU0, isU0, isU0, c0 hfu, l0⟩, hk1, hk5, l7, l7, l7, l7⟩⟩
  rw [if_neg k2] at h
  by_cases k3 : k = 3
  · rw [if_pos k3] at h
    have hp0 := p15P (fu := fu) hA hc1
    rcases hv0 : uS a c1 with ⟨d0, v0⟩ | ⟨e, q⟩
    rotate_left
    · rw [hv0] at h; cases h
    rw [hv0] at h hp0
    obtain ⟨g1, w1, _⟩ := hp0
    injection h with h1 h2
    subst h1 h2
    exact ⟨g1, ⟨⟨hkI, hg, isU0, isU0, isI0, l0, c0 hfu, isU0, isI0, isU0, w1, isU0, isU0, c0 hfu, l0⟩, hk1, hk5, l7, l7, l7, l7⟩⟩
  rw [if_neg k3] at h
  by_cases k4 : k = 4
  · rw [if_pos k4] at h
    have hp0 := p49P (fu := fu) hA hc1
    rcases hv0 : snapS a c1 with ⟨d0, v0⟩ | ⟨e, q⟩
    rotate_left
    · rw [hv0] at h; cases h
    rw [hv0] at h hp0
    obtain ⟨g1, ⟨w1, w2, w3, w4, w5⟩, _⟩ := hp0
    injection h with h1 h2
    subst h1 h2
    exact ⟨g1, ⟨⟨hkI, hg, isU0, isU0, isI0, l0, c0 hfu, isU0, isI0, isU0, isU0, w1, w2, conf_okL w3 w4 hfu, Nat.le_trans w5.1 hl⟩, hk1, hk5, l7, l7, w3.1, w4.1⟩⟩
  rw [if_neg k4] at h
  injection h with h1 h2
  subst h1 h2
  exact ⟨hc1, ⟨⟨hkI, hg, isU0, isU0, isI0, l0, c0 hfu, isU0, isI0, isU0, isU0, isU0, isU0, c0 hfu, l0⟩, hk1, hk5, l7, l7, l7, l7⟩⟩
/-- What is read: an item with short lists. -/
theorem outI_is {a : List Int} (hA : okA fu a) (hl : a.length ≤ 1048576) : ∃ x e, outI a = (x, e, ()) ∧ x.2.2.2.2.2.2.1.length ≤ 7 ∧ x.2.2.2.2.2.2.2.1.length ≤ 7 ∧ x.2.2.2.2.2.2.2.2.2.2.2.2.2.2.1.length ≤ 7 ∧ x.2.2.2.2.2.2.2.2.2.2.2.2.2.2.2.1.length ≤ 7 := by
  unfold outI
  rcases h : itemS a with ⟨c, x⟩ | ⟨e, q⟩
  · have hg := (itemS_good hA hl h).2
    by_cases hlt : (c : Int) < (a.length : Int)
    · exact ⟨_, _, if_pos hlt, l7, l7, l7, l7⟩
    · exact ⟨_, _, if_neg hlt, hg.v, hg.l, hg.sv, hg.sl⟩
  · exact ⟨_, _, rfl, l7, l7, l7, l7⟩
theorem p7_is {k g i t ek ht hv hc ix si st : Int} {d v l sv sl sd b : List Int} (h : itOk fu (k, g, i, t, ek, d, v, l, ht, hv, hc, ix, si, st, sv, sl, sd, ())) (hA : okA fu b) (hl : b.length ≤ 1048576) (hfu : 30 < fu) : p7 fu ((k, g, i, t, ek, d, v, l, ht, hv, hc, ix, si, st, sv, sl, sd, ()), b, ()) = some ((), true) := by
  obtain ⟨⟨x1, x2, x3, x4, x5, x6, x7, x8, x9, x10, x11, x12, x13, x14, x15, x16, x17, ⟨⟩⟩, e, ho, h1, h2, h3, h4⟩ := outI_is hA hl
  unfold p7
  dsimp only
  rw [p11i_is hfu, bind_val, p13_is h (by omega), bind_val, p20_is hA, bind_val, ho]
  simp only []
  rw [p30_is hA, bind_val, ho]
  simp only [eqL_t, cond_true]
  rw [p31_is h1 h2 h3 h4 (by omega), bind_val]
  simp only [cond_true]
  rw [p32_is h (by omega)]
  simp only [bind_val, BEq.rfl, cond_true]
end
end Go.Proofs.YtfhdpeceppafiaaDoor
