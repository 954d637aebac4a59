/-
  Numbers as bytes: what stands for a number, a signed one, a text, a list. Of no program.
-/
import Derived.Test.YtahamggipcikgaaDoorDaP
import Derived.Test.YtahamggipcikgaaDoorDaL
namespace Go.Proofs.YtahamggipcikgaaDoor
open Go.RowKit
section

theorem wuk {x : Int} (k : IntKind) (hk : k.signed = false) (h1 : 0 ≤ x) (h2 : x < 2 ^ k.bits) : IntKind.wrap k x = x := by
  unfold IntKind.wrap
  simp only [hk, Bool.false_and, Bool.false_eq_true, if_false]
  exact Int.emod_eq_of_lt h1 h2
theorem wu64 {x : Int} (h1 : 0 ≤ x) (h2 : x < 18446744073709551616) : IntKind.wrap .u64 x = x := wuk .u64 rfl h1 h2
theorem wu8 {x : Int} (h1 : 0 ≤ x) (h2 : x < 256) : IntKind.wrap .u8 x = x := wuk .u8 rfl h1 h2
theorem wrap_u8m (n : Nat) : IntKind.wrap .u8 (n : Int) = ((n % 256 : Nat) : Int) := by
  show (n : Int) % 256 = _
  omega
theorem wi64 {x : Int} (h1 : -9223372036854775808 ≤ x) (h2 : x < 9223372036854775808) : IntKind.wrap .i64 x = x := by
  have e1 : (2 : Int) ^ IntKind.bits .i64 = 18446744073709551616 := rfl
  have e2 : (2 : Int) ^ (IntKind.bits .i64 - 1) = 9223372036854775808 := rfl
  unfold IntKind.wrap
  simp only [e1, e2]
  split
  · rename_i h
    simp at h
    omega
  · rename_i h
    simp [IntKind.signed] at h
    omega
theorem fdiv7 (n : Nat) : Int.fdiv (n : Int) (2 ^ (min (Int.toNat (7 : Int)) (IntKind.bits .u64))) = ((n / 128 : Nat) : Int) := by
  show Int.fdiv (n : Int) 128 = _
  rw [Int.fdiv_eq_ediv_of_nonneg _ (by decide)]
  rfl
theorem or128 : ∀ x : BitVec 8, (x ||| 128#8).toNat = x.toNat % 128 + 128 := by decide +kernel
theorem or8 (n m : Nat) : ((BitVec.ofInt (IntKind.bits .u8) (n : Int) ||| BitVec.ofInt (IntKind.bits .u8) (m : Int)).toNat) = (BitVec.ofNat 8 n ||| BitVec.ofNat 8 m).toNat := by
  show (BitVec.ofInt 8 (n : Int) ||| BitVec.ofInt 8 (m : Int)).toNat = _
  rw [BitVec.ofInt_natCast, BitVec.ofInt_natCast]
theorem and64 (n m : Nat) : ((BitVec.ofInt (IntKind.bits .u64) (n : Int) &&& BitVec.ofInt (IntKind.bits .u64) (m : Int)).toNat) = (BitVec.ofNat 64 n &&& BitVec.ofNat 64 m).toNat := by
  show (BitVec.ofInt 64 (n : Int) &&& BitVec.ofInt 64 (m : Int)).toNat = _
  rw [BitVec.ofInt_natCast, BitVec.ofInt_natCast]
theorem xor64 (n m : Nat) : ((BitVec.ofInt (IntKind.bits .u64) (n : Int) ^^^ BitVec.ofInt (IntKind.bits .u64) (m : Int)).toNat) = (BitVec.ofNat 64 n ^^^ BitVec.ofNat 64 m).toNat := by
  show (BitVec.ofInt 64 (n : Int) ^^^ BitVec.ofInt 64 (m : Int)).toNat = _
  rw [BitVec.ofInt_natCast, BitVec.ofInt_natCast]
theorem lowP (n : Nat) : IntKind.wrap .u8 ((BitVec.ofInt (IntKind.bits .u8) (IntKind.wrap .u8 (n : Int)) ||| BitVec.ofInt (IntKind.bits .u8) (128 : Int)).toNat : Int) = ((n % 128 + 128 : Nat) : Int) := by
  have e1 : (BitVec.ofInt (IntKind.bits .u8) (IntKind.wrap .u8 (n : Int)) ||| BitVec.ofInt (IntKind.bits .u8) (128 : Int)).toNat = n % 128 + 128 := by
    rw [wrap_u8m]
    have := or8 (n % 256) 128
    have e3 := or128 (BitVec.ofNat 8 (n % 256))
    rw [BitVec.toNat_ofNat] at e3
    refine this.trans (e3.trans ?_)
    omega
  rw [e1]
  exact wu8 (by omega) (by omega)
def zz (c : Int) : Int := if c < 0 then -2 * c - 1 else 2 * c
def isI (c : Int) : Prop := -9223372036854775808 ≤ c ∧ c ≤ 9223372036854775807
def isU (c : Int) : Prop := 0 ≤ c ∧ c ≤ 18446744073709551615
theorem zz_u {c : Int} (h : isI c) : isU (zz c) := by
  unfold isI at h
  unfold zz isU
  split <;> omega
theorem xorAll (n : Nat) (h : n < 18446744073709551616) : ((BitVec.ofNat 64 n ^^^ BitVec.ofNat 64 18446744073709551615)).toNat = 18446744073709551615 - n := by
  have e : BitVec.ofNat 64 18446744073709551615 = BitVec.allOnes 64 := by decide
  rw [e, BitVec.xor_allOnes, BitVec.toNat_not, BitVec.toNat_ofNat, Nat.mod_eq_of_lt h]
theorem zzP {c : Int} (h : isI c) : IntKind.wrap .u64 ((BitVec.ofInt (IntKind.bits .u64) (IntKind.wrap .u64 ((IntKind.wrap .u64 c) * 2 ^ (min (Int.toNat (1 : Int)) (IntKind.bits .u64)))) ^^^ BitVec.ofInt (IntKind.bits .u64) (IntKind.wrap .u64 (Int.fdiv c (2 ^ (min (Int.toNat (63 : Int)) (IntKind.bits .i64)))))).toNat : Int) = zz c := by
  obtain ⟨h1, h2⟩ := h
  have e2 : (2 : Int) ^ (min (Int.toNat (1 : Int)) (IntKind.bits .u64)) = 2 := rfl
  have e63 : (2 : Int) ^ (min (Int.toNat (63 : Int)) (IntKind.bits .i64)) = 9223372036854775808 := rfl
  have em : ∀ x : Int, IntKind.wrap .u64 x = x % 18446744073709551616 := fun x => rfl
  rw [e2, e63, Int.fdiv_eq_ediv_of_nonneg _ (by decide)]
  unfold zz
  by_cases hc : c < 0
  · rw [if_pos hc]
    have d1 : IntKind.wrap .u64 (c / 9223372036854775808) = ((18446744073709551615 : Nat) : Int) := by rw [em]; omega
    have d2 : IntKind.wrap .u64 (IntKind.wrap .u64 c * 2) = ((18446744073709551616 + 2 * c).toNat : Int) := by rw [em, em]; omega
    rw [d1, d2, xor64, xorAll _ (by omega), em]
    omega
  · rw [if_neg hc]
    have d1 : IntKind.wrap .u64 (c / 9223372036854775808) = ((0 : Nat) : Int) := by rw [em]; omega
    have d2 : IntKind.wrap .u64 (IntKind.wrap .u64 c * 2) = ((2 * c).toNat : Int) := by rw [em, em]; omega
    rw [d1, d2, xor64, show BitVec.ofNat 64 0 = 0#64 from rfl, BitVec.xor_zero, BitVec.toNat_ofNat, Nat.mod_eq_of_lt (by omega), em]
    omega
def ub (v : Nat) : List Int := if v < 128 then [(v : Int)] else ((v % 128 + 128 : Nat) : Int) :: ub (v / 128)
termination_by v
decreasing_by omega
theorem ub_small {v : Nat} (h : v < 128) : ub v = [(v : Int)] := by rw [ub, if_pos h]
theorem ub_big {v : Nat} (h : ¬ v < 128) : ub v = ((v % 128 + 128 : Nat) : Int) :: ub (v / 128) := by rw [ub, if_neg h]
theorem ub_len : ∀ (k v : Nat), v < 128 ^ (k + 1) → (ub v).length ≤ k + 1
  | 0, v, h => by rw [ub_small (by simpa using h)]; simp
  | k + 1, v, h => by
    by_cases hv : v < 128
    · rw [ub_small hv]; simp
    · rw [ub_big hv]
      have h2 : v / 128 < 128 ^ (k + 1) := by
        rw [Nat.div_lt_iff_lt_mul (by decide)]
        rw [Nat.pow_succ] at h
        exact h
      have := ub_len k (v / 128) h2
      simp only [List.length_cons]
      omega
def uB (v : Int) : List Int := ub v.toNat
theorem uB_len {v : Int} (h : isU v) : (uB v).length ≤ 10 := by
  obtain ⟨h1, h2⟩ := h
  exact ub_len 9 _ (by have : (128 : Nat) ^ 10 = 1180591620717411303424 := by decide
                       omega)
def iB (c : Int) : List Int := uB (zz c)
def tB (l : List Int) : List Int := uB (l.length : Int) ++ l
def nB (l : List Int) : List Int := uB (l.length : Int) ++ l.flatMap iB
theorem flat_len {l : List Int} (h : ∀ x ∈ l, isI x) : (l.flatMap iB).length ≤ 10 * l.length := by
  induction l with
  | nil => simp
  | cons x l ih =>
    have h1 := uB_len (zz_u (h x (by simp)))
    have h2 := ih fun y hy => h y (by simp [hy])
    simp only [List.flatMap_cons, List.length_append, List.length_cons]
    unfold iB at h1 ⊢
    unfold iB at h2
    omega
end
section
variable {fu : Nat}
theorem fits_top {n : Nat} (h : n ≤ 140737488355328) : n ≤ maxLen := Nat.le_trans h (by decide)
def cB (a b : List Int) : List Int := nB a ++ nB b
def eB (i t k : Int) (d a b : List Int) : List Int := uB i ++ (uB t ++ (iB k ++ (tB d ++ cB a b)))
def bB (b : Bool) : List Int := if b then [1] else [0]
theorem isU_len {n : Nat} (h : n ≤ 140737488355328) : isU (n : Int) := ⟨by omega, by omega⟩
theorem wu_len {n : Nat} (h : n ≤ 140737488355328) : IntKind.wrap .u64 (n : Int) = (n : Int) := wu64 (by omega) (by omega)
theorem fits2 {n : Nat} (h : n ≤ 140737488355328) : (n ≤ maxLen ∧ n * 1 ≤ 140737488355328) = True := eq_true ⟨fits_top h, by omega⟩
theorem take_flat {l : List Int} {i : Nat} (h : i < l.length) : (l.take (i + 1)).flatMap iB = (l.take i).flatMap iB ++ iB (l.getD i 0) := by
  have e : l.getD i 0 = l[i] := by simp [h]
  rw [List.take_succ_eq_append_getElem h, List.flatMap_append, e]
  simp
theorem flat_le {l : List Int} {i : Nat} (h : i < l.length) : ((l.take i).flatMap iB).length + (iB (l.getD i 0)).length ≤ (l.flatMap iB).length := by
  have e : l.flatMap iB = (l.take (i + 1)).flatMap iB ++ (l.drop (i + 1)).flatMap iB := by rw [← List.flatMap_append, List.take_append_drop]
  rw [e, take_flat h]
  simp only [List.length_append]
  omega
theorem getD_isI {l : List Int} {i : Nat} (hl : ∀ x ∈ l, isI x) (h : i < l.length) : isI (l.getD i 0) := by
  have e : l.getD i 0 = l[i] := by simp [h]
  rw [e]
  exact hl _ (List.getElem_mem h)
structure confOk (fu : Nat) (a b : List Int) : Prop where
  ha : ∀ x ∈ a, isI x
  hb : ∀ x ∈ b, isI x
  la : a.length ≤ 1048576
  lb : b.length ≤ 1048576
  fa : a.length < fu
  fb : b.length < fu
theorem nB_len {l : List Int} (h : ∀ x ∈ l, isI x) (hl : l.length ≤ 1048576) : (nB l).length ≤ 10 + 10 * l.length := by
  have h1 := uB_len (isU_len (n := l.length) (by omega))
  have h2 := flat_len h
  unfold nB
  rw [List.length_append]
  omega
theorem tB_len {l : List Int} (h : l.length ≤ 140737488355328) : (tB l).length ≤ 10 + l.length := by
  have h1 := uB_len (isU_len h)
  unfold tB
  rw [List.length_append]
  omega
end
end Go.Proofs.YtahamggipcikgaaDoor
