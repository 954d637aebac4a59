/-
  Seven bits a byte: what was read so far, and one more. Of no program.
-/
import Derived.Test.YtfhdpeceppafiaaDoorWrA
import Derived.Test.YtfhdpeceppafiaaDoorGl
import Derived.Test.YtfhdpeceppafiaaDoorPtF
namespace Go.Proofs.YtfhdpeceppafiaaDoor
open Go.RowKit
section
theorem and8 (n m : Nat) : ((BitVec.ofInt (IntKind.bits .u8) (n : Int) &&& BitVec.ofInt (IntKind.bits .u8) (m : Int)).toNat) = (BitVec.ofNat 8 n &&& BitVec.ofNat 8 m).toNat := by
  show (BitVec.ofInt 8 (n : Int) &&& BitVec.ofInt 8 (m : Int)).toNat = _
  rw [BitVec.ofInt_natCast, BitVec.ofInt_natCast]
theorem or64 (n m : Nat) : ((BitVec.ofInt (IntKind.bits .u64) (n : Int) ||| BitVec.ofInt (IntKind.bits .u64) (m : Int)).toNat) = (BitVec.ofNat 64 n ||| BitVec.ofNat 64 m).toNat := by
  show (BitVec.ofInt 64 (n : Int) ||| BitVec.ofInt 64 (m : Int)).toNat = _
  rw [BitVec.ofInt_natCast, BitVec.ofInt_natCast]
theorem low7 (x : Nat) (h : x < 256) : IntKind.wrap .u8 ((BitVec.ofInt (IntKind.bits .u8) (x : Int) &&& BitVec.ofInt (IntKind.bits .u8) (127 : Int)).toNat : Int) = ((x % 128 : Nat) : Int) := by
  have h2 : (BitVec.ofInt (IntKind.bits .u8) (x : Int) &&& BitVec.ofInt (IntKind.bits .u8) (127 : Int)).toNat = x % 128 := by
    refine (and8 x 127).trans ?_
    rw [BitVec.toNat_and, BitVec.toNat_ofNat, BitVec.toNat_ofNat, Nat.mod_eq_of_lt h]
    exact Nat.and_two_pow_sub_one_eq_mod x 7
  rw [h2, wu8 (by omega) (by omega)]
theorem pow7 (i : Nat) (h : i ≤ 9) : (2 : Int) ^ (min (Int.toNat (IntKind.wrap .i64 ((7 : Int) * (i : Int)))) (IntKind.bits .u64)) = ((128 ^ i : Nat) : Int) := by
  have e : IntKind.wrap .i64 ((7 : Int) * (i : Int)) = ((7 * i : Nat) : Int) := by rw [wi64 (by omega) (by omega)]; omega
  rw [e, Int.toNat_natCast, Nat.min_eq_left (by show 7 * i ≤ 64; omega), show (128 : Nat) = 2 ^ 7 from rfl, ← Nat.pow_mul]
  simp
theorem p128 {i : Nat} (h : i ≤ 9) : 128 ^ i ≤ 9223372036854775808 := by
  have := Nat.pow_le_pow_right (n := 128) (by decide) h
  have e : (128 : Nat) ^ 9 = 9223372036854775808 := by decide
  omega
/-- What was read so far, and seven bits more. -/
theorem accum (c y i : Nat) (hi : i ≤ 9) (hc : c < 128 ^ i) (hy : c + y * 128 ^ i < 18446744073709551616) :
    IntKind.wrap .u64 ((BitVec.ofInt (IntKind.bits .u64) (c : Int) ||| BitVec.ofInt (IntKind.bits .u64) (IntKind.wrap .u64 ((IntKind.wrap .u64 (y : Int)) * 2 ^ (min (Int.toNat (IntKind.wrap .i64 ((7 : Int) * (i : Int)))) (IntKind.bits .u64))))).toNat : Int) = ((c + y * 128 ^ i : Nat) : Int) := by
  have hpos : 0 < 128 ^ i := Nat.pow_pos (by decide)
  have hy1 : y ≤ y * 128 ^ i := Nat.le_mul_of_pos_right y hpos
  rw [pow7 i hi, wu64 (x := (y : Int)) (by omega) (by omega), ← Int.natCast_mul, wu64 (x := ((y * 128 ^ i : Nat) : Int)) (by omega) (by omega)]
  have e1 : (BitVec.ofInt (IntKind.bits .u64) (c : Int) ||| BitVec.ofInt (IntKind.bits .u64) ((y * 128 ^ i : Nat) : Int)).toNat = c + y * 128 ^ i := by
    rw [or64, BitVec.toNat_or, BitVec.toNat_ofNat, BitVec.toNat_ofNat, Nat.mod_eq_of_lt (by omega), Nat.mod_eq_of_lt (by omega)]
    have e : (128 : Nat) ^ i = 2 ^ (7 * i) := by rw [show (128 : Nat) = 2 ^ 7 from rfl, ← Nat.pow_mul]
    rw [e] at hc ⊢
    have := Nat.two_pow_add_eq_or_of_lt hc y
    rw [Nat.or_comm, Nat.mul_comm y, ← this, Nat.add_comm]
  rw [e1, wu64 (by omega) (by omega)]
theorem ub_pos (v : Nat) : 0 < (ub v).length := by
  by_cases h : v < 128
  · rw [ub_small h]; exact Nat.one_pos
  · rw [ub_big h]; exact Nat.succ_pos _
theorem ub_head (v : Nat) (r : List Int) : (ub v ++ r).getD 0 0 = (((if v < 128 then v else v % 128 + 128 : Nat)) : Int) := by
  by_cases h : v < 128
  · rw [ub_small h, if_pos h]; rfl
  · rw [ub_big h, if_neg h]; rfl
end
section
/-- One bit. -/
def bit1 (c : BitVec 32) : BitVec 32 := if c.toNat % 2 = 1 then (c >>> 1) ^^^ 2197175160#32 else c >>> 1
def bit4 (c : BitVec 32) : BitVec 32 := bit1 (bit1 (bit1 (bit1 c)))
def nibT (c : BitVec 32) : BitVec 32 := BitVec.ofNat 32 (gl0.getD (c &&& 15#32).toNat 0).toNat
def nib (c : BitVec 32) : BitVec 32 := (c >>> 4) ^^^ nibT c
theorem xor_par (a b : BitVec 32) : (a ^^^ b).toNat % 2 = (a.toNat + b.toNat) % 2 := by
  rw [BitVec.toNat_xor]
  have h := Nat.testBit_xor a.toNat b.toNat 0
  rw [Nat.testBit_zero, Nat.testBit_zero, Nat.testBit_zero] at h
  by_cases ha : a.toNat % 2 = 1
  · by_cases hb : b.toNat % 2 = 1
    · simp only [ha, hb, decide_true, Bool.xor_self, decide_eq_false_iff_not] at h
      omega
    · simp only [ha, hb, decide_true, decide_false, Bool.xor_false, decide_eq_true_eq] at h
      omega
  · by_cases hb : b.toNat % 2 = 1
    · simp only [ha, hb, decide_true, decide_false, Bool.false_xor, decide_eq_true_eq] at h
      omega
    · simp only [ha, hb, decide_false, Bool.xor_self, decide_eq_false_iff_not] at h
      omega
theorem bit1_xor (a b : BitVec 32) : bit1 (a ^^^ b) = bit1 a ^^^ bit1 b := by
  have h := xor_par a b
  have hs : (a ^^^ b) >>> 1 = (a >>> 1) ^^^ (b >>> 1) := BitVec.ushiftRight_xor_distrib a b 1
  have ha : a.toNat % 2 = 0 ∨ a.toNat % 2 = 1 := by omega
  have hb : b.toNat % 2 = 0 ∨ b.toNat % 2 = 1 := by omega
  unfold bit1
  rw [hs]
  generalize a >>> 1 = x
  generalize b >>> 1 = y
  generalize 2197175160#32 = p
  rcases ha with ha | ha <;> rcases hb with hb | hb
  · rw [if_neg (by omega), if_neg (by omega), if_neg (by omega)]
  · rw [if_pos (by omega), if_neg (by omega), if_pos (by omega), BitVec.xor_assoc]
  · rw [if_pos (by omega), if_pos (by omega), if_neg (by omega), BitVec.xor_assoc, BitVec.xor_assoc, BitVec.xor_comm y p]
  · rw [if_neg (by omega), if_pos (by omega), if_pos (by omega)]
    have e : x ^^^ p ^^^ (y ^^^ p) = x ^^^ y ^^^ (p ^^^ p) := by ac_rfl
    rw [e, BitVec.xor_self, BitVec.xor_zero]
theorem bit4_xor (a b : BitVec 32) : bit4 (a ^^^ b) = bit4 a ^^^ bit4 b := by
  unfold bit4
  rw [bit1_xor, bit1_xor, bit1_xor, bit1_xor]
theorem bit1_even (m : Nat) (h : m < 2147483648) : bit1 (BitVec.ofNat 32 (2 * m)) = BitVec.ofNat 32 m := by
  unfold bit1
  rw [if_neg (by rw [BitVec.toNat_ofNat]; omega)]
  apply BitVec.eq_of_toNat_eq
  rw [BitVec.toNat_ushiftRight, BitVec.toNat_ofNat, BitVec.toNat_ofNat, Nat.shiftRight_eq_div_pow]
  omega
theorem bit4_high (m : Nat) (h : m < 268435456) : bit4 (BitVec.ofNat 32 (16 * m)) = BitVec.ofNat 32 m := by
  unfold bit4
  rw [show 16 * m = 2 * (8 * m) by omega, bit1_even _ (by omega), show 8 * m = 2 * (4 * m) by omega, bit1_even _ (by omega), show 4 * m = 2 * (2 * m) by omega, bit1_even _ (by omega), bit1_even _ (by omega)]
theorem bit4_low : ∀ n : Fin 16, bit4 (BitVec.ofNat 32 n.val) = BitVec.ofNat 32 (gl0.getD n.val 0).toNat := by decide +kernel
theorem low15 (c : BitVec 32) : (c &&& 15#32).toNat = c.toNat % 16 := by
  rw [BitVec.toNat_and]
  exact Nat.and_two_pow_sub_one_eq_mod c.toNat 4
theorem high_low (c : BitVec 32) : c = BitVec.ofNat 32 (16 * (c.toNat / 16)) ^^^ BitVec.ofNat 32 (c.toNat % 16) := by
  apply BitVec.eq_of_toNat_eq
  have hlt := c.isLt
  rw [BitVec.toNat_xor, BitVec.toNat_ofNat, BitVec.toNat_ofNat, Nat.mod_eq_of_lt (by omega), Nat.mod_eq_of_lt (by omega)]
  have h1 : c.toNat % 16 < 2 ^ 4 := by omega
  have h2 := Nat.two_pow_add_eq_or_of_lt h1 (c.toNat / 16)
  have h3 : 2 ^ 4 * (c.toNat / 16) ^^^ c.toNat % 16 = 2 ^ 4 * (c.toNat / 16) ||| c.toNat % 16 := by
    apply Nat.eq_of_testBit_eq
    intro i
    rw [Nat.testBit_xor, Nat.testBit_or]
    by_cases hi : i < 4
    · rw [Nat.testBit_two_pow_mul]
      simp [Nat.not_le.2 hi]
    · have : (c.toNat % 16).testBit i = false := by
        apply Nat.testBit_lt_two_pow
        exact Nat.lt_of_lt_of_le h1 (Nat.pow_le_pow_right (by decide) (by omega))
      rw [this]
      simp
  have e16 : (2 : Nat) ^ 4 = 16 := rfl
  rw [e16] at h2 h3
  rw [h3, ← h2]
  omega
theorem nib_is (c : BitVec 32) : nib c = bit4 c := by
  have hlt := c.isLt
  have e := high_low c
  have h1 : bit4 c = BitVec.ofNat 32 (c.toNat / 16) ^^^ BitVec.ofNat 32 (gl0.getD (c.toNat % 16) 0).toNat := by
    conv => lhs; rw [e]
    rw [bit4_xor, bit4_high _ (by omega)]
    have := bit4_low ⟨c.toNat % 16, by omega⟩
    rw [this]
  rw [h1]
  unfold nib nibT
  rw [low15]
  congr 1
  apply BitVec.eq_of_toNat_eq
  rw [BitVec.toNat_ushiftRight, BitVec.toNat_ofNat, Nat.shiftRight_eq_div_pow]
  omega
/-! Numbers of 32 bits as the program has them. -/
theorem wu32 {x : Int} (h1 : 0 ≤ x) (h2 : x < 4294967296) : IntKind.wrap .u32 x = x := wuk .u32 rfl h1 h2
theorem ofI (C : BitVec 32) : BitVec.ofInt 32 (C.toNat : Int) = C := by
  rw [BitVec.ofInt_natCast]
  simp
theorem xorI (C D : BitVec 32) : IntKind.wrap .u32 ((BitVec.ofInt (IntKind.bits .u32) (C.toNat : Int) ^^^ BitVec.ofInt (IntKind.bits .u32) (D.toNat : Int)).toNat : Int) = ((C ^^^ D).toNat : Int) := by
  have e : (BitVec.ofInt (IntKind.bits .u32) (C.toNat : Int) ^^^ BitVec.ofInt (IntKind.bits .u32) (D.toNat : Int)).toNat = (C ^^^ D).toNat := by
    show (BitVec.ofInt 32 (C.toNat : Int) ^^^ BitVec.ofInt 32 (D.toNat : Int)).toNat = _
    rw [ofI, ofI]
  rw [e]
  have := (C ^^^ D).isLt
  exact wu32 (by omega) (by omega)
theorem andI (C D : BitVec 32) : IntKind.wrap .u32 ((BitVec.ofInt (IntKind.bits .u32) (C.toNat : Int) &&& BitVec.ofInt (IntKind.bits .u32) (D.toNat : Int)).toNat : Int) = ((C &&& D).toNat : Int) := by
  have e : (BitVec.ofInt (IntKind.bits .u32) (C.toNat : Int) &&& BitVec.ofInt (IntKind.bits .u32) (D.toNat : Int)).toNat = (C &&& D).toNat := by
    show (BitVec.ofInt 32 (C.toNat : Int) &&& BitVec.ofInt 32 (D.toNat : Int)).toNat = _
    rw [ofI, ofI]
  rw [e]
  have := (C &&& D).isLt
  exact wu32 (by omega) (by omega)
theorem shrI4 (C : BitVec 32) : Int.fdiv (C.toNat : Int) (2 ^ (min (Int.toNat (4 : Int)) (IntKind.bits .u32))) = ((C >>> 4).toNat : Int) := by
  show Int.fdiv (C.toNat : Int) 16 = _
  rw [Int.fdiv_eq_ediv_of_nonneg _ (by decide), BitVec.toNat_ushiftRight, Nat.shiftRight_eq_div_pow]
  rfl
theorem shrI1 (C : BitVec 32) : Int.fdiv (C.toNat : Int) (2 ^ (min (Int.toNat (1 : Int)) (IntKind.bits .u32))) = ((C >>> 1).toNat : Int) := by
  show Int.fdiv (C.toNat : Int) 2 = _
  rw [Int.fdiv_eq_ediv_of_nonneg _ (by decide), BitVec.toNat_ushiftRight, Nat.shiftRight_eq_div_pow]
  rfl
theorem tabI (C : BitVec 32) : List.getD gl0 (Int.toNat ((C &&& 15#32).toNat : Int)) (dflt (.int .u32)) = ((nibT C).toNat : Int) := by
  have h : ∀ n : Fin 16, gl0.getD n.val 0 = ((BitVec.ofNat 32 (gl0.getD n.val 0).toNat).toNat : Int) := by decide +kernel
  rw [Int.toNat_natCast]
  exact h ⟨(C &&& 15#32).toNat, by rw [low15]; omega⟩
/-- A byte goes in. -/
def byte8 (c : BitVec 32) (n : Int) : BitVec 32 := bit4 (bit4 (c ^^^ BitVec.ofNat 32 n.toNat))
def sumB (l : List Int) : BitVec 32 := l.foldl byte8 4294967295#32
theorem foldl_take {l : List Int} {i : Nat} (h : i < l.length) (c : BitVec 32) : (l.take (i + 1)).foldl byte8 c = byte8 ((l.take i).foldl byte8 c) (l.getD i 0) := by
  have e : l.getD i 0 = l[i] := by simp [h]
  rw [List.take_succ_eq_append_getElem h, List.foldl_append, e]
  rfl
theorem byteI {x : Int} (h0 : 0 ≤ x) (h1 : x ≤ 255) : IntKind.wrap .u32 x = ((BitVec.ofNat 32 x.toNat).toNat : Int) := by
  rw [wu32 h0 (by omega), BitVec.toNat_ofNat]
  omega
end
section
variable {fu : Nat}
def itb : Nat → BitVec 32 → BitVec 32
  | 0, c => c
  | n + 1, c => bit1 (itb n c)
theorem p24_is {l : List Int} (hb : ∀ x ∈ l, 0 ≤ x ∧ x ≤ 255) (hl : l.length ≤ 140737488355328) (hfu : l.length < fu) : p24 fu (l, ()) = some ((), ((4294967295#32 ^^^ sumB l).toNat : Int)) := by
  unfold p24
  dsimp only
  refine loopO_eq (fun (s : (Int × (Int × Unit)) × Unit) => ∃ k : Nat, k ≤ l.length ∧ s = (((((l.take k).foldl byte8 4294967295#32).toNat : Int), (k : Int), ()), ())) (fun s => l.length - s.1.2.1.toNat) (fun _ => ((), ((4294967295#32 ^^^ sumB l).toNat : Int))) ?_ fu _ ⟨0, Nat.zero_le _, rfl⟩ (by dsimp only; omega)
  rintro _ ⟨k, hk, rfl⟩
  by_cases hlt : k < l.length
  · left
    have e1 : decide ((k : Int) < (l.length : Int)) = true := by simpa using hlt
    have e2 : decide ((0 : Int) ≤ (k : Int) ∧ (k : Int) < (l.length : Int)) = true := by simp; omega
    have e3 : decide (k < l.length) = true := by simpa using hlt
    have hw : IntKind.wrap .i64 ((k : Int) + 1) = ((k + 1 : Nat) : Int) := by rw [wi64 (by omega) (by omega)]; omega
    have hx : 0 ≤ l.getD k 0 ∧ l.getD k 0 ≤ 255 := by
      have e : l.getD k 0 = l[k] := by simp [hlt]
      rw [e]
      exact hb _ (List.getElem_mem hlt)
    have e15 : (15 : Int) = ((15#32).toNat : Int) := rfl
    have in16 : ∀ C : BitVec 32, decide ((0 : Int) ≤ ((C &&& 15#32).toNat : Int) ∧ ((C &&& 15#32).toNat : Int) < (16 : Int) ∧ List.length gl0 = 16) = true := fun C => by
      have := low15 C
      simp only [decide_eq_true_eq]
      exact ⟨by omega, by omega, rfl⟩
    have in16' : ∀ C : BitVec 32, decide (Int.toNat ((C &&& 15#32).toNat : Int) < List.length gl0) = true := fun C => by
      have := low15 C
      simp only [decide_eq_true_eq]
      rw [show gl0.length = 16 from rfl]
      omega
    refine ⟨_, ?_, ⟨k + 1, hlt, rfl⟩, ?_, rfl⟩
    · have hg : l.getD k (dflt (.int .u8)) = l.getD k 0 := rfl
      simp only [e1, e2, Int.toNat_natCast, e3, cond_true, hg, byteI hx.1 hx.2]
      rw [foldl_take hlt]
      generalize (l.take k).foldl byte8 4294967295#32 = C
      generalize hX : BitVec.ofNat 32 (l.getD k 0).toNat = X
      have hb8 : byte8 C (l.getD k 0) = nib (nib (C ^^^ X)) := by rw [nib_is, nib_is, ← hX]; rfl
      rw [hb8]
      simp only [e15, xorI, andI, in16, in16', cond_true, tabI, shrI4, hw, nib]
    · dsimp only
      omega
  · right
    have hkl : k = l.length := by omega
    subst hkl
    have e1 : decide ((l.length : Int) < (l.length : Int)) = false := by simp
    have eF : (4294967295 : Int) = ((4294967295#32).toNat : Int) := rfl
    simp only [e1, cond_false, List.take_length, eF, xorI, inrO, Option.map_some]
    rfl
theorem p25_is {l : List Int} (hb : ∀ x ∈ l, 0 ≤ x ∧ x ≤ 255) (hl : l.length ≤ 140737488355328) (hfu : l.length < fu) (hf8 : 8 < fu) : p25 fu (l, ()) = some ((), ((4294967295#32 ^^^ sumB l).toNat : Int)) := by
  unfold p25
  dsimp only
  refine loopO_eq (fun (s : (Int × (Int × Unit)) × Unit) => ∃ k : Nat, k ≤ l.length ∧ s = (((((l.take k).foldl byte8 4294967295#32).toNat : Int), (k : Int), ()), ())) (fun s => l.length - s.1.2.1.toNat) (fun _ => ((), ((4294967295#32 ^^^ sumB l).toNat : Int))) ?_ fu _ ⟨0, Nat.zero_le _, rfl⟩ (by dsimp only; omega)
  rintro _ ⟨k, hk, rfl⟩
  by_cases hlt : k < l.length
  · left
    have e1 : decide ((k : Int) < (l.length : Int)) = true := by simpa using hlt
    have e2 : decide ((0 : Int) ≤ (k : Int) ∧ (k : Int) < (l.length : Int)) = true := by simp; omega
    have e3 : decide (k < l.length) = true := by simpa using hlt
    have hw : IntKind.wrap .i64 ((k : Int) + 1) = ((k + 1 : Nat) : Int) := by rw [wi64 (by omega) (by omega)]; omega
    have hx : 0 ≤ l.getD k 0 ∧ l.getD k 0 ≤ 255 := by
      have e : l.getD k 0 = l[k] := by simp [hlt]
      rw [e]
      exact hb _ (List.getElem_mem hlt)
    have eo : (1 : Int) = ((1#32).toNat : Int) := rfl
    have ep : (2197175160 : Int) = ((2197175160#32).toNat : Int) := rfl
    refine ⟨(((((l.take (k + 1)).foldl byte8 4294967295#32).toNat : Int), ((k + 1 : Nat) : Int), ()), ()), ?_, ⟨k + 1, hlt, rfl⟩, ?_, rfl⟩
    · have hg : l.getD k (dflt (.int .u8)) = l.getD k 0 := rfl
      simp only [e1, e2, Int.toNat_natCast, e3, cond_true, hg, byteI hx.1 hx.2, xorI]
      rw [foldl_take hlt]
      generalize (l.take k).foldl byte8 4294967295#32 = C
      generalize hX : BitVec.ofNat 32 (l.getD k 0).toNat = X
      have hb8 : byte8 C (l.getD k 0) = itb (8) (C ^^^ X) := by rw [← hX]; rfl
      rw [hb8]
      refine loopO_eq (fun (s : (Int × (Int × Unit)) × Unit) => ∃ j : Nat, j ≤ 8 ∧ s = ((((itb (j) (C ^^^ X)).toNat : Int), (j : Int), ()), ())) (fun s => 8 - s.1.2.1.toNat) (fun _ => _) ?_ fu _ ⟨0, Nat.zero_le _, rfl⟩ (by dsimp only; omega)
      rintro _ ⟨j, hj, rfl⟩
      by_cases hj8 : j < 8
      · left
        have f1 : decide ((j : Int) < 8) = true := by simp; omega
        have fw : IntKind.wrap .i64 ((j : Int) + 1) = ((j + 1 : Nat) : Int) := by rw [wi64 (by omega) (by omega)]; omega
        refine ⟨((((itb (j + 1) (C ^^^ X)).toNat : Int), ((j + 1 : Nat) : Int), ()), ()), ?_, ⟨j + 1, hj8, rfl⟩, ?_, rfl⟩
        · rw [show itb (j + 1) (C ^^^ X) = bit1 (itb j (C ^^^ X)) from rfl]
          generalize itb j (C ^^^ X) = D
          have hand : IntKind.wrap .u32 ((BitVec.ofInt (IntKind.bits .u32) (D.toNat : Int) &&& BitVec.ofInt (IntKind.bits .u32) (1 : Int)).toNat : Int) = ((D.toNat % 2 : Nat) : Int) := by
            have := andI D 1#32
            rw [show ((1#32).toNat : Int) = 1 from rfl] at this
            rw [this, BitVec.toNat_and]
            congr 1
            exact Nat.and_one_is_mod D.toNat
          rw [hand]
          by_cases hp : D.toNat % 2 = 1
          · have g : (((D.toNat % 2 : Nat) : Int) == 1) = true := by rw [hp]; rfl
            have hx1 := xorI (D >>> 1) 2197175160#32
            rw [show ((2197175160#32).toNat : Int) = 2197175160 from rfl] at hx1
            simp only [f1, cond_true, g, shrI1, hx1, fw]
            unfold bit1
            rw [if_pos hp]
          · have g : (((D.toNat % 2 : Nat) : Int) == 1) = false := by simp; omega
            simp only [f1, cond_true, cond_false, g, shrI1, fw]
            unfold bit1
            rw [if_neg hp]
        · dsimp only
          omega
      · right
        have hj8' : j = 8 := by omega
        subst hj8'
        have f1 : decide (((8 : Nat) : Int) < 8) = false := by decide
        simp only [f1, cond_false, inrO, Option.map_some, hw]
    · dsimp only
      omega
  · right
    have hkl : k = l.length := by omega
    subst hkl
    have e1 : decide ((l.length : Int) < (l.length : Int)) = false := by simp
    have eF : (4294967295 : Int) = ((4294967295#32).toNat : Int) := rfl
    simp only [e1, cond_false, List.take_length, eF, xorI, inrO, Option.map_some]
    rw [BitVec.xor_comm]
    rfl
end
section
variable {fu : Nat}
/-- From the i-th byte on, what was read so far being that: the number, how many bytes it has, the error. -/
def numS : Nat → Nat → List Int → Int × Int × Int
  | _, _, [] => (0, 0, 11)
  | i, acc, x :: r => if i = 9 ∧ x ≠ 1 then (0, 0, 12) else if x = 0 ∧ 0 < i then (0, 0, 12) else if x < 128 then (((acc + x.toNat % 128 * 128 ^ i : Nat) : Int), ((i + 1 : Nat) : Int), 0) else numS (i + 1) (acc + x.toNat % 128 * 128 ^ i) r
theorem p40_any {a : List Int} (hb : ∀ x ∈ a, 0 ≤ x ∧ x ≤ 255) (hn : a.length ≤ 140737488355328) (hfu : 10 < fu) : p40 fu (a, ()) = some ((), ((numS 0 0 a).1, (numS 0 0 a).2.1, (numS 0 0 a).2.2, ())) := by
  unfold p40
  dsimp only
  refine loopO_eq (fun (s : (Int × (Int × Unit)) × Unit) => ∃ (i acc : Nat) (pre r : List Int), i ≤ 9 ∧ s = (((acc : Int), (i : Int), ()), ()) ∧ a = pre ++ r ∧ pre.length = i ∧ acc < 128 ^ i ∧ numS i acc r = numS 0 0 a) (fun s => 10 - s.1.2.1.toNat) (fun _ => ((), ((numS 0 0 a).1, (numS 0 0 a).2.1, (numS 0 0 a).2.2, ()))) ?_ fu _ ⟨0, 0, [], a, by omega, rfl, rfl, rfl, by simp, rfl⟩ (by dsimp only; omega)
  rintro _ ⟨i, acc, pre, r, hi, rfl, ha, hp, hacc, hnum⟩
  have e1 : decide ((i : Int) < 10) = true := by simp; omega
  have wi : IntKind.wrap .i64 ((i : Int) + 1) = ((i + 1 : Nat) : Int) := by rw [wi64 (by omega) (by omega)]; omega
  cases r with
  | nil =>
    right
    have hl : a.length = i := by rw [ha, List.append_nil, hp]
    have e2 : ((i : Int) == (a.length : Int)) = true := by rw [hl]; exact beq_self_eq_true _
    rw [← hnum]
    simp only [e1, e2, cond_true, numS, inrO, Option.map_some]
  | cons x r =>
    have hlen : a.length = i + (r.length + 1) := by rw [ha, List.length_append, hp, List.length_cons]
    have hx := hb x (by rw [ha]; simp)
    obtain ⟨n, rfl⟩ := Int.eq_ofNat_of_zero_le hx.1
    have hxg : List.getD a i (dflt (.int .u8)) = (n : Int) := by
      rw [ha, List.getD_eq_getElem?_getD, List.getElem?_append_right (by omega), hp, Nat.sub_self]
      rfl
    have e2 : ((i : Int) == (a.length : Int)) = false := by rw [hlen]; simp; omega
    have e3 : decide ((0 : Int) ≤ (i : Int) ∧ (i : Int) < (a.length : Int)) = true := by rw [hlen]; simp; omega
    have e4 : decide (i < a.length) = true := by rw [hlen]; simp
    have e7 : decide ((0 : Int) ≤ IntKind.wrap .i64 ((7 : Int) * (i : Int))) = true := by rw [wi64 (by omega) (by omega)]; simp; omega
    by_cases h9 : i = 9 ∧ (n : Int) ≠ 1
    · right
      obtain ⟨h9, hn1⟩ := h9
      have hd : numS i acc ((n : Int) :: r) = (0, 0, 12) := by rw [numS, if_pos ⟨h9, hn1⟩]
      rw [← hnum, hd]
      have g1 : ((i : Int) == 9) = true := by rw [h9]; rfl
      have g2 : ((n : Int) != 1) = true := bne_iff_ne.2 hn1
      simp only [e1, e2, e3, e4, Int.toNat_natCast, hxg, cond_true, cond_false, g1, g2, inrO, Option.map_some, orK_inr]
    · by_cases h0 : (n : Int) = 0 ∧ 0 < i
      · right
        obtain ⟨hn0, hi0⟩ := h0
        have hi9 : i ≠ 9 := fun e => h9 ⟨e, by omega⟩
        have hd : numS i acc ((n : Int) :: r) = (0, 0, 12) := by rw [numS, if_neg h9, if_pos ⟨hn0, hi0⟩]
        rw [← hnum, hd]
        have g1 : ((i : Int) == 9) = false := by simp; omega
        have g2 : ((n : Int) == 0) = true := beq_iff_eq.2 hn0
        have g3 : decide ((i : Int) > 0) = true := by simp; omega
        simp only [e1, e2, e3, e4, Int.toNat_natCast, hxg, cond_true, cond_false, g1, g2, g3, inrO, Option.map_some, orK_inr]
      · have hpow : i = 9 → (128 : Nat) ^ i = 9223372036854775808 := fun e => by rw [e]
        have hpow8 : i ≤ 8 → (128 : Nat) ^ i ≤ 72057594037927936 := fun e => by
          have := Nat.pow_le_pow_right (n := 128) (by decide) e
          have e8 : (128 : Nat) ^ 8 = 72057594037927936 := by decide
          omega
        have hmul : n % 128 * 128 ^ i ≤ 127 * 128 ^ i := Nat.mul_le_mul_right _ (by omega)
        have hbound : acc + n % 128 * 128 ^ i < 18446744073709551616 := by
          by_cases e9 : i = 9
          · have hn1 : (n : Int) = 1 := Decidable.byContradiction fun k => h9 ⟨e9, k⟩
            have hn1' : n = 1 := by omega
            have := hpow e9
            rw [hn1'] at hmul ⊢
            rw [this] at hacc ⊢
            omega
          · have := hpow8 (by omega)
            generalize 128 ^ i = q at *
            omega
        have hac := accum acc (n % 128) i hi hacc hbound
        by_cases h128 : (n : Int) < 128
        · right
          have hd : numS i acc ((n : Int) :: r) = (((acc + n % 128 * 128 ^ i : Nat) : Int), ((i + 1 : Nat) : Int), 0) := by rw [numS, if_neg h9, if_neg h0, if_pos h128]; rfl
          rw [← hnum, hd]
          have e8 : decide ((n : Int) < 128) = true := decide_eq_true h128
          simp only [e1, e2, e3, e4, Int.toNat_natCast, hxg, cond_true, cond_false, e7, e8, low7 n (by omega), hac, wi]
          by_cases e9 : i = 9
          · have hn1 : (n : Int) = 1 := Decidable.byContradiction fun k => h9 ⟨e9, k⟩
            have hn1' : n = 1 := by omega
            subst e9 hn1'
            rfl
          · have g1 : ((i : Int) == 9) = false := by simp; omega
            rw [g1]
            by_cases hn0 : n = 0
            · have hi0 : i = 0 := Decidable.byContradiction fun k => h0 ⟨by omega, by omega⟩
              subst hi0 hn0
              rfl
            · have g2 : ((n : Int) == 0) = false := by simp; omega
              rw [g2]
              rfl
        · left
          have e9 : i ≠ 9 := fun e => h9 ⟨e, by omega⟩
          have hd : numS i acc ((n : Int) :: r) = numS (i + 1) (acc + n % 128 * 128 ^ i) r := by rw [numS, if_neg h9, if_neg h0, if_neg h128]; rfl
          have e8 : decide ((n : Int) < 128) = false := decide_eq_false h128
          have g1 : ((i : Int) == 9) = false := by simp; omega
          have g2 : ((n : Int) == 0) = false := by simp; omega
          refine ⟨((((acc + n % 128 * 128 ^ i : Nat) : Int), ((i + 1 : Nat) : Int), ()), ()), ?_, ⟨i + 1, acc + n % 128 * 128 ^ i, pre ++ [(n : Int)], r, by omega, rfl, ?_, ?_, ?_, ?_⟩, ?_, rfl⟩
          · simp only [e1, e2, e3, e4, Int.toNat_natCast, hxg, cond_true, cond_false, e7, e8, g1, g2, low7 n (by omega), hac, wi, orK_inl]
          · rw [ha]; simp
          · simp [hp]
          · rw [Nat.pow_succ]
            generalize 128 ^ i = q at *
            omega
          · rw [← hd]; exact hnum
          · dsimp only
            omega
end
section
variable {fu : Nat}
theorem p91_is {a : List Int} {c h e at' : Int} (he : e ≠ 0) : p91 fu ((a, c, 0, h, ()), e, at', ()) = some (((a, at', e, at', ()), ()), ()) := by
  unfold p91
  have g : (e != 0) = true := bne_iff_ne.2 he
  simp only [BEq.rfl, cond_true, g, orK_inl]
/-- The document's reader after a number. -/
def afterU (a : List Int) (c h : Int) (r : Int × Int × Int) : (((List Int × Int × Int × Int × Unit) × Unit) × Int) :=
  if r.2.2 = 0 then (((a, c + r.2.1, 0, h, ()), ()), r.1) else (((a, c, r.2.2, c, ()), ()), 0)
theorem p51_any {pre b : List Int} {h : Int} (hb : ∀ x ∈ b, 0 ≤ x ∧ x ≤ 255) (hn : (pre ++ b).length ≤ 140737488355328) (hfu : 10 < fu) :
    p51 fu ((pre ++ b, (pre.length : Int), 0, h, ()), ()) = some (afterU (pre ++ b) (pre.length : Int) h (numS 0 0 b)) := by
  unfold p51
  simp only [bne_self_eq_false, cond_false]
  have hlen : (pre ++ b).length = pre.length + b.length := List.length_append ..
  refine loopO_eq (fun (s : (Int × (Int × Unit)) × Unit) => ∃ (i acc : Nat) (q r : List Int), i ≤ 9 ∧ s = (((acc : Int), (i : Int), ()), ()) ∧ b = q ++ r ∧ q.length = i ∧ acc < 128 ^ i ∧ numS i acc r = numS 0 0 b) (fun s => 10 - s.1.2.1.toNat) (fun _ => afterU (pre ++ b) (pre.length : Int) h (numS 0 0 b)) ?_ fu _ ⟨0, 0, [], b, by omega, rfl, rfl, rfl, by simp, rfl⟩ (by dsimp only; omega)
  rintro _ ⟨i, acc, q, r, hi, rfl, ha, hp, hacc, hnum⟩
  have wi : IntKind.wrap .i64 ((i : Int) + 1) = ((i + 1 : Nat) : Int) := by rw [wi64 (by omega) (by omega)]; omega
  have hbl : b.length = i + r.length := by rw [ha, List.length_append, hp]
  have wc : IntKind.wrap .i64 ((pre.length : Int) + (i : Int)) = ((pre.length + i : Nat) : Int) := by rw [wi64 (by omega) (by omega)]; omega
  cases r with
  | nil =>
    right
    simp only [List.length_nil] at hbl
    have e1 : decide (((pre.length + i : Nat) : Int) ≥ ((pre ++ b).length : Int)) = true := by rw [hlen]; simp; omega
    have hd : numS i acc [] = (0, 0, 11) := rfl
    rw [← hnum, hd]
    simp only [wc, e1, cond_true]
    rw [p91_is (by decide)]
    rfl
  | cons x r =>
    simp only [List.length_cons] at hbl
    have hx := hb x (by rw [ha]; simp)
    obtain ⟨n, rfl⟩ := Int.eq_ofNat_of_zero_le hx.1
    have hxg : List.getD (pre ++ b) (pre.length + i) (dflt (.int .u8)) = (n : Int) := by
      rw [ha, List.getD_eq_getElem?_getD, List.getElem?_append_right (by omega), List.getElem?_append_right (by omega), hp, show pre.length + i - pre.length - i = 0 by omega]
      rfl
    have e1 : decide (((pre.length + i : Nat) : Int) ≥ ((pre ++ b).length : Int)) = false := by rw [hlen]; simp; omega
    have e3 : decide ((0 : Int) ≤ ((pre.length + i : Nat) : Int) ∧ ((pre.length + i : Nat) : Int) < ((pre ++ b).length : Int)) = true := by rw [hlen]; simp; omega
    have e4 : decide (pre.length + i < (pre ++ b).length) = true := by rw [hlen]; simp; omega
    have e7 : decide ((0 : Int) ≤ IntKind.wrap .i64 ((7 : Int) * (i : Int))) = true := by rw [wi64 (by omega) (by omega)]; simp; omega
    by_cases h9 : i = 9 ∧ (n : Int) ≠ 1
    · right
      obtain ⟨h9, hn1⟩ := h9
      have hd : numS i acc ((n : Int) :: r) = (0, 0, 12) := by rw [numS, if_pos ⟨h9, hn1⟩]
      rw [← hnum, hd]
      have g1 : ((i : Int) == 9) = true := by rw [h9]; rfl
      have g2 : ((n : Int) != 1) = true := bne_iff_ne.2 hn1
      simp only [wc, e1, e3, e4, Int.toNat_natCast, hxg, cond_true, cond_false, g1, g2, orK_inl]
      rw [p91_is (by decide)]
      rfl
    · have hok : (bif ((i : Int) == 9) then (some (.inl ((((n : Int) != 1), ()), ())) : Option (((Bool × Unit) × Unit) ⊕ ((Int × (Int × Unit)) × Unit ⊕ (((List Int × Int × Int × Int × Unit) × Unit) × Int)))) else some (.inl ((false, ()), ()))) = some (.inl ((false, ()), ())) := by
        by_cases e9 : i = 9
        · have hn1 : (n : Int) = 1 := Decidable.byContradiction fun k => h9 ⟨e9, k⟩
          rw [hn1, e9]
          rfl
        · have g1 : ((i : Int) == 9) = false := by simp; omega
          rw [g1]
          rfl
      have hpow : i = 9 → (128 : Nat) ^ i = 9223372036854775808 := fun e => by rw [e]
      have hpow8 : i ≤ 8 → (128 : Nat) ^ i ≤ 72057594037927936 := fun e => by
        have := Nat.pow_le_pow_right (n := 128) (by decide) e
        have e8 : (128 : Nat) ^ 8 = 72057594037927936 := by decide
        omega
      have hmul : n % 128 * 128 ^ i ≤ 127 * 128 ^ i := Nat.mul_le_mul_right _ (by omega)
      have hpos : 0 < 128 ^ i := Nat.pow_pos (by decide)
      have hbound : acc + n % 128 * 128 ^ i < 18446744073709551616 := by
        by_cases e9 : i = 9
        · have hn1 : (n : Int) = 1 := Decidable.byContradiction fun k => h9 ⟨e9, k⟩
          have hn1' : n = 1 := by omega
          have := hpow e9
          rw [hn1'] at hmul ⊢
          rw [this] at hacc ⊢
          omega
        · have := hpow8 (by omega)
          generalize 128 ^ i = q at *
          omega
      have hac : IntKind.wrap .u64 ((acc : Int) + (IntKind.wrap .u64 ((IntKind.wrap .u64 ((n % 128 : Nat) : Int)) * 2 ^ (min (Int.toNat (IntKind.wrap .i64 ((7 : Int) * (i : Int)))) (IntKind.bits .u64))))) = ((acc + n % 128 * 128 ^ i : Nat) : Int) := by
        have hy1 : n % 128 ≤ n % 128 * 128 ^ i := Nat.le_mul_of_pos_right _ hpos
        rw [pow7 i hi, wu64 (x := ((n % 128 : Nat) : Int)) (by omega) (by omega), ← Int.natCast_mul, wu64 (x := ((n % 128 * 128 ^ i : Nat) : Int)) (by omega) (by omega), ← Int.natCast_add, wu64 (by omega) (by omega)]
      by_cases h128 : (n : Int) < 128
      · right
        have e8 : decide ((n : Int) < 128) = true := decide_eq_true h128
        have wc2 : IntKind.wrap .i64 (((pre.length + i : Nat) : Int) + 1) = (pre.length : Int) + ((i + 1 : Nat) : Int) := by rw [wi64 (by omega) (by omega)]; omega
        simp only [wc, e1, e3, e4, Int.toNat_natCast, hxg, cond_true, cond_false, hok, orK_inl, e7, e8, low7 n (by omega), hac, wc2]
        by_cases h0 : (n : Int) = 0 ∧ 0 < i
        · have hd : numS i acc ((n : Int) :: r) = (0, 0, 12) := by rw [numS, if_neg h9, if_pos h0]
          have g2 : ((n : Int) == 0) = true := beq_iff_eq.2 h0.1
          have g3 : decide ((i : Int) > 0) = true := by simp; omega
          rw [← hnum, hd]
          simp only [g2, g3, cond_true, orK_inl]
          rw [p91_is (by decide)]
          rfl
        · have hd : numS i acc ((n : Int) :: r) = (((acc + n % 128 * 128 ^ i : Nat) : Int), ((i + 1 : Nat) : Int), 0) := by rw [numS, if_neg h9, if_neg h0, if_pos h128]; rfl
          have hz : (bif ((n : Int) == 0) then (some (.inl ((decide ((i : Int) > 0), ()), ())) : Option (((Bool × Unit) × Unit) ⊕ ((Int × (Int × Unit)) × Unit ⊕ (((List Int × Int × Int × Int × Unit) × Unit) × Int)))) else some (.inl ((false, ()), ()))) = some (.inl ((false, ()), ())) := by
            by_cases hn0 : (n : Int) = 0
            · have hi0 : i = 0 := Decidable.byContradiction fun k => h0 ⟨hn0, by omega⟩
              rw [hn0, hi0]
              rfl
            · have g2 : ((n : Int) == 0) = false := beq_eq_false_iff_ne.2 hn0
              rw [g2]
              rfl
          rw [← hnum, hd]
          simp only [hz, orK_inl, cond_false, inrO, Option.map_some]
          rfl
      · left
        have e9 : i ≠ 9 := fun e => h9 ⟨e, by omega⟩
        have h0 : ¬ ((n : Int) = 0 ∧ 0 < i) := by omega
        have hd : numS i acc ((n : Int) :: r) = numS (i + 1) (acc + n % 128 * 128 ^ i) r := by rw [numS, if_neg h9, if_neg h0, if_neg h128]; rfl
        have e8 : decide ((n : Int) < 128) = false := decide_eq_false h128
        refine ⟨((((acc + n % 128 * 128 ^ i : Nat) : Int), ((i + 1 : Nat) : Int), ()), ()), ?_, ⟨i + 1, acc + n % 128 * 128 ^ i, q ++ [(n : Int)], r, by omega, rfl, ?_, ?_, ?_, ?_⟩, ?_, rfl⟩
        · simp only [wc, e1, e3, e4, Int.toNat_natCast, hxg, cond_true, cond_false, hok, orK_inl, e7, e8, low7 n (by omega), hac, wi]
        · rw [ha]; simp
        · simp [hp]
        · rw [Nat.pow_succ]
          generalize 128 ^ i = q at *
          omega
        · rw [← hd]; exact hnum
        · dsimp only
          omega
end
section
variable {fu : Nat}
theorem or32 (n m : Nat) : ((BitVec.ofInt (IntKind.bits .u32) (n : Int) ||| BitVec.ofInt (IntKind.bits .u32) (m : Int)).toNat) = (BitVec.ofNat 32 n ||| BitVec.ofNat 32 m).toNat := by
  show (BitVec.ofInt 32 (n : Int) ||| BitVec.ofInt 32 (m : Int)).toNat = _
  rw [BitVec.ofInt_natCast, BitVec.ofInt_natCast]
theorem pow8 (i : Nat) (h : i ≤ 3) : (2 : Int) ^ (min (Int.toNat (IntKind.wrap .i64 ((8 : Int) * (i : Int)))) (IntKind.bits .u32)) = ((256 ^ i : Nat) : Int) := by
  have e : IntKind.wrap .i64 ((8 : Int) * (i : Int)) = ((8 * i : Nat) : Int) := by rw [wi64 (by omega) (by omega)]; omega
  rw [e, Int.toNat_natCast, Nat.min_eq_left (by show 8 * i ≤ 32; omega), show (256 : Nat) = 2 ^ 8 from rfl, ← Nat.pow_mul]
  simp
theorem accum32 (c y i : Nat) (hi : i ≤ 3) (hc : c < 256 ^ i) (hy : y < 256) :
    IntKind.wrap .u32 ((BitVec.ofInt (IntKind.bits .u32) (c : Int) ||| BitVec.ofInt (IntKind.bits .u32) (IntKind.wrap .u32 ((IntKind.wrap .u32 (y : Int)) * 2 ^ (min (Int.toNat (IntKind.wrap .i64 ((8 : Int) * (i : Int)))) (IntKind.bits .u32))))).toNat : Int) = ((c + y * 256 ^ i : Nat) : Int) := by
  have hle : 256 ^ i ≤ 16777216 := by
    have := Nat.pow_le_pow_right (n := 256) (by decide) hi
    have e : (256 : Nat) ^ 3 = 16777216 := by decide
    omega
  have hmul : y * 256 ^ i ≤ 255 * 256 ^ i := Nat.mul_le_mul_right _ (by omega)
  rw [pow8 i hi, wu32 (x := (y : Int)) (by omega) (by omega), ← Int.natCast_mul, wu32 (x := ((y * 256 ^ i : Nat) : Int)) (by omega) (by omega)]
  have e1 : (BitVec.ofInt (IntKind.bits .u32) (c : Int) ||| BitVec.ofInt (IntKind.bits .u32) ((y * 256 ^ i : Nat) : Int)).toNat = c + y * 256 ^ i := by
    rw [or32, BitVec.toNat_or, BitVec.toNat_ofNat, BitVec.toNat_ofNat, Nat.mod_eq_of_lt (by omega), Nat.mod_eq_of_lt (by omega)]
    have e : (256 : Nat) ^ i = 2 ^ (8 * i) := by rw [show (256 : Nat) = 2 ^ 8 from rfl, ← Nat.pow_mul]
    rw [e] at hc ⊢
    have := Nat.two_pow_add_eq_or_of_lt hc y
    rw [Nat.or_comm, Nat.mul_comm y, ← this, Nat.add_comm]
  rw [e1, wu32 (by omega) (by omega)]
/-- Bytes as a number, the lowest first. -/
def leS : List Int → Nat
  | [] => 0
  | x :: r => x.toNat + 256 * leS r
theorem leS_lt : ∀ {l : List Int}, (∀ x ∈ l, 0 ≤ x ∧ x ≤ 255) → leS l < 256 ^ l.length
  | [], _ => by simp [leS]
  | x :: r, h => by
    have h1 := leS_lt (l := r) fun y hy => h y (by simp [hy])
    have h2 := h x (by simp)
    simp only [leS, List.length_cons, Nat.pow_succ]
    omega
theorem leS_snoc : ∀ (l : List Int) (x : Int), leS (l ++ [x]) = leS l + x.toNat * 256 ^ l.length
  | [], x => by simp [leS]
  | y :: l, x => by
    simp only [List.cons_append, leS, leS_snoc l x, List.length_cons, Nat.pow_succ]
    rw [Nat.mul_add, Nat.mul_comm (256 ^ l.length) 256, Nat.mul_left_comm]
    omega
theorem p50_is {l : List Int} (hb : ∀ x ∈ l, 0 ≤ x ∧ x ≤ 255) (hl : l.length ≤ 4) (hfu : 10 < fu) : p50 fu (l, ()) = some ((), (leS l : Int)) := by
  unfold p50
  dsimp only
  refine loopO_eq (fun (s : (Int × (Int × Unit)) × Unit) => ∃ k : Nat, k ≤ l.length ∧ s = (((leS (l.take k) : Int), (k : Int), ()), ())) (fun s => l.length - s.1.2.1.toNat) (fun _ => ((), (leS l : Int))) ?_ fu _ ⟨0, Nat.zero_le _, rfl⟩ (by dsimp only; omega)
  rintro _ ⟨k, hk, rfl⟩
  by_cases hlt : k < l.length
  · left
    have e1 : decide ((k : Int) < (l.length : Int)) = true := by simpa using hlt
    have e2 : decide ((0 : Int) ≤ (k : Int) ∧ (k : Int) < (l.length : Int)) = true := by simp; omega
    have e3 : decide (k < l.length) = true := by simpa using hlt
    have e7 : decide ((0 : Int) ≤ IntKind.wrap .i64 ((8 : Int) * (k : Int))) = true := by rw [wi64 (by omega) (by omega)]; simp; omega
    have hw : IntKind.wrap .i64 ((k : Int) + 1) = ((k + 1 : Nat) : Int) := by rw [wi64 (by omega) (by omega)]; omega
    have hg : l.getD k (dflt (.int .u8)) = l[k] := by
      rw [List.getD_eq_getElem?_getD, List.getElem?_eq_getElem hlt]
      rfl
    have hx := hb _ (List.getElem_mem hlt)
    have htl : (l.take k).length = k := by rw [List.length_take]; omega
    have hc := leS_lt (l := l.take k) fun x hx => hb x (List.mem_of_mem_take hx)
    rw [htl] at hc
    have hsn : leS (l.take (k + 1)) = leS (l.take k) + l[k].toNat * 256 ^ k := by
      rw [List.take_succ_eq_append_getElem hlt, leS_snoc, htl]
    have hacc := accum32 (leS (l.take k)) l[k].toNat k (by omega) hc (by omega)
    rw [Int.toNat_of_nonneg hx.1] at hacc
    refine ⟨_, ?_, ⟨k + 1, hlt, rfl⟩, ?_, rfl⟩
    · simp only [e1, e2, e3, e7, Int.toNat_natCast, cond_true, hg, hacc, hw, hsn]
    · dsimp only
      omega
  · right
    have hkl : k = l.length := by omega
    subst hkl
    have e1 : decide ((l.length : Int) < (l.length : Int)) = false := by simp
    simp only [e1, cond_false, List.take_length, inrO, Option.map_some]
/-- The four bytes of a sum. -/
def sum4 (s : Int) : List Int := [IntKind.wrap .u8 s, IntKind.wrap .u8 (Int.fdiv s (2 ^ (min (Int.toNat (8 : Int)) (IntKind.bits .u32)))), IntKind.wrap .u8 (Int.fdiv s (2 ^ (min (Int.toNat (16 : Int)) (IntKind.bits .u32)))), IntKind.wrap .u8 (Int.fdiv s (2 ^ (min (Int.toNat (24 : Int)) (IntKind.bits .u32))))]
def sumI (l : List Int) : Int := ((4294967295#32 ^^^ sumB l).toNat : Int)
def frameB (l : List Int) : List Int := tB l ++ sum4 (sumI l)
end
section
variable {fu : Nat}
abbrev ER := Bool × ((Int × (Int × Unit)) × Unit)
abbrev noR : ER := (false, dflt (.pair (.int .i64) (.pair (.int .i64) .unit)), ())
abbrev erR (e c : Int) : ER := (true, (e, c, ()), dflt .unit)
theorem numS_facts : ∀ (r : List Int) (i acc : Nat), (∃ v k : Nat, numS i acc r = ((v : Int), (k : Int), 0) ∧ i < k ∧ k ≤ i + r.length) ∨ (∃ e : Int, e ≠ 0 ∧ numS i acc r = (0, 0, e))
  | [], _, _ => .inr ⟨11, by decide, rfl⟩
  | x :: r, i, acc => by
    rw [numS]
    split
    · exact .inr ⟨12, by decide, rfl⟩
    · split
      · exact .inr ⟨12, by decide, rfl⟩
      · split
        · exact .inl ⟨_, _, rfl, by omega, by simp only [List.length_cons]; omega⟩
        · rcases numS_facts r (i + 1) (acc + x.toNat % 128 * 128 ^ i) with ⟨v, k, h1, h2, h3⟩ | h
          · exact .inl ⟨v, k, h1, by omega, by simp only [List.length_cons]; omega⟩
          · exact .inr h
theorem p41_ok {a : List Int} {c : Int} : p41 fu ((a, c, (), ()), 0, ()) = some (((a, c, noR, ()), ()), ()) := by
  unfold p41 p43
  simp only [bne_self_eq_false, cond_false, Option.bind_some]
theorem p41_er {a : List Int} {c e : Int} (he : e ≠ 0) : p41 fu ((a, c, (), ()), e, ()) = some (((a, c, erR e c, ()), ()), ()) := by
  have g : (e != 0) = true := bne_iff_ne.2 he
  unfold p41 p43
  simp only [g, cond_true, Option.bind_some]
theorem p41_2_ok {a : List Int} {c e : Int} (he : e ≠ 0) : p41_2 fu ((a, c, noR, ()), e, ()) = some (((a, c, erR e c, ()), ()), ()) := by
  have g : (e != 0) = true := bne_iff_ne.2 he
  unfold p41_2 p43_2
  simp only [g, cond_true, cond_false, Option.bind_some]
theorem p15_ok {a : List Int} {v k : Nat} (hb : ∀ x ∈ a, 0 ≤ x ∧ x ≤ 255) (hn : a.length ≤ 140737488355328) (h : numS 0 0 a = ((v : Int), (k : Int), 0)) (hk : k ≤ a.length) (hfu : 10 < fu) : p15 fu ((a, 0, (), ()), ()) = some (((a, (k : Int), noR, ()), ()), (v : Int)) := by
  have e1 : decide ((0 : Int) ≤ 0) = true := by decide
  have e2 : decide (Int.toNat 0 ≤ a.length) = true := by simp
  have hw : IntKind.wrap .i64 (0 + (k : Int)) = (k : Int) := by rw [wi64 (by omega) (by omega)]; omega
  unfold p15
  simp only [e1, e2, cond_true]
  rw [show slice' a (Int.toNat 0) none = a from rfl, p40_any hb hn hfu]
  simp only [Option.bind_some, h]
  rw [p41_ok]
  simp only [Option.bind_some, cond_false, hw]
theorem p15_er {a : List Int} {e : Int} (hb : ∀ x ∈ a, 0 ≤ x ∧ x ≤ 255) (hn : a.length ≤ 140737488355328) (h : numS 0 0 a = (0, 0, e)) (he : e ≠ 0) (hfu : 10 < fu) : p15 fu ((a, 0, (), ()), ()) = some (((a, 0, erR e 0, ()), ()), 0) := by
  have e1 : decide ((0 : Int) ≤ 0) = true := by decide
  have e2 : decide (Int.toNat 0 ≤ a.length) = true := by simp
  have hw : IntKind.wrap .i64 (0 + 0) = 0 := by decide
  unfold p15
  simp only [e1, e2, cond_true]
  rw [show slice' a (Int.toNat 0) none = a from rfl, p40_any hb hn hfu]
  simp only [Option.bind_some, h]
  rw [p41_er he]
  simp only [Option.bind_some, cond_true, hw]
theorem p45_er {a : List Int} {c e q j : Int} : p45_2 fu ((a, c, erR e q, ()), j, ()) = some (((a, c, erR e q, ()), ()), []) := by
  unfold p45_2
  simp only [cond_true]
theorem p45_short {a : List Int} {c j : Nat} (hc : c ≤ a.length) (hn : a.length ≤ 140737488355328) (h : a.length < c + j) : p45_2 fu ((a, (c : Int), noR, ()), (j : Int), ()) = some (((a, (c : Int), erR 11 (c : Int), ()), ()), []) := by
  have e1 : decide ((j : Int) > IntKind.wrap .i64 ((a.length : Int) - (c : Int))) = true := by rw [wi64 (by omega) (by omega)]; simp; omega
  unfold p45_2
  simp only [cond_false, e1, cond_true]
  rw [p41_er (by decide)]
  simp only [Option.bind_some, cond_true]
theorem sl_eq (l : List Int) (i j : Nat) : slice' l i (some j) = (l.drop i).take (j - i) := by
  cases i <;> simp [slice']
theorem p45_ok {a : List Int} {c j : Nat} (hn : a.length ≤ 140737488355328) (h : c + j ≤ a.length) : p45_2 fu ((a, (c : Int), noR, ()), (j : Int), ()) = some (((a, ((c + j : Nat) : Int), noR, ()), ()), (a.drop c).take j) := by
  have e1 : decide ((j : Int) > IntKind.wrap .i64 ((a.length : Int) - (c : Int))) = false := by rw [wi64 (by omega) (by omega)]; simp; omega
  have w1 : IntKind.wrap .i64 ((c : Int) + (j : Int)) = ((c + j : Nat) : Int) := by rw [wi64 (by omega) (by omega)]; omega
  have w2 : IntKind.wrap .i64 (((c + j : Nat) : Int) - (j : Int)) = (c : Int) := by rw [wi64 (by omega) (by omega)]; omega
  have e2 : decide ((0 : Int) ≤ (c : Int)) = true := by simp
  have e3 : decide ((0 : Int) ≤ ((c + j : Nat) : Int)) = true := by simp; omega
  have e4 : decide (c ≤ c + j ∧ c + j ≤ a.length) = true := by simp; omega
  have es : slice' a c (some (c + j)) = (a.drop c).take j := by rw [sl_eq, Nat.add_sub_cancel_left]
  have hl : ((a.drop c).take j).length ≤ 140737488355328 := by rw [List.length_take, List.length_drop]; omega
  have e5 : (((a.drop c).take j).length ≤ maxLen ∧ ((a.drop c).take j).length * 1 ≤ 140737488355328) = True := eq_true ⟨Nat.le_trans hl (by decide), by omega⟩
  unfold p45_2
  simp only [cond_false, e1, w1, w2, e2, e3, Int.toNat_natCast, e4, es, e5, decide_true, cond_true]
theorem p16_ok {a : List Int} {c : Int} : p16_2 fu ((a, c, noR, ()), ()) = some (((a, c, noR, ()), ()), (0, 0, ())) := by
  unfold p16_2 pAs
  simp only [cond_false, cond_true, Option.bind_some, Bool.not_true]
theorem p16_er {a : List Int} {c e q : Int} : p16_2 fu ((a, c, erR e q, ()), ()) = some (((a, c, erR e q, ()), ()), (e, q, ())) := by
  unfold p16_2 pAs
  simp only [cond_true, cond_false, Option.bind_some, Bool.not_false]
/-- What stands in a frame, and behind it. -/
def unS (a : List Int) : List Int × List Int × Int :=
  if (numS 0 0 a).2.2 ≠ 0 then ([], [], (numS 0 0 a).2.2)
  else if (numS 0 0 a).1 > 262144 then ([], [], 13)
  else if (a.drop (numS 0 0 a).2.1.toNat).length < (numS 0 0 a).1.toNat + 4 then ([], [], 11)
  else if (leS (((a.drop (numS 0 0 a).2.1.toNat).drop (numS 0 0 a).1.toNat).take 4) : Int) ≠ sumI ((a.drop (numS 0 0 a).2.1.toNat).take (numS 0 0 a).1.toNat) then ([], [], 14)
  else ((a.drop (numS 0 0 a).2.1.toNat).take (numS 0 0 a).1.toNat, (a.drop (numS 0 0 a).2.1.toNat).drop ((numS 0 0 a).1.toNat + 4), 0)
end
section
variable {fu : Nat}
theorem sl_none (l : List Int) (n : Nat) : slice' l n none = l.drop n := by
  cases n <;> simp [slice']
theorem p21_is {a : List Int} (hb : ∀ x ∈ a, 0 ≤ x ∧ x ≤ 255) (hn : a.length ≤ 140737488355328) (hfu : 10 < fu) (hf2 : a.length < fu) : p21 fu (a, ()) = some ((), ((unS a).1, (unS a).2.1, (unS a).2.2, ())) := by
  unfold p21
  dsimp only
  rcases numS_facts a 0 0 with ⟨v, k, hnum, hk0, hk⟩ | ⟨e, he, hnum⟩
  · rw [p15_ok hb hn hnum (by omega) hfu]
    simp only [Option.bind_some, cond_false]
    have u1 : ¬ ((numS 0 0 a).2.2 ≠ 0) := by rw [hnum]; simp
    by_cases hv : (v : Int) > 262144
    · have g : decide ((v : Int) > 262144) = true := decide_eq_true hv
      have hu : unS a = ([], [], 13) := by
        unfold unS
        rw [if_neg u1, if_pos (by rw [hnum]; exact hv)]
      rw [hu]
      simp only [g, cond_true]
      rw [p41_2_ok (by decide)]
      simp only [Option.bind_some, cond_true, orK_inl]
      rw [p45_er]
      simp only [Option.bind_some, cond_true, decide_true, orK_inl]
      rw [p45_er]
      simp only [Option.bind_some, cond_true, decide_true, orK_inl]
      rw [p16_er]
      rfl
    · have g : decide ((v : Int) > 262144) = false := decide_eq_false hv
      have hwv : IntKind.wrap .i64 (v : Int) = (v : Int) := wi64 (by omega) (by omega)
      have u2 : ¬ ((numS 0 0 a).1 > 262144) := by rw [hnum]; exact hv
      simp only [g, cond_false, orK_inl, hwv]
      by_cases h1 : a.length < k + v
      · have hu : unS a = ([], [], 11) := by
          unfold unS
          rw [if_neg u1, if_neg u2, if_pos (by rw [hnum]; simp only [Int.toNat_natCast, List.length_drop]; omega)]
        rw [hu, p45_short (by omega) hn h1]
        simp only [Option.bind_some, cond_true, decide_true, orK_inl]
        rw [p45_er]
        simp only [Option.bind_some, cond_true, decide_true, orK_inl]
        rw [p16_er]
        rfl
      · rw [p45_ok hn (by omega)]
        simp only [Option.bind_some, cond_false, decide_true, cond_true, orK_inl]
        rw [show (4 : Int) = ((4 : Nat) : Int) from rfl]
        by_cases h2 : a.length < k + v + 4
        · have hu : unS a = ([], [], 11) := by
            unfold unS
            rw [if_neg u1, if_neg u2, if_pos (by rw [hnum]; simp only [Int.toNat_natCast, List.length_drop]; omega)]
          rw [hu, p45_short (by omega) hn h2]
          simp only [Option.bind_some, cond_true, decide_true, orK_inl]
          rw [p16_er]
          rfl
        · have u3 : ¬ ((a.drop (numS 0 0 a).2.1.toNat).length < (numS 0 0 a).1.toNat + 4) := by rw [hnum]; simp only [Int.toNat_natCast, List.length_drop]; omega
          rw [p45_ok hn (by omega)]
          simp only [Option.bind_some, cond_false, decide_true, cond_true]
          have hbs : ∀ x ∈ (a.drop (k + v)).take 4, 0 ≤ x ∧ x ≤ 255 := fun x hx => hb x (List.mem_of_mem_drop (List.mem_of_mem_take hx))
          have hbi : ∀ x ∈ (a.drop k).take v, 0 ≤ x ∧ x ≤ 255 := fun x hx => hb x (List.mem_of_mem_drop (List.mem_of_mem_take hx))
          rw [p50_is hbs (by rw [List.length_take]; omega) hfu]
          simp only [Option.bind_some]
          rw [p24_is hbi (by rw [List.length_take, List.length_drop]; omega) (by rw [List.length_take, List.length_drop]; omega)]
          simp only [Option.bind_some]
          rw [show ((4294967295#32 ^^^ sumB ((a.drop k).take v)).toNat : Int) = sumI ((a.drop k).take v) from rfl]
          by_cases h3 : (leS ((a.drop (k + v)).take 4) : Int) = sumI ((a.drop k).take v)
          · have g3 : ((leS ((a.drop (k + v)).take 4) : Int) != sumI ((a.drop k).take v)) = false := by simp [h3]
            have hu : unS a = ((a.drop k).take v, a.drop (k + v + 4), 0) := by
              unfold unS
              rw [if_neg u1, if_neg u2, if_neg u3]
              simp only [hnum, Int.toNat_natCast, List.drop_drop]
              rw [if_neg (by simpa using h3)]
              rfl
            have f1 : decide ((0 : Int) ≤ ((k + v + 4 : Nat) : Int)) = true := by simp; omega
            have f2 : decide (k + v + 4 ≤ a.length) = true := by simp; omega
            have f3 : ((a.drop (k + v + 4)).length ≤ maxLen ∧ (a.drop (k + v + 4)).length * 1 ≤ 140737488355328) = True := by
              have : (a.drop (k + v + 4)).length ≤ 140737488355328 := by rw [List.length_drop]; omega
              exact eq_true ⟨Nat.le_trans this (by decide), by omega⟩
            rw [hu]
            simp only [g3, cond_false, orK_inl]
            rw [p16_ok]
            simp only [Option.bind_some, cond_false, bne_self_eq_false, f1, Int.toNat_natCast, f2, sl_none, f3, decide_true, cond_true]
          · have g3 : ((leS ((a.drop (k + v)).take 4) : Int) != sumI ((a.drop k).take v)) = true := bne_iff_ne.2 h3
            have hu : unS a = ([], [], 14) := by
              unfold unS
              rw [if_neg u1, if_neg u2, if_neg u3]
              simp only [hnum, Int.toNat_natCast, List.drop_drop]
              rw [if_pos (by simpa using h3)]
            rw [hu]
            simp only [g3, cond_true]
            rw [p41_er (by decide)]
            simp only [Option.bind_some, cond_true, orK_inl]
            rw [p16_er]
            rfl
  · rw [p15_er hb hn hnum he hfu]
    have g : decide ((0 : Int) > 262144) = false := by decide
    have hu : unS a = ([], [], e) := by
      unfold unS
      rw [if_pos (by rw [hnum]; exact he), hnum]
    rw [hu]
    simp only [Option.bind_some, cond_true, g, cond_false, orK_inl]
    rw [p45_er]
    simp only [Option.bind_some, cond_true, decide_true, orK_inl]
    rw [p45_er]
    simp only [Option.bind_some, cond_true, decide_true, orK_inl]
    rw [p16_er]
    have ge : (e != 0) = true := bne_iff_ne.2 he
    simp only [Option.bind_some, cond_true, ge]
end
section
variable {fu : Nat}
def top : Nat := 140737488355328
theorem fits_top {n : Nat} (h : n ≤ 140737488355328) : n ≤ maxLen := Nat.le_trans h (by decide)
theorem p34_is {a : List Int} {v : Int} (hv : isU v) (ha : a.length + (uB v).length ≤ 140737488355328) (hfu : 10 < fu) : p34_1 fu ((a, ()), v, ()) = some (((a ++ uB v, ()), (), ()), ()) := by
  unfold p34_1
  simp only [decide_true, cond_true]
  refine loopO_eq (fun (s : (Int × Unit) × ((List Int × Unit) × Unit)) => isU s.1.1 ∧ s.2.1.1.length + (uB s.1.1).length ≤ 140737488355328) (fun s => (uB s.1.1).length) (fun s => (((s.2.1.1 ++ uB s.1.1, ()), (), ()), ())) ?_ fu _ ⟨hv, ha⟩ (Nat.lt_of_le_of_lt (uB_len hv) hfu)
  rintro ⟨⟨f, ⟨⟩⟩, ⟨⟨h, ⟨⟩⟩, ⟨⟩⟩⟩ ⟨⟨h0, h1⟩, h2⟩
  dsimp only at h0 h1 h2
  obtain ⟨n, rfl⟩ := Int.eq_ofNat_of_zero_le h0
  have e : uB ((n : Nat) : Int) = ub n := rfl
  simp only [e] at h2 ⊢
  by_cases hn : n < 128
  · right
    rw [ub_small hn] at h2 ⊢
    simp only [List.length_singleton] at h2
    have hw : IntKind.wrap .u8 (n : Int) = (n : Int) := wu8 (by omega) (by omega)
    have hl : h.length + 1 ≤ maxLen ∧ (h.length + 1) * 1 ≤ 140737488355328 := ⟨fits_top h2, by omega⟩
    have hge : ¬ ((n : Int) ≥ 128) := by omega
    simp only [hge, hw, hl, List.length_singleton, decide_false, decide_true, cond_false, cond_true, and_self, inrO, Option.map_some]
  · left
    rw [ub_big hn] at h2 ⊢
    simp only [List.length_cons] at h2
    have hl : h.length + 1 ≤ maxLen ∧ (h.length + 1) * 1 ≤ 140737488355328 := ⟨fits_top (by omega), by omega⟩
    refine ⟨((((n / 128 : Nat) : Int), ()), ((h ++ [((n % 128 + 128 : Nat) : Int)], ()), ())), ?_, ⟨⟨by dsimp only; omega, by dsimp only; omega⟩, ?_⟩, ?_, ?_⟩
    · have hge : (n : Int) ≥ 128 := by omega
      simp only [lowP, fdiv7, List.length_singleton, hl, hge, decide_true, cond_true, and_self]
    · show (h ++ [((n % 128 + 128 : Nat) : Int)]).length + (ub (n / 128)).length ≤ _
      simp only [List.length_append, List.length_singleton]
      omega
    · show (ub (n / 128)).length < _
      simp
    · show ((((h ++ [((n % 128 + 128 : Nat) : Int)]) ++ ub (n / 128), ()), (), ()), ()) = _
      simp
theorem p52_is {v : Int} (hv : isU v) (hfu : 10 < fu) : p52 fu (v, ()) = some ((), uB v) := by
  unfold p52
  have h10 := uB_len hv
  refine loopO_eq (fun (s : (Int × List Int × Unit) × Unit) => isU s.1.1 ∧ s.1.2.1.length + (uB s.1.1).length ≤ 10) (fun s => (uB s.1.1).length) (fun s => ((), s.1.2.1 ++ uB s.1.1)) ?_ fu ((v, [], ()), ()) ⟨hv, by simpa using h10⟩ (Nat.lt_of_le_of_lt h10 hfu)
  rintro ⟨⟨f, h, ⟨⟩⟩, ⟨⟩⟩ ⟨⟨h0, h1⟩, h2⟩
  dsimp only at h0 h1 h2
  obtain ⟨n, rfl⟩ := Int.eq_ofNat_of_zero_le h0
  have e : uB ((n : Nat) : Int) = ub n := rfl
  simp only [e] at h2 ⊢
  by_cases hn : n < 128
  · right
    rw [ub_small hn] at h2 ⊢
    simp only [List.length_singleton] at h2
    have hw : IntKind.wrap .u8 (n : Int) = (n : Int) := wu8 (by omega) (by omega)
    have hl : h.length + 1 ≤ maxLen ∧ (h.length + 1) * 1 ≤ 140737488355328 := ⟨fits_top (by omega), by omega⟩
    have hge : ¬ ((n : Int) ≥ 128) := by omega
    simp only [hge, hw, hl, List.length_singleton, decide_false, decide_true, cond_false, cond_true, and_self, inrO, Option.map_some]
  · left
    rw [ub_big hn] at h2 ⊢
    simp only [List.length_cons] at h2
    have hl : h.length + 1 ≤ maxLen ∧ (h.length + 1) * 1 ≤ 140737488355328 := ⟨fits_top (by omega), by omega⟩
    refine ⟨((((n / 128 : Nat) : Int), h ++ [((n % 128 + 128 : Nat) : Int)], ()), ()), ?_, ⟨⟨by dsimp only; omega, by dsimp only; omega⟩, ?_⟩, ?_, ?_⟩
    · have hge : (n : Int) ≥ 128 := by omega
      simp only [lowR n (by omega), fdiv7, List.length_singleton, hl, hge, decide_true, cond_true, and_self]
    · show (h ++ [((n % 128 + 128 : Nat) : Int)]).length + (ub (n / 128)).length ≤ _
      simp only [List.length_append, List.length_singleton]
      omega
    · show (ub (n / 128)).length < _
      simp
    · show ((), (h ++ [((n % 128 + 128 : Nat) : Int)]) ++ ub (n / 128)) = _
      simp
end
section
variable {fu : Nat}
theorem le4R {b0 b1 b2 b3 : Int} (h0 : 0 ≤ b0 ∧ b0 ≤ 255) (h1 : 0 ≤ b1 ∧ b1 ≤ 255) (h2 : 0 ≤ b2 ∧ b2 ≤ 255) (h3 : 0 ≤ b3 ∧ b3 ≤ 255) :
    IntKind.wrap .u32 ((IntKind.wrap .u32 ((IntKind.wrap .u32 ((IntKind.wrap .u32 b0) + (IntKind.wrap .u32 ((IntKind.wrap .u32 b1) * 2 ^ (min (Int.toNat (8 : Int)) (IntKind.bits .u32)))))) + (IntKind.wrap .u32 ((IntKind.wrap .u32 b2) * 2 ^ (min (Int.toNat (16 : Int)) (IntKind.bits .u32)))))) + (IntKind.wrap .u32 ((IntKind.wrap .u32 b3) * 2 ^ (min (Int.toNat (24 : Int)) (IntKind.bits .u32))))) = (leS [b0, b1, b2, b3] : Int) := by
  have e8 : (2 : Int) ^ (min (Int.toNat (8 : Int)) (IntKind.bits .u32)) = 256 := rfl
  have e16 : (2 : Int) ^ (min (Int.toNat (16 : Int)) (IntKind.bits .u32)) = 65536 := rfl
  have e24 : (2 : Int) ^ (min (Int.toNat (24 : Int)) (IntKind.bits .u32)) = 16777216 := rfl
  rw [e8, e16, e24, wu32 (x := b0) (by omega) (by omega), wu32 (x := b1) (by omega) (by omega), wu32 (x := b2) (by omega) (by omega), wu32 (x := b3) (by omega) (by omega), wu32 (x := b1 * 256) (by omega) (by omega), wu32 (x := b2 * 65536) (by omega) (by omega), wu32 (x := b3 * 16777216) (by omega) (by omega), wu32 (x := b0 + b1 * 256) (by omega) (by omega), wu32 (x := b0 + b1 * 256 + b2 * 65536) (by omega) (by omega), wu32 (by omega) (by omega)]
  simp only [leS]
  omega
theorem drop_cons {l : List Int} {i : Nat} (h : i < l.length) : l.drop i = l.getD i 0 :: l.drop (i + 1) := by
  have e : l.getD i 0 = l[i] := by simp [h]
  rw [e]
  exact List.drop_eq_getElem_cons h
theorem take4 {l : List Int} {i : Nat} (h : i + 4 ≤ l.length) : (l.drop i).take 4 = [l.getD i 0, l.getD (i + 1) 0, l.getD (i + 2) 0, l.getD (i + 3) 0] := by
  rw [drop_cons (i := i) (by omega), drop_cons (i := i + 1) (by omega), drop_cons (i := i + 1 + 1) (by omega), drop_cons (i := i + 1 + 1 + 1) (by omega)]
  rfl
theorem getB {l : List Int} {i : Nat} (hb : ∀ x ∈ l, 0 ≤ x ∧ x ≤ 255) (h : i < l.length) : 0 ≤ l.getD i 0 ∧ l.getD i 0 ≤ 255 := by
  have e : l.getD i 0 = l[i] := by simp [h]
  rw [e]
  exact hb _ (List.getElem_mem h)
theorem p22_is {a : List Int} (hb : ∀ x ∈ a, 0 ≤ x ∧ x ≤ 255) (hn : a.length ≤ 140737488355328) (hfu : 10 < fu) (hf2 : a.length < fu) : p22 fu (a, ()) = some ((), ((unS a).1, (unS a).2.1, (unS a).2.2, ())) := by
  have h51 := p51_any (fu := fu) (pre := []) (b := a) (h := 0) hb (by simpa using hn) hfu
  rw [List.nil_append] at h51
  have h51' : p51 fu ((a, 0, 0, 0, ()), ()) = some (afterU a 0 0 (numS 0 0 a)) := h51
  unfold p22
  dsimp only
  rw [h51']
  rcases numS_facts a 0 0 with ⟨v, k, hnum, hk0, hk⟩ | ⟨e, he, hnum⟩
  · have u1 : ¬ ((numS 0 0 a).2.2 ≠ 0) := by rw [hnum]; simp
    have ha : afterU a 0 0 (numS 0 0 a) = (((a, (k : Int), 0, 0, ()), ()), (v : Int)) := by
      unfold afterU
      rw [hnum, if_pos rfl, Int.zero_add]
    have hl : (a.drop k).length = a.length - k := List.length_drop ..
    have f1 : decide ((0 : Int) ≤ (k : Int)) = true := by simp
    have f2 : decide (k ≤ a.length) = true := by simp; omega
    rw [ha]
    simp only [Option.bind_some, bne_self_eq_false, cond_false, f1, cond_true, Int.toNat_natCast, f2, sl_none]
    by_cases hv : (v : Int) > 262144
    · have g : decide ((v : Int) > 262144) = true := decide_eq_true hv
      have hu : unS a = ([], [], 13) := by
        unfold unS
        rw [if_neg u1, if_pos (by rw [hnum]; exact hv)]
      rw [hu]
      simp only [g, cond_true]
    · have g : decide ((v : Int) > 262144) = false := decide_eq_false hv
      have u2 : ¬ ((numS 0 0 a).1 > 262144) := by rw [hnum]; exact hv
      have hwv : IntKind.wrap .i64 (v : Int) = (v : Int) := wi64 (by omega) (by omega)
      have hw1 : IntKind.wrap .i64 ((v : Int) + 1) = ((v + 1 : Nat) : Int) := by rw [wi64 (by omega) (by omega)]; omega
      have hw2 : IntKind.wrap .i64 ((v : Int) + 2) = ((v + 2 : Nat) : Int) := by rw [wi64 (by omega) (by omega)]; omega
      have hw3 : IntKind.wrap .i64 ((v : Int) + 3) = ((v + 3 : Nat) : Int) := by rw [wi64 (by omega) (by omega)]; omega
      have hw4 : IntKind.wrap .i64 ((v : Int) + 4) = ((v + 4 : Nat) : Int) := by rw [wi64 (by omega) (by omega)]; omega
      by_cases h2 : a.length < k + v + 4
      · have hu : unS a = ([], [], 11) := by
          unfold unS
          rw [if_neg u1, if_neg u2, if_pos (by rw [hnum]; simp only [Int.toNat_natCast, List.length_drop]; omega)]
        have g2 : decide (((a.drop k).length : Int) < ((v + 4 : Nat) : Int)) = true := by rw [hl]; simp; omega
        rw [hu]
        simp only [g, cond_false, hwv, hw4, g2, cond_true]
      · have g2 : decide (((a.drop k).length : Int) < ((v + 4 : Nat) : Int)) = false := by rw [hl]; simp; omega
        have u3 : ¬ ((a.drop (numS 0 0 a).2.1.toNat).length < (numS 0 0 a).1.toNat + 4) := by rw [hnum]; simp only [Int.toNat_natCast, List.length_drop]; omega
        have q : ∀ j : Nat, j < v + 4 → decide ((0 : Int) ≤ (j : Int) ∧ (j : Int) < ((a.drop k).length : Int)) = true := fun j hj => by rw [hl]; simp; omega
        have q' : ∀ j : Nat, j < v + 4 → decide (j < (a.drop k).length) = true := fun j hj => by rw [hl]; simp; omega
        have f3 : decide ((0 : Int) ≤ (v : Int)) = true := by simp
        have f4 : decide (0 ≤ v ∧ v ≤ (a.drop k).length) = true := by rw [hl]; simp; omega
        have f5 : decide ((0 : Int) ≤ ((v + 4 : Nat) : Int)) = true := by simp; omega
        have f6 : decide (v + 4 ≤ (a.drop k).length) = true := by rw [hl]; simp; omega
        have hbd : ∀ x ∈ a.drop k, 0 ≤ x ∧ x ≤ 255 := fun x hx => hb x (List.mem_of_mem_drop hx)
        have hbt : ∀ x ∈ (a.drop k).take v, 0 ≤ x ∧ x ≤ 255 := fun x hx => hbd x (List.mem_of_mem_take hx)
        have hle := le4R (getB hbd (i := v) (by omega)) (getB hbd (i := v + 1) (by omega)) (getB hbd (i := v + 2) (by omega)) (getB hbd (i := v + 3) (by omega))
        rw [← take4 (l := a.drop k) (i := v) (by omega)] at hle
        have hg : ∀ j : Nat, List.getD (a.drop k) j (dflt (.int .u8)) = (a.drop k).getD j 0 := fun _ => rfl
        simp only [g, cond_false, hwv, hw1, hw2, hw3, hw4, g2, Int.toNat_natCast, q v (by omega), q' v (by omega), q (v + 1) (by omega), q' (v + 1) (by omega), q (v + 2) (by omega), q' (v + 2) (by omega), q (v + 3) (by omega), q' (v + 3) (by omega), f3, f4, cond_true, hg, hle]
        rw [p25_is hbt (by rw [List.length_take]; omega) (by rw [List.length_take]; omega) (by omega)]
        simp only [Option.bind_some]
        rw [show ((4294967295#32 ^^^ sumB ((a.drop k).take v)).toNat : Int) = sumI ((a.drop k).take v) from rfl]
        by_cases h3 : (leS (((a.drop k).drop v).take 4) : Int) = sumI ((a.drop k).take v)
        · have g3 : ((leS (((a.drop k).drop v).take 4) : Int) != sumI ((a.drop k).take v)) = false := bne_eq_false_iff_eq.2 h3
          have hu : unS a = ((a.drop k).take v, (a.drop k).drop (v + 4), 0) := by
            unfold unS
            rw [if_neg u1, if_neg u2, if_neg u3]
            simp only [hnum, Int.toNat_natCast]
            rw [if_neg (fun hne => hne h3)]
          have f7 : (([] : List Int).length + ((a.drop k).take v).length ≤ maxLen ∧ (([] : List Int).length + ((a.drop k).take v).length) * 1 ≤ 140737488355328) = True := by
            have : ([] : List Int).length + ((a.drop k).take v).length ≤ 140737488355328 := by rw [List.length_take, hl]; simp only [List.length_nil]; omega
            exact eq_true ⟨Nat.le_trans this (by decide), by omega⟩
          have f8 : (([] : List Int).length + ((a.drop k).drop (v + 4)).length ≤ maxLen ∧ (([] : List Int).length + ((a.drop k).drop (v + 4)).length) * 1 ≤ 140737488355328) = True := by
            have : ([] : List Int).length + ((a.drop k).drop (v + 4)).length ≤ 140737488355328 := by rw [List.length_drop, hl]; simp only [List.length_nil]; omega
            exact eq_true ⟨Nat.le_trans this (by decide), by omega⟩
          have f9 : decide (0 = ([] : List Int).length) = true := rfl
          rw [hu]
          simp only [g3, cond_false, f9, f7, f5, f6, f8, decide_true, cond_true, List.nil_append]
        · have g3 : ((leS (((a.drop k).drop v).take 4) : Int) != sumI ((a.drop k).take v)) = true := bne_iff_ne.2 h3
          have hu : unS a = ([], [], 14) := by
            unfold unS
            rw [if_neg u1, if_neg u2, if_neg u3]
            simp only [hnum, Int.toNat_natCast]
            rw [if_pos h3]
          rw [hu]
          simp only [g3, cond_true]
  · have hu : unS a = ([], [], e) := by
      unfold unS
      rw [if_pos (by rw [hnum]; exact he), hnum]
    have ha : afterU a 0 0 (numS 0 0 a) = (((a, 0, e, 0, ()), ()), 0) := by
      unfold afterU
      rw [hnum, if_neg he]
    have ge : (e != 0) = true := bne_iff_ne.2 he
    rw [hu, ha]
    simp only [Option.bind_some, ge, cond_true]
theorem p34uF_is {v : Int} (hv : isU v) (hfu : 10 < fu) : p34 fu (((), ()), v, ()) = some (((uB v, ()), ()), ()) := by
  have h10 := uB_len hv
  unfold p34
  dsimp only
  refine loopO_eq (fun (s : (Int × Unit) × ((List Int × Unit) × Unit)) => isU s.1.1 ∧ s.2.1.1.length + (uB s.1.1).length ≤ 10) (fun s => (uB s.1.1).length) (fun s => (((s.2.1.1 ++ uB s.1.1, ()), ()), ())) ?_ fu ((v, ()), (([], ()), ())) ⟨hv, by simpa using h10⟩ (Nat.lt_of_le_of_lt h10 hfu)
  rintro ⟨⟨f, ⟨⟩⟩, ⟨⟨h, ⟨⟩⟩, ⟨⟩⟩⟩ ⟨⟨h0, h1⟩, h2⟩
  dsimp only at h0 h1 h2
  obtain ⟨n, rfl⟩ := Int.eq_ofNat_of_zero_le h0
  have e : uB ((n : Nat) : Int) = ub n := rfl
  simp only [e] at h2 ⊢
  by_cases hn : n < 128
  · right
    rw [ub_small hn] at h2 ⊢
    simp only [List.length_singleton] at h2
    have hw : IntKind.wrap .u8 (n : Int) = (n : Int) := wu8 (by omega) (by omega)
    have hge : ¬ ((n : Int) ≥ 128) := by omega
    have hl : (h.length + 1 ≤ maxLen ∧ (h.length + 1) * 1 ≤ 140737488355328) = True := eq_true ⟨fits_top (by omega), by omega⟩
    simp only [hge, hw, hl, List.length_singleton, decide_false, decide_true, cond_false, cond_true, inrO, Option.map_some]
  · left
    rw [ub_big hn] at h2 ⊢
    simp only [List.length_cons] at h2
    have hl : (h.length + 1 ≤ maxLen ∧ (h.length + 1) * 1 ≤ 140737488355328) = True := eq_true ⟨fits_top (by omega), by omega⟩
    refine ⟨((((n / 128 : Nat) : Int), ()), ((h ++ [((n % 128 + 128 : Nat) : Int)], ()), ())), ?_, ⟨⟨by dsimp only; omega, by dsimp only; omega⟩, ?_⟩, ?_, ?_⟩
    · have hge : (n : Int) ≥ 128 := by omega
      simp only [lowP, fdiv7, List.length_singleton, hl, hge, decide_true, cond_true]
    · show (h ++ [((n % 128 + 128 : Nat) : Int)]).length + (ub (n / 128)).length ≤ _
      simp only [List.length_append, List.length_singleton]
      omega
    · show (ub (n / 128)).length < _
      simp
    · show (((((h ++ [((n % 128 + 128 : Nat) : Int)]) ++ ub (n / 128), ()), ()), ())) = _
      simp
theorem fitF {n : Nat} (h : n ≤ 140737488355328) : (n ≤ maxLen ∧ n * 1 ≤ 140737488355328) = True := eq_true ⟨fits_top h, by omega⟩
theorem p12_is {l : List Int} (hb : ∀ x ∈ l, 0 ≤ x ∧ x ≤ 255) (hn : l.length ≤ 1048576) (hfu : 10 < fu) (hf2 : l.length < fu) : p12 fu (l, ()) = some ((), frameB l) := by
  have hu : isU (l.length : Int) := ⟨by omega, by omega⟩
  have h10 := uB_len hu
  have hw : IntKind.wrap .u64 (l.length : Int) = (l.length : Int) := wu64 (by omega) (by omega)
  have ht : (tB l).length ≤ 1048586 := by unfold tB; rw [List.length_append]; omega
  have h36 : p36 fu (((), ()), l, ()) = some (((tB l, ()), ()), ()) := by
    unfold p36
    dsimp only
    rw [hw, p34uF_is hu hfu]
    have h2 : (uB (l.length : Int)).length + l.length ≤ 140737488355328 := by omega
    simp only [Option.bind_some, decide_true, cond_true, fitF h2, tB]
  unfold p12
  dsimp only
  rw [h36]
  simp only [Option.bind_some]
  rw [p24_is hb (by omega) hf2]
  simp only [Option.bind_some, decide_true, cond_true]
  have h27 : p27 fu ((tB l, ()), ()) = some ((), tB l) := by
    unfold p27
    simp only [fitF (n := (tB l).length) (by omega), decide_true, cond_true]
  rw [h27]
  have h3 : (tB l).length + 4 ≤ 140737488355328 := by omega
  simp only [Option.bind_some, decide_true, cond_true, List.length_cons, List.length_nil, Nat.zero_add, fitF h3]
  rfl
theorem p23_is {l : List Int} (hb : ∀ x ∈ l, 0 ≤ x ∧ x ≤ 255) (hn : l.length ≤ 1048576) (hfu : 10 < fu) (hf2 : l.length < fu) : p23 fu (l, ()) = some ((), frameB l) := by
  have hu : isU (l.length : Int) := ⟨by omega, by omega⟩
  have h10 := uB_len hu
  have hw : IntKind.wrap .u64 (l.length : Int) = (l.length : Int) := wu64 (by omega) (by omega)
  unfold p23
  dsimp only
  rw [hw, p52_is hu hfu]
  have h2 : (uB (l.length : Int)).length + l.length ≤ 140737488355328 := by omega
  simp only [Option.bind_some, decide_true, cond_true, fitF h2]
  rw [p25_is hb (by omega) hf2 (by omega)]
  have h3 : (uB (l.length : Int) ++ l).length + 4 ≤ 140737488355328 := by rw [List.length_append]; omega
  simp only [Option.bind_some, decide_true, cond_true, List.length_cons, List.length_nil, Nat.zero_add, fitF h3]
  rfl
theorem p11F_is (hfu : 30 < fu) : p11 fu () = some ((), true) := by
  obtain ⟨m, rfl⟩ : ∃ m, fu = m + 30 := ⟨fu - 30, by omega⟩
  kernel_rfl
/-- A loop that adds one to every byte ends. -/
theorem p4_is {a c : List Int} (ha : ∀ x ∈ a, 0 ≤ x ∧ x ≤ 255) (hc : ∀ x ∈ c, 0 ≤ x ∧ x ≤ 255) (hn : a.length ≤ 1048576) (hm : c.length ≤ 1048576) (hfu : 140737488355328 < fu) : p4 fu (a, c, ()) = some ((), true) := by
  have e0 : decide (0 = ([] : List Int).length) = true := rfl
  have e1 : (([] : List Int).length + c.length ≤ maxLen ∧ (([] : List Int).length + c.length) * 1 ≤ 140737488355328) = True := by
    have : ([] : List Int).length + c.length ≤ 140737488355328 := by simp only [List.length_nil]; omega
    exact eq_true ⟨fits_top this, by omega⟩
  unfold p4
  dsimp only
  rw [p11F_is (by omega)]
  simp only [Option.bind_some, e0, e1, decide_true, cond_true]
  rw [p12_is ha hn (by omega) (by omega)]
  simp only [Option.bind_some, List.nil_append, decide_true, cond_true]
  rw [p21_is hc (by omega) (by omega) (by omega)]
  simp only [Option.bind_some]
  rw [p22_is hc (by omega) (by omega) (by omega)]
  simp only [Option.bind_some]
  rw [p23_is ha hn (by omega) (by omega)]
  simp only [Option.bind_some, decide_true, cond_true, BEq.rfl]
  rw [p24_is ha (by omega) (by omega)]
  simp only [Option.bind_some]
  rw [p25_is ha (by omega) (by omega) (by omega)]
  simp only [Option.bind_some, BEq.rfl, orK_inl]
  have hlen1 : (unS c).1.length ≤ c.length ∧ (unS c).2.1.length ≤ c.length := by
    unfold unS
    repeat' split
    all_goals simp only [List.length_nil, List.length_take, List.length_drop]
    all_goals omega
  generalize (unS c).1 = x at hlen1
  generalize (unS c).2.1 = y at hlen1
  refine loopO_eq (fun (s : (List Int × Int × Unit) × Unit) => s.1.1.length = x.length ∧ ∃ j : Nat, j ≤ x.length ∧ s.1.2.1 = (j : Int)) (fun s => x.length - s.1.2.1.toNat) (fun _ => ((), true)) ?_ fu ((x, 0, ()), ()) ⟨rfl, 0, Nat.zero_le _, rfl⟩ (by dsimp only; omega)
  rintro ⟨⟨m, n, ⟨⟩⟩, ⟨⟩⟩ ⟨hm1, j, hj, hjn⟩
  dsimp only at hm1 hjn
  subst hjn
  by_cases hjl : j < m.length
  · left
    have f1 : decide ((j : Int) < (m.length : Int)) = true := by simpa using hjl
    have f2 : decide ((0 : Int) ≤ (j : Int) ∧ (j : Int) < (m.length : Int)) = true := by simp; omega
    have f3 : decide (j < m.length) = true := by simpa using hjl
    have fw : IntKind.wrap .i64 ((j : Int) + 1) = ((j + 1 : Nat) : Int) := by rw [wi64 (by omega) (by omega)]; omega
    refine ⟨((m.set j (IntKind.wrap .u8 (List.getD m j (dflt (.int .u8)) + (1 : Int))), ((j + 1 : Nat) : Int), ()), ()), ?_, ⟨?_, j + 1, ?_, rfl⟩, ?_, rfl⟩
    · simp only [f1, f2, Int.toNat_natCast, f3, cond_true, List.length_set, decide_true, fw]
    · simpa using hm1
    · omega
    · dsimp only
      omega
  · right
    have f1 : decide ((j : Int) < (m.length : Int)) = false := by simp; omega
    simp only [f1, cond_false, decide_true, cond_true]
    rw [show (some (Sum.inr ((), true)) : Option (_ ⊕ (Unit × Bool))) = inrO (some ((), true)) from rfl]
    refine congrArg inrO ?_
    refine loopO_eq (fun (s : (List Int × Int × Unit) × Unit) => s.1.1.length = y.length ∧ ∃ j : Nat, j ≤ y.length ∧ s.1.2.1 = (j : Int)) (fun s => y.length - s.1.2.1.toNat) (fun _ => ((), true)) ?_ fu ((y, 0, ()), ()) ⟨rfl, 0, Nat.zero_le _, rfl⟩ (by dsimp only; omega)
    rintro ⟨⟨m2, n2, ⟨⟩⟩, ⟨⟩⟩ ⟨hm2, i, hi, hin⟩
    dsimp only at hm2 hin
    subst hin
    by_cases hil : i < m2.length
    · left
      have f1 : decide ((i : Int) < (m2.length : Int)) = true := by simpa using hil
      have f2 : decide ((0 : Int) ≤ (i : Int) ∧ (i : Int) < (m2.length : Int)) = true := by simp; omega
      have f3 : decide (i < m2.length) = true := by simpa using hil
      have fw : IntKind.wrap .i64 ((i : Int) + 1) = ((i + 1 : Nat) : Int) := by rw [wi64 (by omega) (by omega)]; omega
      refine ⟨((m2.set i (IntKind.wrap .u8 (List.getD m2 i (dflt (.int .u8)) + (1 : Int))), ((i + 1 : Nat) : Int), ()), ()), ?_, ⟨?_, i + 1, ?_, rfl⟩, ?_, rfl⟩
      · simp only [f1, f2, Int.toNat_natCast, f3, cond_true, List.length_set, decide_true, fw]
      · simpa using hm2
      · omega
      · dsimp only
        omega
    · right
      have f1 : decide ((i : Int) < (m2.length : Int)) = false := by simp; omega
      simp only [f1, cond_false, cond_true, BEq.rfl, inrO, Option.map_some]
end
end Go.Proofs.YtfhdpeceppafiaaDoor
