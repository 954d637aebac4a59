/-
  A frame of which one bit is changed is not taken for a frame of as many bytes.
-/
import Derived.Test.YtfhdpeceppafiaaDoorWrA
import Derived.Test.YtfhdpeceppafiaaDoorGl
import Derived.Test.YtfhdpeceppafiaaDoorPtI
namespace Go.Proofs.YtfhdpeceppafiaaDoor
open Go.RowKit
section
theorem and8 (n m : Nat) : ((BitVec.ofInt (IntKind.bits .u8) (n : Int) &&& BitVec.ofInt (IntKind.bits .u8) (m : Int)).toNat) = (BitVec.ofNat 8 n &&& BitVec.ofNat 8 m).toNat := by
  show (BitVec.ofInt 8 (n : Int) &&& BitVec.ofInt 8 (m : Int)).toNat = _
  rw [BitVec.ofInt_natCast, BitVec.ofInt_natCast]
theorem or64 (n m : Nat) : ((BitVec.ofInt (IntKind.bits .u64) (n : Int) ||| BitVec.ofInt (IntKind.bits .u64) (m : Int)).toNat) = (BitVec.ofNat 64 n ||| BitVec.ofNat 64 m).toNat := by
  show (BitVec.ofInt 64 (n : Int) ||| BitVec.ofInt 64 (m : Int)).toNat = _
  rw [BitVec.ofInt_natCast, BitVec.ofInt_natCast]
theorem low7 (x : Nat) (h : x < 256) : IntKind.wrap .u8 ((BitVec.ofInt (IntKind.bits .u8) (x : Int) &&& BitVec.ofInt (IntKind.bits .u8) (127 : Int)).toNat : Int) = ((x % 128 : Nat) : Int) := by
  have h2 : (BitVec.ofInt (IntKind.bits .u8) (x : Int) &&& BitVec.ofInt (IntKind.bits .u8) (127 : Int)).toNat = x % 128 := by
    refine (and8 x 127).trans ?_
    rw [BitVec.toNat_and, BitVec.toNat_ofNat, BitVec.toNat_ofNat, Nat.mod_eq_of_lt h]
    exact Nat.and_two_pow_sub_one_eq_mod x 7
  rw [h2, wu8 (by omega) (by omega)]
theorem pow7 (i : Nat) (h : i ≤ 9) : (2 : Int) ^ (min (Int.toNat (IntKind.wrap .i64 ((7 : Int) * (i : Int)))) (IntKind.bits .u64)) = ((128 ^ i : Nat) : Int) := by
  have e : IntKind.wrap .i64 ((7 : Int) * (i : Int)) = ((7 * i : Nat) : Int) := by rw [wi64 (by omega) (by omega)]; omega
  rw [e, Int.toNat_natCast, Nat.min_eq_left (by show 7 * i ≤ 64; omega), show (128 : Nat) = 2 ^ 7 from rfl, ← Nat.pow_mul]
  simp
theorem p128 {i : Nat} (h : i ≤ 9) : 128 ^ i ≤ 9223372036854775808 := by
  have := Nat.pow_le_pow_right (n := 128) (by decide) h
  have e : (128 : Nat) ^ 9 = 9223372036854775808 := by decide
  omega
/-- What was read so far, and seven bits more. -/
theorem accum (c y i : Nat) (hi : i ≤ 9) (hc : c < 128 ^ i) (hy : c + y * 128 ^ i < 18446744073709551616) :
    IntKind.wrap .u64 ((BitVec.ofInt (IntKind.bits .u64) (c : Int) ||| BitVec.ofInt (IntKind.bits .u64) (IntKind.wrap .u64 ((IntKind.wrap .u64 (y : Int)) * 2 ^ (min (Int.toNat (IntKind.wrap .i64 ((7 : Int) * (i : Int)))) (IntKind.bits .u64))))).toNat : Int) = ((c + y * 128 ^ i : Nat) : Int) := by
  have hpos : 0 < 128 ^ i := Nat.pow_pos (by decide)
  have hy1 : y ≤ y * 128 ^ i := Nat.le_mul_of_pos_right y hpos
  rw [pow7 i hi, wu64 (x := (y : Int)) (by omega) (by omega), ← Int.natCast_mul, wu64 (x := ((y * 128 ^ i : Nat) : Int)) (by omega) (by omega)]
  have e1 : (BitVec.ofInt (IntKind.bits .u64) (c : Int) ||| BitVec.ofInt (IntKind.bits .u64) ((y * 128 ^ i : Nat) : Int)).toNat = c + y * 128 ^ i := by
    rw [or64, BitVec.toNat_or, BitVec.toNat_ofNat, BitVec.toNat_ofNat, Nat.mod_eq_of_lt (by omega), Nat.mod_eq_of_lt (by omega)]
    have e : (128 : Nat) ^ i = 2 ^ (7 * i) := by rw [show (128 : Nat) = 2 ^ 7 from rfl, ← Nat.pow_mul]
    rw [e] at hc ⊢
    have := Nat.two_pow_add_eq_or_of_lt hc y
    rw [Nat.or_comm, Nat.mul_comm y, ← this, Nat.add_comm]
  rw [e1, wu64 (by omega) (by omega)]
theorem ub_pos (v : Nat) : 0 < (ub v).length := by
  by_cases h : v < 128
  · rw [ub_small h]; exact Nat.one_pos
  · rw [ub_big h]; exact Nat.succ_pos _
theorem ub_head (v : Nat) (r : List Int) : (ub v ++ r).getD 0 0 = (((if v < 128 then v else v % 128 + 128 : Nat)) : Int) := by
  by_cases h : v < 128
  · rw [ub_small h, if_pos h]; rfl
  · rw [ub_big h, if_neg h]; rfl
end
section
/-- One bit. -/
def bit1 (c : BitVec 32) : BitVec 32 := if c.toNat % 2 = 1 then (c >>> 1) ^^^ 2197175160#32 else c >>> 1
def bit4 (c : BitVec 32) : BitVec 32 := bit1 (bit1 (bit1 (bit1 c)))
def nibT (c : BitVec 32) : BitVec 32 := BitVec.ofNat 32 (gl0.getD (c &&& 15#32).toNat 0).toNat
def nib (c : BitVec 32) : BitVec 32 := (c >>> 4) ^^^ nibT c
theorem xor_par (a b : BitVec 32) : (a ^^^ b).toNat % 2 = (a.toNat + b.toNat) % 2 := by
  rw [BitVec.toNat_xor]
  have h := Nat.testBit_xor a.toNat b.toNat 0
  rw [Nat.testBit_zero, Nat.testBit_zero, Nat.testBit_zero] at h
  by_cases ha : a.toNat % 2 = 1
  · by_cases hb : b.toNat % 2 = 1
    · simp only [ha, hb, decide_true, Bool.xor_self, decide_eq_false_iff_not] at h
      omega
    · simp only [ha, hb, decide_true, decide_false, Bool.xor_false, decide_eq_true_eq] at h
      omega
  · by_cases hb : b.toNat % 2 = 1
    · simp only [ha, hb, decide_true, decide_false, Bool.false_xor, decide_eq_true_eq] at h
      omega
    · simp only [ha, hb, decide_false, Bool.xor_self, decide_eq_false_iff_not] at h
      omega
theorem bit1_xor (a b : BitVec 32) : bit1 (a ^^^ b) = bit1 a ^^^ bit1 b := by
  have h := xor_par a b
  have hs : (a ^^^ b) >>> 1 = (a >>> 1) ^^^ (b >>> 1) := BitVec.ushiftRight_xor_distrib a b 1
  have ha : a.toNat % 2 = 0 ∨ a.toNat % 2 = 1 := by omega
  have hb : b.toNat % 2 = 0 ∨ b.toNat % 2 = 1 := by omega
  unfold bit1
  rw [hs]
  generalize a >>> 1 = x
  generalize b >>> 1 = y
  generalize 2197175160#32 = p
  rcases ha with ha | ha <;> rcases hb with hb | hb
  · rw [if_neg (by omega), if_neg (by omega), if_neg (by omega)]
  · rw [if_pos (by omega), if_neg (by omega), if_pos (by omega), BitVec.xor_assoc]
  · rw [if_pos (by omega), if_pos (by omega), if_neg (by omega), BitVec.xor_assoc, BitVec.xor_assoc, BitVec.xor_comm y p]
  · rw [if_neg (by omega), if_pos (by omega), if_pos (by omega)]
    have e : x ^^^ p ^^^ (y ^^^ p) = x ^^^ y ^^^ (p ^^^ p) := by ac_rfl
    rw [e, BitVec.xor_self, BitVec.xor_zero]
theorem bit4_xor (a b : BitVec 32) : bit4 (a ^^^ b) = bit4 a ^^^ bit4 b := by
  unfold bit4
  rw [bit1_xor, bit1_xor, bit1_xor, bit1_xor]
theorem bit1_even (m : Nat) (h : m < 2147483648) : bit1 (BitVec.ofNat 32 (2 * m)) = BitVec.ofNat 32 m := by
  unfold bit1
  rw [if_neg (by rw [BitVec.toNat_ofNat]; omega)]
  apply BitVec.eq_of_toNat_eq
  rw [BitVec.toNat_ushiftRight, BitVec.toNat_ofNat, BitVec.toNat_ofNat, Nat.shiftRight_eq_div_pow]
  omega
theorem bit4_high (m : Nat) (h : m < 268435456) : bit4 (BitVec.ofNat 32 (16 * m)) = BitVec.ofNat 32 m := by
  unfold bit4
  rw [show 16 * m = 2 * (8 * m) by omega, bit1_even _ (by omega), show 8 * m = 2 * (4 * m) by omega, bit1_even _ (by omega), show 4 * m = 2 * (2 * m) by omega, bit1_even _ (by omega), bit1_even _ (by omega)]
theorem bit4_low : ∀ n : Fin 16, bit4 (BitVec.ofNat 32 n.val) = BitVec.ofNat 32 (gl0.getD n.val 0).toNat := by decide +kernel
theorem low15 (c : BitVec 32) : (c &&& 15#32).toNat = c.toNat % 16 := by
  rw [BitVec.toNat_and]
  exact Nat.and_two_pow_sub_one_eq_mod c.toNat 4
theorem high_low (c : BitVec 32) : c = BitVec.ofNat 32 (16 * (c.toNat / 16)) ^^^ BitVec.ofNat 32 (c.toNat % 16) := by
  apply BitVec.eq_of_toNat_eq
  have hlt := c.isLt
  rw [BitVec.toNat_xor, BitVec.toNat_ofNat, BitVec.toNat_ofNat, Nat.mod_eq_of_lt (by omega), Nat.mod_eq_of_lt (by omega)]
  have h1 : c.toNat % 16 < 2 ^ 4 := by omega
  have h2 := Nat.two_pow_add_eq_or_of_lt h1 (c.toNat / 16)
  have h3 : 2 ^ 4 * (c.toNat / 16) ^^^ c.toNat % 16 = 2 ^ 4 * (c.toNat / 16) ||| c.toNat % 16 := by
    apply Nat.eq_of_testBit_eq
    intro i
    rw [Nat.testBit_xor, Nat.testBit_or]
    by_cases hi : i < 4
    · rw [Nat.testBit_two_pow_mul]
      simp [Nat.not_le.2 hi]
    · have : (c.toNat % 16).testBit i = false := by
        apply Nat.testBit_lt_two_pow
        exact Nat.lt_of_lt_of_le h1 (Nat.pow_le_pow_right (by decide) (by omega))
      rw [this]
      simp
  have e16 : (2 : Nat) ^ 4 = 16 := rfl
  rw [e16] at h2 h3
  rw [h3, ← h2]
  omega
theorem nib_is (c : BitVec 32) : nib c = bit4 c := by
  have hlt := c.isLt
  have e := high_low c
  have h1 : bit4 c = BitVec.ofNat 32 (c.toNat / 16) ^^^ BitVec.ofNat 32 (gl0.getD (c.toNat % 16) 0).toNat := by
    conv => lhs; rw [e]
    rw [bit4_xor, bit4_high _ (by omega)]
    have := bit4_low ⟨c.toNat % 16, by omega⟩
    rw [this]
  rw [h1]
  unfold nib nibT
  rw [low15]
  congr 1
  apply BitVec.eq_of_toNat_eq
  rw [BitVec.toNat_ushiftRight, BitVec.toNat_ofNat, Nat.shiftRight_eq_div_pow]
  omega
/-! Numbers of 32 bits as the program has them. -/
theorem wu32 {x : Int} (h1 : 0 ≤ x) (h2 : x < 4294967296) : IntKind.wrap .u32 x = x := wuk .u32 rfl h1 h2
theorem ofI (C : BitVec 32) : BitVec.ofInt 32 (C.toNat : Int) = C := by
  rw [BitVec.ofInt_natCast]
  simp
theorem xorI (C D : BitVec 32) : IntKind.wrap .u32 ((BitVec.ofInt (IntKind.bits .u32) (C.toNat : Int) ^^^ BitVec.ofInt (IntKind.bits .u32) (D.toNat : Int)).toNat : Int) = ((C ^^^ D).toNat : Int) := by
  have e : (BitVec.ofInt (IntKind.bits .u32) (C.toNat : Int) ^^^ BitVec.ofInt (IntKind.bits .u32) (D.toNat : Int)).toNat = (C ^^^ D).toNat := by
    show (BitVec.ofInt 32 (C.toNat : Int) ^^^ BitVec.ofInt 32 (D.toNat : Int)).toNat = _
    rw [ofI, ofI]
  rw [e]
  have := (C ^^^ D).isLt
  exact wu32 (by omega) (by omega)
theorem andI (C D : BitVec 32) : IntKind.wrap .u32 ((BitVec.ofInt (IntKind.bits .u32) (C.toNat : Int) &&& BitVec.ofInt (IntKind.bits .u32) (D.toNat : Int)).toNat : Int) = ((C &&& D).toNat : Int) := by
  have e : (BitVec.ofInt (IntKind.bits .u32) (C.toNat : Int) &&& BitVec.ofInt (IntKind.bits .u32) (D.toNat : Int)).toNat = (C &&& D).toNat := by
    show (BitVec.ofInt 32 (C.toNat : Int) &&& BitVec.ofInt 32 (D.toNat : Int)).toNat = _
    rw [ofI, ofI]
  rw [e]
  have := (C &&& D).isLt
  exact wu32 (by omega) (by omega)
theorem shrI4 (C : BitVec 32) : Int.fdiv (C.toNat : Int) (2 ^ (min (Int.toNat (4 : Int)) (IntKind.bits .u32))) = ((C >>> 4).toNat : Int) := by
  show Int.fdiv (C.toNat : Int) 16 = _
  rw [Int.fdiv_eq_ediv_of_nonneg _ (by decide), BitVec.toNat_ushiftRight, Nat.shiftRight_eq_div_pow]
  rfl
theorem shrI1 (C : BitVec 32) : Int.fdiv (C.toNat : Int) (2 ^ (min (Int.toNat (1 : Int)) (IntKind.bits .u32))) = ((C >>> 1).toNat : Int) := by
  show Int.fdiv (C.toNat : Int) 2 = _
  rw [Int.fdiv_eq_ediv_of_nonneg _ (by decide), BitVec.toNat_ushiftRight, Nat.shiftRight_eq_div_pow]
  rfl
theorem tabI (C : BitVec 32) : List.getD gl0 (Int.toNat ((C &&& 15#32).toNat : Int)) (dflt (.int .u32)) = ((nibT C).toNat : Int) := by
  have h : ∀ n : Fin 16, gl0.getD n.val 0 = ((BitVec.ofNat 32 (gl0.getD n.val 0).toNat).toNat : Int) := by decide +kernel
  rw [Int.toNat_natCast]
  exact h ⟨(C &&& 15#32).toNat, by rw [low15]; omega⟩
/-- A byte goes in. -/
def byte8 (c : BitVec 32) (n : Int) : BitVec 32 := bit4 (bit4 (c ^^^ BitVec.ofNat 32 n.toNat))
def sumB (l : List Int) : BitVec 32 := l.foldl byte8 4294967295#32
theorem foldl_take {l : List Int} {i : Nat} (h : i < l.length) (c : BitVec 32) : (l.take (i + 1)).foldl byte8 c = byte8 ((l.take i).foldl byte8 c) (l.getD i 0) := by
  have e : l.getD i 0 = l[i] := by simp [h]
  rw [List.take_succ_eq_append_getElem h, List.foldl_append, e]
  rfl
theorem byteI {x : Int} (h0 : 0 ≤ x) (h1 : x ≤ 255) : IntKind.wrap .u32 x = ((BitVec.ofNat 32 x.toNat).toNat : Int) := by
  rw [wu32 h0 (by omega), BitVec.toNat_ofNat]
  omega
end
section
variable {fu : Nat}
def itb : Nat → BitVec 32 → BitVec 32
  | 0, c => c
  | n + 1, c => bit1 (itb n c)
theorem p24_is {l : List Int} (hb : ∀ x ∈ l, 0 ≤ x ∧ x ≤ 255) (hl : l.length ≤ 140737488355328) (hfu : l.length < fu) : p24 fu (l, ()) = some ((), ((4294967295#32 ^^^ sumB l).toNat : Int)) := by
  unfold p24
  dsimp only
  refine loopO_eq (fun (s : (Int × (Int × Unit)) × Unit) => ∃ k : Nat, k ≤ l.length ∧ s = (((((l.take k).foldl byte8 4294967295#32).toNat : Int), (k : Int), ()), ())) (fun s => l.length - s.1.2.1.toNat) (fun _ => ((), ((4294967295#32 ^^^ sumB l).toNat : Int))) ?_ fu _ ⟨0, Nat.zero_le _, rfl⟩ (by dsimp only; omega)
  rintro _ ⟨k, hk, rfl⟩
  by_cases hlt : k < l.length
  · left
    have e1 : decide ((k : Int) < (l.length : Int)) = true := by simpa using hlt
    have e2 : decide ((0 : Int) ≤ (k : Int) ∧ (k : Int) < (l.length : Int)) = true := by simp; omega
    have e3 : decide (k < l.length) = true := by simpa using hlt
    have hw : IntKind.wrap .i64 ((k : Int) + 1) = ((k + 1 : Nat) : Int) := by rw [wi64 (by omega) (by omega)]; omega
    have hx : 0 ≤ l.getD k 0 ∧ l.getD k 0 ≤ 255 := by
      have e : l.getD k 0 = l[k] := by simp [hlt]
      rw [e]
      exact hb _ (List.getElem_mem hlt)
    have e15 : (15 : Int) = ((15#32).toNat : Int) := rfl
    have in16 : ∀ C : BitVec 32, decide ((0 : Int) ≤ ((C &&& 15#32).toNat : Int) ∧ ((C &&& 15#32).toNat : Int) < (16 : Int) ∧ List.length gl0 = 16) = true := fun C => by
      have := low15 C
      simp only [decide_eq_true_eq]
      exact ⟨by omega, by omega, rfl⟩
    have in16' : ∀ C : BitVec 32, decide (Int.toNat ((C &&& 15#32).toNat : Int) < List.length gl0) = true := fun C => by
      have := low15 C
      simp only [decide_eq_true_eq]
      rw [show gl0.length = 16 from rfl]
      omega
    refine ⟨_, ?_, ⟨k + 1, hlt, rfl⟩, ?_, rfl⟩
    · have hg : l.getD k (dflt (.int .u8)) = l.getD k 0 := rfl
      simp only [e1, e2, Int.toNat_natCast, e3, cond_true, hg, byteI hx.1 hx.2]
      rw [foldl_take hlt]
      generalize (l.take k).foldl byte8 4294967295#32 = C
      generalize hX : BitVec.ofNat 32 (l.getD k 0).toNat = X
      have hb8 : byte8 C (l.getD k 0) = nib (nib (C ^^^ X)) := by rw [nib_is, nib_is, ← hX]; rfl
      rw [hb8]
      simp only [e15, xorI, andI, in16, in16', cond_true, tabI, shrI4, hw, nib]
    · dsimp only
      omega
  · right
    have hkl : k = l.length := by omega
    subst hkl
    have e1 : decide ((l.length : Int) < (l.length : Int)) = false := by simp
    have eF : (4294967295 : Int) = ((4294967295#32).toNat : Int) := rfl
    simp only [e1, cond_false, List.take_length, eF, xorI, inrO, Option.map_some]
    rfl
end
section
variable {fu : Nat}
/-- From the i-th byte on, what was read so far being that: the number, how many bytes it has, the error. -/
def numS : Nat → Nat → List Int → Int × Int × Int
  | _, _, [] => (0, 0, 11)
  | i, acc, x :: r => if i = 9 ∧ x ≠ 1 then (0, 0, 12) else if x = 0 ∧ 0 < i then (0, 0, 12) else if x < 128 then (((acc + x.toNat % 128 * 128 ^ i : Nat) : Int), ((i + 1 : Nat) : Int), 0) else numS (i + 1) (acc + x.toNat % 128 * 128 ^ i) r
theorem p40_any {a : List Int} (hb : ∀ x ∈ a, 0 ≤ x ∧ x ≤ 255) (hn : a.length ≤ 140737488355328) (hfu : 10 < fu) : p40 fu (a, ()) = some ((), ((numS 0 0 a).1, (numS 0 0 a).2.1, (numS 0 0 a).2.2, ())) := by
  unfold p40
  dsimp only
  refine loopO_eq (fun (s : (Int × (Int × Unit)) × Unit) => ∃ (i acc : Nat) (pre r : List Int), i ≤ 9 ∧ s = (((acc : Int), (i : Int), ()), ()) ∧ a = pre ++ r ∧ pre.length = i ∧ acc < 128 ^ i ∧ numS i acc r = numS 0 0 a) (fun s => 10 - s.1.2.1.toNat) (fun _ => ((), ((numS 0 0 a).1, (numS 0 0 a).2.1, (numS 0 0 a).2.2, ()))) ?_ fu _ ⟨0, 0, [], a, by omega, rfl, rfl, rfl, by simp, rfl⟩ (by dsimp only; omega)
  rintro _ ⟨i, acc, pre, r, hi, rfl, ha, hp, hacc, hnum⟩
  have e1 : decide ((i : Int) < 10) = true := by simp; omega
  have wi : IntKind.wrap .i64 ((i : Int) + 1) = ((i + 1 : Nat) : Int) := by rw [wi64 (by omega) (by omega)]; omega
  cases r with
  | nil =>
    right
    have hl : a.length = i := by rw [ha, List.append_nil, hp]
    have e2 : ((i : Int) == (a.length : Int)) = true := by rw [hl]; exact beq_self_eq_true _
    rw [← hnum]
    simp only [e1, e2, cond_true, numS, inrO, Option.map_some]
  | cons x r =>
    have hlen : a.length = i + (r.length + 1) := by rw [ha, List.length_append, hp, List.length_cons]
    have hx := hb x (by rw [ha]; simp)
    obtain ⟨n, rfl⟩ := Int.eq_ofNat_of_zero_le hx.1
    have hxg : List.getD a i (dflt (.int .u8)) = (n : Int) := by
      rw [ha, List.getD_eq_getElem?_getD, List.getElem?_append_right (by omega), hp, Nat.sub_self]
      rfl
    have e2 : ((i : Int) == (a.length : Int)) = false := by rw [hlen]; simp; omega
    have e3 : decide ((0 : Int) ≤ (i : Int) ∧ (i : Int) < (a.length : Int)) = true := by rw [hlen]; simp; omega
    have e4 : decide (i < a.length) = true := by rw [hlen]; simp
    have e7 : decide ((0 : Int) ≤ IntKind.wrap .i64 ((7 : Int) * (i : Int))) = true := by rw [wi64 (by omega) (by omega)]; simp; omega
    by_cases h9 : i = 9 ∧ (n : Int) ≠ 1
    · right
      obtain ⟨h9, hn1⟩ := h9
      have hd : numS i acc ((n : Int) :: r) = (0, 0, 12) := by rw [numS, if_pos ⟨h9, hn1⟩]
      rw [← hnum, hd]
      have g1 : ((i : Int) == 9) = true := by rw [h9]; rfl
      have g2 : ((n : Int) != 1) = true := bne_iff_ne.2 hn1
      simp only [e1, e2, e3, e4, Int.toNat_natCast, hxg, cond_true, cond_false, g1, g2, inrO, Option.map_some, orK_inr]
    · by_cases h0 : (n : Int) = 0 ∧ 0 < i
      · right
        obtain ⟨hn0, hi0⟩ := h0
        have hi9 : i ≠ 9 := fun e => h9 ⟨e, by omega⟩
        have hd : numS i acc ((n : Int) :: r) = (0, 0, 12) := by rw [numS, if_neg h9, if_pos ⟨hn0, hi0⟩]
        rw [← hnum, hd]
        have g1 : ((i : Int) == 9) = false := by simp; omega
        have g2 : ((n : Int) == 0) = true := beq_iff_eq.2 hn0
        have g3 : decide ((i : Int) > 0) = true := by simp; omega
        simp only [e1, e2, e3, e4, Int.toNat_natCast, hxg, cond_true, cond_false, g1, g2, g3, inrO, Option.map_some, orK_inr]
      · have hpow : i = 9 → (128 : Nat) ^ i = 9223372036854775808 := fun e => by rw [e]
        have hpow8 : i ≤ 8 → (128 : Nat) ^ i ≤ 72057594037927936 := fun e => by
          have := Nat.pow_le_pow_right (n := 128) (by decide) e
          have e8 : (128 : Nat) ^ 8 = 72057594037927936 := by decide
          omega
        have hmul : n % 128 * 128 ^ i ≤ 127 * 128 ^ i := Nat.mul_le_mul_right _ (by omega)
        have hbound : acc + n % 128 * 128 ^ i < 18446744073709551616 := by
          by_cases e9 : i = 9
          · have hn1 : (n : Int) = 1 := Decidable.byContradiction fun k => h9 ⟨e9, k⟩
            have hn1' : n = 1 := by omega
            have := hpow e9
            rw [hn1'] at hmul ⊢
            rw [this] at hacc ⊢
            omega
          · have := hpow8 (by omega)
            generalize 128 ^ i = q at *
            omega
        have hac := accum acc (n % 128) i hi hacc hbound
        by_cases h128 : (n : Int) < 128
        · right
          have hd : numS i acc ((n : Int) :: r) = (((acc + n % 128 * 128 ^ i : Nat) : Int), ((i + 1 : Nat) : Int), 0) := by rw [numS, if_neg h9, if_neg h0, if_pos h128]; rfl
          rw [← hnum, hd]
          have e8 : decide ((n : Int) < 128) = true := decide_eq_true h128
          simp only [e1, e2, e3, e4, Int.toNat_natCast, hxg, cond_true, cond_false, e7, e8, low7 n (by omega), hac, wi]
          by_cases e9 : i = 9
          · have hn1 : (n : Int) = 1 := Decidable.byContradiction fun k => h9 ⟨e9, k⟩
            have hn1' : n = 1 := by omega
            subst e9 hn1'
            rfl
          · have g1 : ((i : Int) == 9) = false := by simp; omega
            rw [g1]
            by_cases hn0 : n = 0
            · have hi0 : i = 0 := Decidable.byContradiction fun k => h0 ⟨by omega, by omega⟩
              subst hi0 hn0
              rfl
            · have g2 : ((n : Int) == 0) = false := by simp; omega
              rw [g2]
              rfl
        · left
          have e9 : i ≠ 9 := fun e => h9 ⟨e, by omega⟩
          have hd : numS i acc ((n : Int) :: r) = numS (i + 1) (acc + n % 128 * 128 ^ i) r := by rw [numS, if_neg h9, if_neg h0, if_neg h128]; rfl
          have e8 : decide ((n : Int) < 128) = false := decide_eq_false h128
          have g1 : ((i : Int) == 9) = false := by simp; omega
          have g2 : ((n : Int) == 0) = false := by simp; omega
          refine ⟨((((acc + n % 128 * 128 ^ i : Nat) : Int), ((i + 1 : Nat) : Int), ()), ()), ?_, ⟨i + 1, acc + n % 128 * 128 ^ i, pre ++ [(n : Int)], r, by omega, rfl, ?_, ?_, ?_, ?_⟩, ?_, rfl⟩
          · simp only [e1, e2, e3, e4, Int.toNat_natCast, hxg, cond_true, cond_false, e7, e8, g1, g2, low7 n (by omega), hac, wi, orK_inl]
          · rw [ha]; simp
          · simp [hp]
          · rw [Nat.pow_succ]
            generalize 128 ^ i = q at *
            omega
          · rw [← hd]; exact hnum
          · dsimp only
            omega
end
section
variable {fu : Nat}
theorem or32 (n m : Nat) : ((BitVec.ofInt (IntKind.bits .u32) (n : Int) ||| BitVec.ofInt (IntKind.bits .u32) (m : Int)).toNat) = (BitVec.ofNat 32 n ||| BitVec.ofNat 32 m).toNat := by
  show (BitVec.ofInt 32 (n : Int) ||| BitVec.ofInt 32 (m : Int)).toNat = _
  rw [BitVec.ofInt_natCast, BitVec.ofInt_natCast]
theorem pow8 (i : Nat) (h : i ≤ 3) : (2 : Int) ^ (min (Int.toNat (IntKind.wrap .i64 ((8 : Int) * (i : Int)))) (IntKind.bits .u32)) = ((256 ^ i : Nat) : Int) := by
  have e : IntKind.wrap .i64 ((8 : Int) * (i : Int)) = ((8 * i : Nat) : Int) := by rw [wi64 (by omega) (by omega)]; omega
  rw [e, Int.toNat_natCast, Nat.min_eq_left (by show 8 * i ≤ 32; omega), show (256 : Nat) = 2 ^ 8 from rfl, ← Nat.pow_mul]
  simp
theorem accum32 (c y i : Nat) (hi : i ≤ 3) (hc : c < 256 ^ i) (hy : y < 256) :
    IntKind.wrap .u32 ((BitVec.ofInt (IntKind.bits .u32) (c : Int) ||| BitVec.ofInt (IntKind.bits .u32) (IntKind.wrap .u32 ((IntKind.wrap .u32 (y : Int)) * 2 ^ (min (Int.toNat (IntKind.wrap .i64 ((8 : Int) * (i : Int)))) (IntKind.bits .u32))))).toNat : Int) = ((c + y * 256 ^ i : Nat) : Int) := by
  have hle : 256 ^ i ≤ 16777216 := by
    have := Nat.pow_le_pow_right (n := 256) (by decide) hi
    have e : (256 : Nat) ^ 3 = 16777216 := by decide
    omega
  have hmul : y * 256 ^ i ≤ 255 * 256 ^ i := Nat.mul_le_mul_right _ (by omega)
  rw [pow8 i hi, wu32 (x := (y : Int)) (by omega) (by omega), ← Int.natCast_mul, wu32 (x := ((y * 256 ^ i : Nat) : Int)) (by omega) (by omega)]
  have e1 : (BitVec.ofInt (IntKind.bits .u32) (c : Int) ||| BitVec.ofInt (IntKind.bits .u32) ((y * 256 ^ i : Nat) : Int)).toNat = c + y * 256 ^ i := by
    rw [or32, BitVec.toNat_or, BitVec.toNat_ofNat, BitVec.toNat_ofNat, Nat.mod_eq_of_lt (by omega), Nat.mod_eq_of_lt (by omega)]
    have e : (256 : Nat) ^ i = 2 ^ (8 * i) := by rw [show (256 : Nat) = 2 ^ 8 from rfl, ← Nat.pow_mul]
    rw [e] at hc ⊢
    have := Nat.two_pow_add_eq_or_of_lt hc y
    rw [Nat.or_comm, Nat.mul_comm y, ← this, Nat.add_comm]
  rw [e1, wu32 (by omega) (by omega)]
/-- Bytes as a number, the lowest first. -/
def leS : List Int → Nat
  | [] => 0
  | x :: r => x.toNat + 256 * leS r
theorem leS_lt : ∀ {l : List Int}, (∀ x ∈ l, 0 ≤ x ∧ x ≤ 255) → leS l < 256 ^ l.length
  | [], _ => by simp [leS]
  | x :: r, h => by
    have h1 := leS_lt (l := r) fun y hy => h y (by simp [hy])
    have h2 := h x (by simp)
    simp only [leS, List.length_cons, Nat.pow_succ]
    omega
theorem leS_snoc : ∀ (l : List Int) (x : Int), leS (l ++ [x]) = leS l + x.toNat * 256 ^ l.length
  | [], x => by simp [leS]
  | y :: l, x => by
    simp only [List.cons_append, leS, leS_snoc l x, List.length_cons, Nat.pow_succ]
    rw [Nat.mul_add, Nat.mul_comm (256 ^ l.length) 256, Nat.mul_left_comm]
    omega
theorem p50_is {l : List Int} (hb : ∀ x ∈ l, 0 ≤ x ∧ x ≤ 255) (hl : l.length ≤ 4) (hfu : 10 < fu) : p50 fu (l, ()) = some ((), (leS l : Int)) := by
  unfold p50
  dsimp only
  refine loopO_eq (fun (s : (Int × (Int × Unit)) × Unit) => ∃ k : Nat, k ≤ l.length ∧ s = (((leS (l.take k) : Int), (k : Int), ()), ())) (fun s => l.length - s.1.2.1.toNat) (fun _ => ((), (leS l : Int))) ?_ fu _ ⟨0, Nat.zero_le _, rfl⟩ (by dsimp only; omega)
  rintro _ ⟨k, hk, rfl⟩
  by_cases hlt : k < l.length
  · left
    have e1 : decide ((k : Int) < (l.length : Int)) = true := by simpa using hlt
    have e2 : decide ((0 : Int) ≤ (k : Int) ∧ (k : Int) < (l.length : Int)) = true := by simp; omega
    have e3 : decide (k < l.length) = true := by simpa using hlt
    have e7 : decide ((0 : Int) ≤ IntKind.wrap .i64 ((8 : Int) * (k : Int))) = true := by rw [wi64 (by omega) (by omega)]; simp; omega
    have hw : IntKind.wrap .i64 ((k : Int) + 1) = ((k + 1 : Nat) : Int) := by rw [wi64 (by omega) (by omega)]; omega
    have hg : l.getD k (dflt (.int .u8)) = l[k] := by
      rw [List.getD_eq_getElem?_getD, List.getElem?_eq_getElem hlt]
      rfl
    have hx := hb _ (List.getElem_mem hlt)
    have htl : (l.take k).length = k := by rw [List.length_take]; omega
    have hc := leS_lt (l := l.take k) fun x hx => hb x (List.mem_of_mem_take hx)
    rw [htl] at hc
    have hsn : leS (l.take (k + 1)) = leS (l.take k) + l[k].toNat * 256 ^ k := by
      rw [List.take_succ_eq_append_getElem hlt, leS_snoc, htl]
    have hacc := accum32 (leS (l.take k)) l[k].toNat k (by omega) hc (by omega)
    rw [Int.toNat_of_nonneg hx.1] at hacc
    refine ⟨_, ?_, ⟨k + 1, hlt, rfl⟩, ?_, rfl⟩
    · simp only [e1, e2, e3, e7, Int.toNat_natCast, cond_true, hg, hacc, hw, hsn]
    · dsimp only
      omega
  · right
    have hkl : k = l.length := by omega
    subst hkl
    have e1 : decide ((l.length : Int) < (l.length : Int)) = false := by simp
    simp only [e1, cond_false, List.take_length, inrO, Option.map_some]
/-- The four bytes of a sum. -/
def sum4 (s : Int) : List Int := [IntKind.wrap .u8 s, IntKind.wrap .u8 (Int.fdiv s (2 ^ (min (Int.toNat (8 : Int)) (IntKind.bits .u32)))), IntKind.wrap .u8 (Int.fdiv s (2 ^ (min (Int.toNat (16 : Int)) (IntKind.bits .u32)))), IntKind.wrap .u8 (Int.fdiv s (2 ^ (min (Int.toNat (24 : Int)) (IntKind.bits .u32))))]
def sumI (l : List Int) : Int := ((4294967295#32 ^^^ sumB l).toNat : Int)
def frameB (l : List Int) : List Int := tB l ++ sum4 (sumI l)
end
section
variable {fu : Nat}
abbrev ER := Bool × ((Int × (Int × Unit)) × Unit)
abbrev noR : ER := (false, dflt (.pair (.int .i64) (.pair (.int .i64) .unit)), ())
abbrev erR (e c : Int) : ER := (true, (e, c, ()), dflt .unit)
theorem numS_facts : ∀ (r : List Int) (i acc : Nat), (∃ v k : Nat, numS i acc r = ((v : Int), (k : Int), 0) ∧ i < k ∧ k ≤ i + r.length) ∨ (∃ e : Int, e ≠ 0 ∧ numS i acc r = (0, 0, e))
  | [], _, _ => .inr ⟨11, by decide, rfl⟩
  | x :: r, i, acc => by
    rw [numS]
    split
    · exact .inr ⟨12, by decide, rfl⟩
    · split
      · exact .inr ⟨12, by decide, rfl⟩
      · split
        · exact .inl ⟨_, _, rfl, by omega, by simp only [List.length_cons]; omega⟩
        · rcases numS_facts r (i + 1) (acc + x.toNat % 128 * 128 ^ i) with ⟨v, k, h1, h2, h3⟩ | h
          · exact .inl ⟨v, k, h1, by omega, by simp only [List.length_cons]; omega⟩
          · exact .inr h
theorem p41_ok {a : List Int} {c : Int} : p41 fu ((a, c, (), ()), 0, ()) = some (((a, c, noR, ()), ()), ()) := by
  unfold p41 p43
  simp only [bne_self_eq_false, cond_false, Option.bind_some]
theorem p41_er {a : List Int} {c e : Int} (he : e ≠ 0) : p41 fu ((a, c, (), ()), e, ()) = some (((a, c, erR e c, ()), ()), ()) := by
  have g : (e != 0) = true := bne_iff_ne.2 he
  unfold p41 p43
  simp only [g, cond_true, Option.bind_some]
theorem p41_2_ok {a : List Int} {c e : Int} (he : e ≠ 0) : p41_2 fu ((a, c, noR, ()), e, ()) = some (((a, c, erR e c, ()), ()), ()) := by
  have g : (e != 0) = true := bne_iff_ne.2 he
  unfold p41_2 p43_2
  simp only [g, cond_true, cond_false, Option.bind_some]
theorem p15_ok {a : List Int} {v k : Nat} (hb : ∀ x ∈ a, 0 ≤ x ∧ x ≤ 255) (hn : a.length ≤ 140737488355328) (h : numS 0 0 a = ((v : Int), (k : Int), 0)) (hk : k ≤ a.length) (hfu : 10 < fu) : p15 fu ((a, 0, (), ()), ()) = some (((a, (k : Int), noR, ()), ()), (v : Int)) := by
  have e1 : decide ((0 : Int) ≤ 0) = true := by decide
  have e2 : decide (Int.toNat 0 ≤ a.length) = true := by simp
  have hw : IntKind.wrap .i64 (0 + (k : Int)) = (k : Int) := by rw [wi64 (by omega) (by omega)]; omega
  unfold p15
  simp only [e1, e2, cond_true]
  rw [show slice' a (Int.toNat 0) none = a from rfl, p40_any hb hn hfu]
  simp only [Option.bind_some, h]
  rw [p41_ok]
  simp only [Option.bind_some, cond_false, hw]
theorem p15_er {a : List Int} {e : Int} (hb : ∀ x ∈ a, 0 ≤ x ∧ x ≤ 255) (hn : a.length ≤ 140737488355328) (h : numS 0 0 a = (0, 0, e)) (he : e ≠ 0) (hfu : 10 < fu) : p15 fu ((a, 0, (), ()), ()) = some (((a, 0, erR e 0, ()), ()), 0) := by
  have e1 : decide ((0 : Int) ≤ 0) = true := by decide
  have e2 : decide (Int.toNat 0 ≤ a.length) = true := by simp
  have hw : IntKind.wrap .i64 (0 + 0) = 0 := by decide
  unfold p15
  simp only [e1, e2, cond_true]
  rw [show slice' a (Int.toNat 0) none = a from rfl, p40_any hb hn hfu]
  simp only [Option.bind_some, h]
  rw [p41_er he]
  simp only [Option.bind_some, cond_true, hw]
theorem p45_er {a : List Int} {c e q j : Int} : p45_2 fu ((a, c, erR e q, ()), j, ()) = some (((a, c, erR e q, ()), ()), []) := by
  unfold p45_2
  simp only [cond_true]
theorem p45_short {a : List Int} {c j : Nat} (hc : c ≤ a.length) (hn : a.length ≤ 140737488355328) (h : a.length < c + j) : p45_2 fu ((a, (c : Int), noR, ()), (j : Int), ()) = some (((a, (c : Int), erR 11 (c : Int), ()), ()), []) := by
  have e1 : decide ((j : Int) > IntKind.wrap .i64 ((a.length : Int) - (c : Int))) = true := by rw [wi64 (by omega) (by omega)]; simp; omega
  unfold p45_2
  simp only [cond_false, e1, cond_true]
  rw [p41_er (by decide)]
  simp only [Option.bind_some, cond_true]
theorem sl_eq (l : List Int) (i j : Nat) : slice' l i (some j) = (l.drop i).take (j - i) := by
  cases i <;> simp [slice']
theorem p45_ok {a : List Int} {c j : Nat} (hn : a.length ≤ 140737488355328) (h : c + j ≤ a.length) : p45_2 fu ((a, (c : Int), noR, ()), (j : Int), ()) = some (((a, ((c + j : Nat) : Int), noR, ()), ()), (a.drop c).take j) := by
  have e1 : decide ((j : Int) > IntKind.wrap .i64 ((a.length : Int) - (c : Int))) = false := by rw [wi64 (by omega) (by omega)]; simp; omega
  have w1 : IntKind.wrap .i64 ((c : Int) + (j : Int)) = ((c + j : Nat) : Int) := by rw [wi64 (by omega) (by omega)]; omega
  have w2 : IntKind.wrap .i64 (((c + j : Nat) : Int) - (j : Int)) = (c : Int) := by rw [wi64 (by omega) (by omega)]; omega
  have e2 : decide ((0 : Int) ≤ (c : Int)) = true := by simp
  have e3 : decide ((0 : Int) ≤ ((c + j : Nat) : Int)) = true := by simp; omega
  have e4 : decide (c ≤ c + j ∧ c + j ≤ a.length) = true := by simp; omega
  have es : slice' a c (some (c + j)) = (a.drop c).take j := by rw [sl_eq, Nat.add_sub_cancel_left]
  have hl : ((a.drop c).take j).length ≤ 140737488355328 := by rw [List.length_take, List.length_drop]; omega
  have e5 : (((a.drop c).take j).length ≤ maxLen ∧ ((a.drop c).take j).length * 1 ≤ 140737488355328) = True := eq_true ⟨Nat.le_trans hl (by decide), by omega⟩
  unfold p45_2
  simp only [cond_false, e1, w1, w2, e2, e3, Int.toNat_natCast, e4, es, e5, decide_true, cond_true]
theorem p16_ok {a : List Int} {c : Int} : p16_2 fu ((a, c, noR, ()), ()) = some (((a, c, noR, ()), ()), (0, 0, ())) := by
  unfold p16_2 pAs
  simp only [cond_false, cond_true, Option.bind_some, Bool.not_true]
theorem p16_er {a : List Int} {c e q : Int} : p16_2 fu ((a, c, erR e q, ()), ()) = some (((a, c, erR e q, ()), ()), (e, q, ())) := by
  unfold p16_2 pAs
  simp only [cond_true, cond_false, Option.bind_some, Bool.not_false]
/-- What stands in a frame, and behind it. -/
def unS (a : List Int) : List Int × List Int × Int :=
  if (numS 0 0 a).2.2 ≠ 0 then ([], [], (numS 0 0 a).2.2)
  else if (numS 0 0 a).1 > 262144 then ([], [], 13)
  else if (a.drop (numS 0 0 a).2.1.toNat).length < (numS 0 0 a).1.toNat + 4 then ([], [], 11)
  else if (leS (((a.drop (numS 0 0 a).2.1.toNat).drop (numS 0 0 a).1.toNat).take 4) : Int) ≠ sumI ((a.drop (numS 0 0 a).2.1.toNat).take (numS 0 0 a).1.toNat) then ([], [], 14)
  else ((a.drop (numS 0 0 a).2.1.toNat).take (numS 0 0 a).1.toNat, (a.drop (numS 0 0 a).2.1.toNat).drop ((numS 0 0 a).1.toNat + 4), 0)
end
section
variable {fu : Nat}
theorem sl_none (l : List Int) (n : Nat) : slice' l n none = l.drop n := by
  cases n <;> simp [slice']
theorem p21_is {a : List Int} (hb : ∀ x ∈ a, 0 ≤ x ∧ x ≤ 255) (hn : a.length ≤ 140737488355328) (hfu : 10 < fu) (hf2 : a.length < fu) : p21 fu (a, ()) = some ((), ((unS a).1, (unS a).2.1, (unS a).2.2, ())) := by
  unfold p21
  dsimp only
  rcases numS_facts a 0 0 with ⟨v, k, hnum, hk0, hk⟩ | ⟨e, he, hnum⟩
  · rw [p15_ok hb hn hnum (by omega) hfu]
    simp only [Option.bind_some, cond_false]
    have u1 : ¬ ((numS 0 0 a).2.2 ≠ 0) := by rw [hnum]; simp
    by_cases hv : (v : Int) > 262144
    · have g : decide ((v : Int) > 262144) = true := decide_eq_true hv
      have hu : unS a = ([], [], 13) := by
        unfold unS
        rw [if_neg u1, if_pos (by rw [hnum]; exact hv)]
      rw [hu]
      simp only [g, cond_true]
      rw [p41_2_ok (by decide)]
      simp only [Option.bind_some, cond_true, orK_inl]
      rw [p45_er]
      simp only [Option.bind_some, cond_true, decide_true, orK_inl]
      rw [p45_er]
      simp only [Option.bind_some, cond_true, decide_true, orK_inl]
      rw [p16_er]
      rfl
    · have g : decide ((v : Int) > 262144) = false := decide_eq_false hv
      have hwv : IntKind.wrap .i64 (v : Int) = (v : Int) := wi64 (by omega) (by omega)
      have u2 : ¬ ((numS 0 0 a).1 > 262144) := by rw [hnum]; exact hv
      simp only [g, cond_false, orK_inl, hwv]
      by_cases h1 : a.length < k + v
      · have hu : unS a = ([], [], 11) := by
          unfold unS
          rw [if_neg u1, if_neg u2, if_pos (by rw [hnum]; simp only [Int.toNat_natCast, List.length_drop]; omega)]
        rw [hu, p45_short (by omega) hn h1]
        simp only [Option.bind_some, cond_true, decide_true, orK_inl]
        rw [p45_er]
        simp only [Option.bind_some, cond_true, decide_true, orK_inl]
        rw [p16_er]
        rfl
      · rw [p45_ok hn (by omega)]
        simp only [Option.bind_some, cond_false, decide_true, cond_true, orK_inl]
        rw [show (4 : Int) = ((4 : Nat) : Int) from rfl]
        by_cases h2 : a.length < k + v + 4
        · have hu : unS a = ([], [], 11) := by
            unfold unS
            rw [if_neg u1, if_neg u2, if_pos (by rw [hnum]; simp only [Int.toNat_natCast, List.length_drop]; omega)]
          rw [hu, p45_short (by omega) hn h2]
          simp only [Option.bind_some, cond_true, decide_true, orK_inl]
          rw [p16_er]
          rfl
        · have u3 : ¬ ((a.drop (numS 0 0 a).2.1.toNat).length < (numS 0 0 a).1.toNat + 4) := by rw [hnum]; simp only [Int.toNat_natCast, List.length_drop]; omega
          rw [p45_ok hn (by omega)]
          simp only [Option.bind_some, cond_false, decide_true, cond_true]
          have hbs : ∀ x ∈ (a.drop (k + v)).take 4, 0 ≤ x ∧ x ≤ 255 := fun x hx => hb x (List.mem_of_mem_drop (List.mem_of_mem_take hx))
          have hbi : ∀ x ∈ (a.drop k).take v, 0 ≤ x ∧ x ≤ 255 := fun x hx => hb x (List.mem_of_mem_drop (List.mem_of_mem_take hx))
          rw [p50_is hbs (by rw [List.length_take]; omega) hfu]
          simp only [Option.bind_some]
          rw [p24_is hbi (by rw [List.length_take, List.length_drop]; omega) (by rw [List.length_take, List.length_drop]; omega)]
          simp only [Option.bind_some]
          rw [show ((4294967295#32 ^^^ sumB ((a.drop k).take v)).toNat : Int) = sumI ((a.drop k).take v) from rfl]
          by_cases h3 : (leS ((a.drop (k + v)).take 4) : Int) = sumI ((a.drop k).take v)
          · have g3 : ((leS ((a.drop (k + v)).take 4) : Int) != sumI ((a.drop k).take v)) = false := by simp [h3]
            have hu : unS a = ((a.drop k).take v, a.drop (k + v + 4), 0) := by
              unfold unS
              rw [if_neg u1, if_neg u2, if_neg u3]
              simp only [hnum, Int.toNat_natCast, List.drop_drop]
              rw [if_neg (by simpa using h3)]
              rfl
            have f1 : decide ((0 : Int) ≤ ((k + v + 4 : Nat) : Int)) = true := by simp; omega
            have f2 : decide (k + v + 4 ≤ a.length) = true := by simp; omega
            have f3 : ((a.drop (k + v + 4)).length ≤ maxLen ∧ (a.drop (k + v + 4)).length * 1 ≤ 140737488355328) = True := by
              have : (a.drop (k + v + 4)).length ≤ 140737488355328 := by rw [List.length_drop]; omega
              exact eq_true ⟨Nat.le_trans this (by decide), by omega⟩
            rw [hu]
            simp only [g3, cond_false, orK_inl]
            rw [p16_ok]
            simp only [Option.bind_some, cond_false, bne_self_eq_false, f1, Int.toNat_natCast, f2, sl_none, f3, decide_true, cond_true]
          · have g3 : ((leS ((a.drop (k + v)).take 4) : Int) != sumI ((a.drop k).take v)) = true := bne_iff_ne.2 h3
            have hu : unS a = ([], [], 14) := by
              unfold unS
              rw [if_neg u1, if_neg u2, if_neg u3]
              simp only [hnum, Int.toNat_natCast, List.drop_drop]
              rw [if_pos (by simpa using h3)]
            rw [hu]
            simp only [g3, cond_true]
            rw [p41_er (by decide)]
            simp only [Option.bind_some, cond_true, orK_inl]
            rw [p16_er]
            rfl
  · rw [p15_er hb hn hnum he hfu]
    have g : decide ((0 : Int) > 262144) = false := by decide
    have hu : unS a = ([], [], e) := by
      unfold unS
      rw [if_pos (by rw [hnum]; exact he), hnum]
    rw [hu]
    simp only [Option.bind_some, cond_true, g, cond_false, orK_inl]
    rw [p45_er]
    simp only [Option.bind_some, cond_true, decide_true, orK_inl]
    rw [p45_er]
    simp only [Option.bind_some, cond_true, decide_true, orK_inl]
    rw [p16_er]
    have ge : (e != 0) = true := bne_iff_ne.2 he
    simp only [Option.bind_some, cond_true, ge]
end
section
variable {fu : Nat}
theorem fits_top {n : Nat} (h : n ≤ 140737488355328) : n ≤ maxLen := Nat.le_trans h (by decide)
theorem p34uF_is {v : Int} (hv : isU v) (hfu : 10 < fu) : p34 fu (((), ()), v, ()) = some (((uB v, ()), ()), ()) := by
  have h10 := uB_len hv
  unfold p34
  dsimp only
  refine loopO_eq (fun (s : (Int × Unit) × ((List Int × Unit) × Unit)) => isU s.1.1 ∧ s.2.1.1.length + (uB s.1.1).length ≤ 10) (fun s => (uB s.1.1).length) (fun s => (((s.2.1.1 ++ uB s.1.1, ()), ()), ())) ?_ fu ((v, ()), (([], ()), ())) ⟨hv, by simpa using h10⟩ (Nat.lt_of_le_of_lt h10 hfu)
  rintro ⟨⟨f, ⟨⟩⟩, ⟨⟨h, ⟨⟩⟩, ⟨⟩⟩⟩ ⟨⟨h0, h1⟩, h2⟩
  dsimp only at h0 h1 h2
  obtain ⟨n, rfl⟩ := Int.eq_ofNat_of_zero_le h0
  have e : uB ((n : Nat) : Int) = ub n := rfl
  simp only [e] at h2 ⊢
  by_cases hn : n < 128
  · right
    rw [ub_small hn] at h2 ⊢
    simp only [List.length_singleton] at h2
    have hw : IntKind.wrap .u8 (n : Int) = (n : Int) := wu8 (by omega) (by omega)
    have hge : ¬ ((n : Int) ≥ 128) := by omega
    have hl : (h.length + 1 ≤ maxLen ∧ (h.length + 1) * 1 ≤ 140737488355328) = True := eq_true ⟨fits_top (by omega), by omega⟩
    simp only [hge, hw, hl, List.length_singleton, decide_false, decide_true, cond_false, cond_true, inrO, Option.map_some]
  · left
    rw [ub_big hn] at h2 ⊢
    simp only [List.length_cons] at h2
    have hl : (h.length + 1 ≤ maxLen ∧ (h.length + 1) * 1 ≤ 140737488355328) = True := eq_true ⟨fits_top (by omega), by omega⟩
    refine ⟨((((n / 128 : Nat) : Int), ()), ((h ++ [((n % 128 + 128 : Nat) : Int)], ()), ())), ?_, ⟨⟨by dsimp only; omega, by dsimp only; omega⟩, ?_⟩, ?_, ?_⟩
    · have hge : (n : Int) ≥ 128 := by omega
      simp only [lowP, fdiv7, List.length_singleton, hl, hge, decide_true, cond_true]
    · show (h ++ [((n % 128 + 128 : Nat) : Int)]).length + (ub (n / 128)).length ≤ _
      simp only [List.length_append, List.length_singleton]
      omega
    · show (ub (n / 128)).length < _
      simp
    · show (((((h ++ [((n % 128 + 128 : Nat) : Int)]) ++ ub (n / 128), ()), ()), ())) = _
      simp
theorem fitF {n : Nat} (h : n ≤ 140737488355328) : (n ≤ maxLen ∧ n * 1 ≤ 140737488355328) = True := eq_true ⟨fits_top h, by omega⟩
theorem p12_is {l : List Int} (hb : ∀ x ∈ l, 0 ≤ x ∧ x ≤ 255) (hn : l.length ≤ 1048576) (hfu : 10 < fu) (hf2 : l.length < fu) : p12 fu (l, ()) = some ((), frameB l) := by
  have hu : isU (l.length : Int) := ⟨by omega, by omega⟩
  have h10 := uB_len hu
  have hw : IntKind.wrap .u64 (l.length : Int) = (l.length : Int) := wu64 (by omega) (by omega)
  have ht : (tB l).length ≤ 1048586 := by unfold tB; rw [List.length_append]; omega
  have h36 : p36 fu (((), ()), l, ()) = some (((tB l, ()), ()), ()) := by
    unfold p36
    dsimp only
    rw [hw, p34uF_is hu hfu]
    have h2 : (uB (l.length : Int)).length + l.length ≤ 140737488355328 := by omega
    simp only [Option.bind_some, decide_true, cond_true, fitF h2, tB]
  unfold p12
  dsimp only
  rw [h36]
  simp only [Option.bind_some]
  rw [p24_is hb (by omega) hf2]
  simp only [Option.bind_some, decide_true, cond_true]
  have h27 : p27 fu ((tB l, ()), ()) = some ((), tB l) := by
    unfold p27
    simp only [fitF (n := (tB l).length) (by omega), decide_true, cond_true]
  rw [h27]
  have h3 : (tB l).length + 4 ≤ 140737488355328 := by omega
  simp only [Option.bind_some, decide_true, cond_true, List.length_cons, List.length_nil, Nat.zero_add, fitF h3]
  rfl
theorem p11F_is (hfu : 30 < fu) : p11 fu () = some ((), true) := by
  obtain ⟨m, rfl⟩ : ∃ m, fu = m + 30 := ⟨fu - 30, by omega⟩
  kernel_rfl
end
section
theorem bit1_zero {x : BitVec 32} (h : bit1 x = 0#32) : x = 0#32 := by
  have hlt := x.isLt
  unfold bit1 at h
  split at h
  · have e : x >>> 1 = 2197175160#32 := by
      have h2 := congrArg (· ^^^ 2197175160#32) h
      simpa [BitVec.xor_assoc] using h2
    have e2 := congrArg BitVec.toNat e
    rw [BitVec.toNat_ushiftRight, Nat.shiftRight_eq_div_pow] at e2
    have e3 : (2197175160#32).toNat = 2197175160 := rfl
    omega
  · have e2 := congrArg BitVec.toNat h
    rw [BitVec.toNat_ushiftRight, Nat.shiftRight_eq_div_pow] at e2
    have e3 : (0#32).toNat = 0 := rfl
    apply BitVec.eq_of_toNat_eq
    omega
theorem bit1_inj {a b : BitVec 32} (h : bit1 a = bit1 b) : a = b := by
  have h1 : bit1 (a ^^^ b) = 0#32 := by rw [bit1_xor, h, BitVec.xor_self]
  have h2 := bit1_zero h1
  have h3 := congrArg (· ^^^ b) h2
  simpa [BitVec.xor_assoc] using h3
theorem bit4_inj {a b : BitVec 32} (h : bit4 a = bit4 b) : a = b := bit1_inj (bit1_inj (bit1_inj (bit1_inj h)))
theorem byte8_inj {a b : BitVec 32} {n : Int} (h : byte8 a n = byte8 b n) : a = b := by
  have h1 := bit4_inj (bit4_inj h)
  have h3 := congrArg (· ^^^ BitVec.ofNat 32 n.toNat) h1
  simpa [BitVec.xor_assoc] using h3
theorem byte8_byte {a : BitVec 32} {n m : Int} (hn : 0 ≤ n ∧ n ≤ 255) (hm : 0 ≤ m ∧ m ≤ 255) (h : byte8 a n = byte8 a m) : n = m := by
  have h1 := bit4_inj (bit4_inj h)
  have h3 := congrArg (a ^^^ ·) h1
  simp only [← BitVec.xor_assoc, BitVec.xor_self, BitVec.zero_xor] at h3
  have h4 := congrArg BitVec.toNat h3
  rw [BitVec.toNat_ofNat, BitVec.toNat_ofNat] at h4
  omega
theorem fold_inj : ∀ {l : List Int} {a b : BitVec 32}, l.foldl byte8 a = l.foldl byte8 b → a = b
  | [], _, _, h => h
  | _ :: l, _, _, h => byte8_inj (fold_inj (l := l) h)
/-- One byte is another one: so is the sum. -/
theorem sumB_change {p q : List Int} {x y : Int} (hx : 0 ≤ x ∧ x ≤ 255) (hy : 0 ≤ y ∧ y ≤ 255) (h : sumB (p ++ x :: q) = sumB (p ++ y :: q)) : x = y := by
  unfold sumB at h
  rw [List.foldl_append, List.foldl_append, List.foldl_cons, List.foldl_cons] at h
  exact byte8_byte hx hy (fold_inj h)
theorem sumI_inj {a b : List Int} (h : sumI a = sumI b) : sumB a = sumB b := by
  unfold sumI at h
  have h1 : (4294967295#32 ^^^ sumB a) = (4294967295#32 ^^^ sumB b) := BitVec.eq_of_toNat_eq (by omega)
  have h3 := congrArg (4294967295#32 ^^^ ·) h1
  simpa only [← BitVec.xor_assoc, BitVec.xor_self, BitVec.zero_xor] using h3
theorem leS_inj : ∀ {a b : List Int}, (∀ x ∈ a, 0 ≤ x ∧ x ≤ 255) → (∀ x ∈ b, 0 ≤ x ∧ x ≤ 255) → a.length = b.length → leS a = leS b → a = b
  | [], [], _, _, _, _ => rfl
  | [], _ :: _, _, _, h, _ => by simp at h
  | _ :: _, [], _, _, h, _ => by simp at h
  | x :: a, y :: b, ha, hb, hl, h => by
    simp only [leS] at h
    have h1 := ha x (by simp)
    have h2 := hb y (by simp)
    have e : x = y := by omega
    have hr : a = b := leS_inj (fun z hz => ha z (by simp [hz])) (fun z hz => hb z (by simp [hz])) (by simpa using hl) (by omega)
    rw [e, hr]
theorem leS_sum4 {s : Nat} (h : s < 4294967296) : (leS (sum4 (s : Int)) : Int) = (s : Int) ∧ (∀ x ∈ sum4 (s : Int), 0 ≤ x ∧ x ≤ 255) ∧ (sum4 (s : Int)).length = 4 := by
  have e8 : (2 : Int) ^ (min (Int.toNat (8 : Int)) (IntKind.bits .u32)) = 256 := rfl
  have e16 : (2 : Int) ^ (min (Int.toNat (16 : Int)) (IntKind.bits .u32)) = 65536 := rfl
  have e24 : (2 : Int) ^ (min (Int.toNat (24 : Int)) (IntKind.bits .u32)) = 16777216 := rfl
  have w : ∀ n : Int, IntKind.wrap .u8 n = n % 256 := fun n => rfl
  have hs : sum4 (s : Int) = [(s : Int) % 256, (s : Int) / 256 % 256, (s : Int) / 65536 % 256, (s : Int) / 16777216 % 256] := by
    unfold sum4
    rw [e8, e16, e24, Int.fdiv_eq_ediv_of_nonneg _ (by decide), Int.fdiv_eq_ediv_of_nonneg _ (by decide), Int.fdiv_eq_ediv_of_nonneg _ (by decide), w, w, w, w]
  rw [hs]
  refine ⟨?_, fun x hx => ?_, rfl⟩
  · simp only [leS]
    omega
  · simp only [List.mem_cons, List.not_mem_nil, or_false] at hx
    rcases hx with rfl | rfl | rfl | rfl <;> omega
end
section
theorem numS_canon : ∀ (r : List Int) (i acc : Nat) (v k : Int), (∀ x ∈ r, 0 ≤ x ∧ x ≤ 255) → numS i acc r = (v, k, 0) →
    ∃ w m : Nat, v = ((acc + w * 128 ^ i : Nat) : Int) ∧ k = ((i + m : Nat) : Int) ∧ r.take m = ub w ∧ (0 < i → 1 ≤ w)
  | [], i, acc, v, k, _, h => by
    simp [numS] at h
  | x :: r, i, acc, v, k, hb, h => by
    have hx := hb x (by simp)
    obtain ⟨n, rfl⟩ := Int.eq_ofNat_of_zero_le hx.1
    rw [numS] at h
    split at h
    · simp at h
    · split at h
      · simp at h
      · rename_i h0
        split at h
        · rename_i h128
          simp only [Prod.mk.injEq, Int.toNat_natCast, and_true] at h
          refine ⟨n, 1, ?_, ?_, ?_, fun hi => ?_⟩
          · rw [← h.1, Nat.mod_eq_of_lt (by omega)]
          · rw [← h.2]
          · rw [ub_small (by omega)]
            rfl
          · by_cases hn : n = 0
            · exact absurd ⟨by omega, hi⟩ h0
            · omega
        · rename_i h128
          obtain ⟨w, m, e1, e2, e3, e4⟩ := numS_canon r (i + 1) _ v k (fun y hy => hb y (by simp [hy])) h
          have hw := e4 (Nat.succ_pos i)
          refine ⟨n % 128 + 128 * w, m + 1, ?_, ?_, ?_, fun _ => by omega⟩
          · rw [e1]
            congr 1
            rw [Int.toNat_natCast, Nat.pow_succ, Nat.add_mul, Nat.add_assoc]
            congr 2
            rw [Nat.mul_comm (128 ^ i) 128, ← Nat.mul_assoc, Nat.mul_comm w 128]
          · rw [e2]
            omega
          · rw [List.take_succ_cons, e3, ub_big (v := n % 128 + 128 * w) (by omega), show (n % 128 + 128 * w) % 128 + 128 = n by omega, show (n % 128 + 128 * w) / 128 = w by omega]
end
section
theorem ubB : ∀ (k v : Nat), v < k → ∀ x ∈ ub v, 0 ≤ x ∧ x ≤ 255
  | 0, _, h => absurd h (Nat.not_lt_zero _)
  | k + 1, v, h => by
    by_cases hv : v < 128
    · rw [ub_small hv]
      intro x hx
      obtain rfl := List.mem_singleton.1 hx
      exact ⟨by omega, by omega⟩
    · rw [ub_big hv]
      intro x hx
      rcases List.mem_cons.1 hx with rfl | hx
      · exact ⟨by omega, by omega⟩
      · exact ubB k (v / 128) (by omega) x hx
theorem sumI_lt (l : List Int) : ∃ s : Nat, s < 4294967296 ∧ sumI l = (s : Int) := ⟨_, (4294967295#32 ^^^ sumB l).isLt, rfl⟩
theorem frame_bytes {a : List Int} (ha : ∀ x ∈ a, 0 ≤ x ∧ x ≤ 255) : ∀ x ∈ frameB a, 0 ≤ x ∧ x ≤ 255 := by
  obtain ⟨s, hs, e⟩ := sumI_lt a
  obtain ⟨_, h2, _⟩ := leS_sum4 hs
  intro x hx
  unfold frameB tB at hx
  rw [e] at hx
  rcases List.mem_append.1 hx with hx | hx
  · rcases List.mem_append.1 hx with hx | hx
    · exact ubB _ _ (Nat.lt_succ_self _) x hx
    · exact ha x hx
  · exact h2 x hx
theorem set_split {l : List Int} {i : Nat} (h : i < l.length) (y : Int) : l = l.take i ++ l[i] :: l.drop (i + 1) ∧ l.set i y = l.take i ++ y :: l.drop (i + 1) := by
  refine ⟨?_, ?_⟩
  · rw [← List.drop_eq_getElem_cons h, List.take_append_drop]
  · rw [List.set_eq_take_append_cons_drop, if_pos h]
theorem bit_is {a : List Int} (ha : ∀ x ∈ a, 0 ≤ x ∧ x ≤ 255) {i : Nat} {y : Int} (hi : i < (frameB a).length) (hy : 0 ≤ y ∧ y ≤ 255) (hne : y ≠ (frameB a)[i]) :
    (unS ((frameB a).set i y)).2.2 ≠ 0 ∨ (unS ((frameB a).set i y)).1.length ≠ a.length ∨ 0 < (unS ((frameB a).set i y)).2.1.length := by
  obtain ⟨s, hs, es⟩ := sumI_lt a
  obtain ⟨hle, hsb, hsl⟩ := leS_sum4 hs
  have hfb := frame_bytes ha
  have hf : frameB a = ub a.length ++ (a ++ sum4 (s : Int)) := by
    unfold frameB tB uB
    rw [es, Int.toNat_natCast, List.append_assoc]
  have hlen : (frameB a).length = (ub a.length).length + (a.length + 4) := by rw [hf, List.length_append, List.length_append, hsl]
  have hgb : ∀ x ∈ (frameB a).set i y, 0 ≤ x ∧ x ≤ 255 := fun x hx => by
    rcases List.mem_or_eq_of_mem_set hx with h | rfl
    · exact hfb x h
    · exact hy
  apply Classical.byContradiction
  intro hcon
  have c1 : (unS ((frameB a).set i y)).2.2 = 0 := Classical.byContradiction fun k => hcon (.inl k)
  have c2 : (unS ((frameB a).set i y)).1.length = a.length := Classical.byContradiction fun k => hcon (.inr (.inl k))
  have c3 : (unS ((frameB a).set i y)).2.1.length = 0 := Classical.byContradiction fun k => hcon (.inr (.inr (by omega)))
  generalize hg : (frameB a).set i y = g at *
  have hgl : g.length = (frameB a).length := by rw [← hg, List.length_set]
  rcases numS_facts g 0 0 with ⟨v, k, hnum, hk0, hk⟩ | ⟨e, he, hnum⟩
  · unfold unS at c1 c2 c3
    rw [hnum] at c1 c2 c3
    simp only [ne_eq, not_true_eq_false, if_false, Int.toNat_natCast] at c1 c2 c3
    split at c1
    · simp at c1
    · rename_i h1
      rw [if_neg h1] at c2 c3
      split at c1
      · simp at c1
      · rename_i h2
        rw [if_neg h2] at c2 c3
        split at c1
        · simp at c1
        · rename_i h3
          rw [if_neg h3] at c2 c3
          simp only [List.length_take, List.length_drop] at c2 c3 h2
          have hv : v = a.length := by omega
          have hkk : k = (ub a.length).length := by omega
          subst hv
          obtain ⟨w, m, e1, e2, e3, _⟩ := numS_canon g 0 0 _ _ hgb hnum
          have hw : w = a.length := by simp at e1; omega
          have hm : m = k := by omega
          rw [hw, hm] at e3
          have htk : (frameB a).take k = ub a.length := by rw [hf, hkk, List.take_left]
          have hik : k ≤ i := by
            apply Classical.byContradiction
            intro hlt
            have h5 : (g.take k)[i]? = ((frameB a).take k)[i]? := by rw [e3, htk]
            rw [List.getElem?_take_of_lt (by omega), List.getElem?_take_of_lt (by omega), ← hg, List.getElem?_set_self hi, List.getElem?_eq_getElem hi] at h5
            exact hne (Option.some.inj h5)
          have hdr : g.drop k = (a ++ sum4 (s : Int)).set (i - k) y := by
            rw [← hg, hf, List.set_append_right _ _ (by omega), ← hkk, hkk, List.drop_left]
          have hget : (frameB a)[i] = (a ++ sum4 (s : Int))[i - k]'(by rw [List.length_append, hsl]; omega) := by
            have h6 : (frameB a)[i]? = (a ++ sum4 (s : Int))[i - k]? := by rw [hf, List.getElem?_append_right (by omega), hkk]
            rw [List.getElem?_eq_getElem hi, List.getElem?_eq_getElem (by rw [List.length_append, hsl]; omega)] at h6
            exact Option.some.inj h6
          have h3' : (leS (((g.drop k).drop a.length).take 4) : Int) = sumI ((g.drop k).take a.length) := Classical.byContradiction fun q => h3 q
          rw [hdr] at h3'
          by_cases hb : i - k < a.length
          · rw [List.set_append_left _ _ hb, List.take_left' (by rw [List.length_set]), List.drop_left' (by rw [List.length_set]), List.take_of_length_le (by omega), hle, ← es] at h3'
            have h7 := sumI_inj h3'
            obtain ⟨s1, s2⟩ := set_split hb y
            rw [s2] at h7
            conv at h7 => lhs; rw [s1]
            have h8 := sumB_change (ha _ (List.getElem_mem hb)) hy h7
            rw [List.getElem_append_left hb] at hget
            exact hne (by rw [hget, h8])
          · rw [List.set_append_right _ _ (by omega), List.take_left, List.drop_left, List.take_of_length_le (by rw [List.length_set]; omega), es] at h3'
            have hi4 : i - k - a.length < (sum4 (s : Int)).length := by omega
            have h9 : (sum4 (s : Int)).set (i - k - a.length) y = sum4 (s : Int) := leS_inj (fun x hx => by
              rcases List.mem_or_eq_of_mem_set hx with h | rfl
              · exact hsb x h
              · exact hy) hsb (by rw [List.length_set]) (by omega)
            have h10 : ((sum4 (s : Int)).set (i - k - a.length) y)[i - k - a.length]? = (sum4 (s : Int))[i - k - a.length]? := by rw [h9]
            rw [List.getElem?_set_self hi4, List.getElem?_eq_getElem hi4] at h10
            rw [List.getElem_append_right (by omega)] at hget
            exact hne (by rw [hget]; exact Option.some.inj h10)
  · unfold unS at c1
    rw [hnum] at c1
    simp [he] at c1
end
section
variable {fu : Nat}
theorem xor8 (n m : Nat) : ((BitVec.ofInt (IntKind.bits .u8) (n : Int) ^^^ BitVec.ofInt (IntKind.bits .u8) (m : Int)).toNat) = (BitVec.ofNat 8 n ^^^ BitVec.ofNat 8 m).toNat := by
  show (BitVec.ofInt 8 (n : Int) ^^^ BitVec.ofInt 8 (m : Int)).toNat = _
  rw [BitVec.ofInt_natCast, BitVec.ofInt_natCast]
theorem flip8 (x : Int) (hx : 0 ≤ x ∧ x ≤ 255) (j : Nat) (hj : j < 8) : ∃ y : Int, 0 ≤ y ∧ y ≤ 255 ∧ y ≠ x ∧
    IntKind.wrap .u8 ((BitVec.ofInt (IntKind.bits .u8) x ^^^ BitVec.ofInt (IntKind.bits .u8) (IntKind.wrap .u8 ((1 : Int) * 2 ^ (min j (IntKind.bits .u8))))).toNat : Int) = y := by
  obtain ⟨n, rfl⟩ := Int.eq_ofNat_of_zero_le hx.1
  have hj8 : min j (IntKind.bits .u8) = j := Nat.min_eq_left (by show j ≤ 8; omega)
  have hp : ∀ i : Fin 8, (2 : Nat) ^ i.val < 256 ∧ 0 < (2 : Nat) ^ i.val := by decide
  have hp1 : (2 : Nat) ^ j < 256 := (hp ⟨j, hj⟩).1
  have hp2 : 0 < (2 : Nat) ^ j := (hp ⟨j, hj⟩).2
  have e1 : IntKind.wrap .u8 ((1 : Int) * 2 ^ j) = ((2 ^ j : Nat) : Int) := by
    rw [Int.one_mul]
    have h2 : ((2 : Int) ^ j) = ((2 ^ j : Nat) : Int) := by simp
    rw [h2]
    generalize (2 : Nat) ^ j = P at hp1 hp2
    exact wu8 (by omega) (by omega)
  generalize (2 : Nat) ^ j = P at hp1 hp2 e1
  have hlt := (BitVec.ofNat 8 n ^^^ BitVec.ofNat 8 P).isLt
  refine ⟨((BitVec.ofNat 8 n ^^^ BitVec.ofNat 8 P).toNat : Int), by omega, by omega, fun he => ?_, ?_⟩
  · have h1 : (BitVec.ofNat 8 n ^^^ BitVec.ofNat 8 P) = BitVec.ofNat 8 n := by
      apply BitVec.eq_of_toNat_eq
      rw [BitVec.toNat_ofNat n]
      omega
    have h2 := congrArg (BitVec.ofNat 8 n ^^^ ·) h1
    simp only [← BitVec.xor_assoc, BitVec.xor_self, BitVec.zero_xor] at h2
    have h3 := congrArg BitVec.toNat h2
    rw [BitVec.toNat_ofNat] at h3
    have h4 : (0#8).toNat = 0 := rfl
    omega
  · rw [hj8, e1, xor8, wu8 (by omega) (by omega)]
theorem p9_is {a : List Int} {c : Int} (ha : ∀ x ∈ a, 0 ≤ x ∧ x ≤ 255) (hn : a.length ≤ 1048576) (hc : 0 ≤ c ∧ c ≤ 4294967295) (hfu : 140737488355328 < fu) : p9 fu (a, c, ()) = some ((), true) := by
  obtain ⟨s, hs, es⟩ := sumI_lt a
  obtain ⟨_, _, hsl⟩ := leS_sum4 hs
  have hu : isU (a.length : Int) := ⟨by omega, by omega⟩
  have h10 := uB_len hu
  have hL : (frameB a).length = (uB (a.length : Int)).length + a.length + 4 := by
    unfold frameB tB
    rw [es, List.length_append, List.length_append, hsl]
  obtain ⟨n, rfl⟩ := Int.eq_ofNat_of_zero_le hc.1
  unfold p9
  dsimp only
  rw [p11F_is (by omega)]
  simp only [Option.bind_some]
  rw [p12_is ha hn (by omega) (by omega)]
  simp only [Option.bind_some, Bool.not_true, cond_false]
  have hfb := frame_bytes ha
  have hbit := fun {i y} => @bit_is a ha i y
  generalize frameB a = f at *
  have e1 : ((f.length : Int) == 0) = false := beq_eq_false_iff_ne.2 (by omega)
  rw [e1]
  simp only [cond_false]
  by_cases hbig : (a.length : Int) > 262144
  · simp only [decide_eq_true hbig, cond_true]
  · have w8 : IntKind.wrap .i64 ((8 : Int) * (f.length : Int)) = ((8 * f.length : Nat) : Int) := by rw [wi64 (by omega) (by omega)]; omega
    have wc : IntKind.wrap .i64 (n : Int) = (n : Int) := wi64 (by omega) (by omega)
    have hmod : Int.tmod (n : Int) ((8 * f.length : Nat) : Int) = ((n % (8 * f.length) : Nat) : Int) := rfl
    have hmod8 : Int.tmod ((n % (8 * f.length) : Nat) : Int) 8 = ((n % (8 * f.length) % 8 : Nat) : Int) := rfl
    have hdiv8 : Int.tdiv ((n % (8 * f.length) : Nat) : Int) 8 = ((n % (8 * f.length) / 8 : Nat) : Int) := rfl
    have hlt : n % (8 * f.length) < 8 * f.length := Nat.mod_lt _ (by omega)
    generalize n % (8 * f.length) = q at hlt hmod hmod8 hdiv8
    have wq : IntKind.wrap .i64 ((q / 8 : Nat) : Int) = ((q / 8 : Nat) : Int) := wi64 (by omega) (by omega)
    have g0 : ((((8 * f.length : Nat) : Int)) == 0) = false := beq_eq_false_iff_ne.2 (by omega)
    have g1 : decide ((0 : Int) ≤ ((q / 8 : Nat) : Int) ∧ ((q / 8 : Nat) : Int) < (f.length : Int)) = true := decide_eq_true ⟨by omega, by omega⟩
    have g2 : decide (q / 8 < f.length) = true := decide_eq_true (by omega)
    have g3 : decide ((0 : Int) ≤ ((q % 8 : Nat) : Int)) = true := decide_eq_true (by omega)
    have hi : q / 8 < f.length := by omega
    have hget : f.getD (q / 8) (dflt (.int .u8)) = f[q / 8] := by
      rw [List.getD_eq_getElem?_getD, List.getElem?_eq_getElem hi]
      rfl
    obtain ⟨y, y1, y2, y3, y4⟩ := flip8 f[q / 8] (hfb _ (List.getElem_mem hi)) (q % 8) (Nat.mod_lt _ (by decide))
    have hb := hbit hi ⟨y1, y2⟩ y3
    have hsb : ∀ x ∈ f.set (q / 8) y, 0 ≤ x ∧ x ≤ 255 := fun x hx => by
      rcases List.mem_or_eq_of_mem_set hx with h | rfl
      · exact hfb x h
      · exact ⟨y1, y2⟩
    simp only [decide_eq_false hbig, cond_false, w8, wc, hmod, hmod8, hdiv8, wq, g0, Bool.not_false, cond_true, g1, Int.toNat_natCast, g2, g3, hget, y4, List.length_set, decide_true]
    rw [p21_is hsb (by rw [List.length_set]; omega) (by omega) (by rw [List.length_set]; omega)]
    simp only [Option.bind_some]
    generalize unS (f.set (q / 8) y) = u at hb
    by_cases k1 : u.2.2 = 0
    · have k2 : (u.2.2 != 0) = false := by simp [k1]
      rw [k2]
      simp only [cond_false]
      by_cases k3 : u.1.length = a.length
      · have k4 : ((u.1.length : Int) != (a.length : Int)) = false := by simp [k3]
        rw [k4]
        have k5 : 0 < u.2.1.length := by
          rcases hb with h | h | h
          · exact absurd k1 h
          · exact absurd k3 h
          · exact h
        have k6 : decide ((u.2.1.length : Int) > 0) = true := decide_eq_true (by omega)
        simp only [cond_false, k6]
      · have k4 : ((u.1.length : Int) != (a.length : Int)) = true := bne_iff_ne.2 (by omega)
        rw [k4]
        simp only [cond_true]
    · have k2 : (u.2.2 != 0) = true := bne_iff_ne.2 k1
      rw [k2]
      simp only [cond_true]
end
end Go.Proofs.YtfhdpeceppafiaaDoor
