/-
  A number is read as it was written.
-/
import Derived.Test.YtfhdpeceppafiaaDoorWrA
import Derived.Test.YtfhdpeceppafiaaDoorPtP
import Derived.Laws.Strings
namespace Go.Proofs.YtfhdpeceppafiaaDoor
open Go.RowKit
section
variable {fu : Nat}
theorem and8 (n m : Nat) : ((BitVec.ofInt (IntKind.bits .u8) (n : Int) &&& BitVec.ofInt (IntKind.bits .u8) (m : Int)).toNat) = (BitVec.ofNat 8 n &&& BitVec.ofNat 8 m).toNat := by
  show (BitVec.ofInt 8 (n : Int) &&& BitVec.ofInt 8 (m : Int)).toNat = _
  rw [BitVec.ofInt_natCast, BitVec.ofInt_natCast]
theorem or64 (n m : Nat) : ((BitVec.ofInt (IntKind.bits .u64) (n : Int) ||| BitVec.ofInt (IntKind.bits .u64) (m : Int)).toNat) = (BitVec.ofNat 64 n ||| BitVec.ofNat 64 m).toNat := by
  show (BitVec.ofInt 64 (n : Int) ||| BitVec.ofInt 64 (m : Int)).toNat = _
  rw [BitVec.ofInt_natCast, BitVec.ofInt_natCast]
theorem low7 (x : Nat) (h : x < 256) : IntKind.wrap .u8 ((BitVec.ofInt (IntKind.bits .u8) (x : Int) &&& BitVec.ofInt (IntKind.bits .u8) (127 : Int)).toNat : Int) = ((x % 128 : Nat) : Int) := by
  have h2 : (BitVec.ofInt (IntKind.bits .u8) (x : Int) &&& BitVec.ofInt (IntKind.bits .u8) (127 : Int)).toNat = x % 128 := by
    refine (and8 x 127).trans ?_
    rw [BitVec.toNat_and, BitVec.toNat_ofNat, BitVec.toNat_ofNat, Nat.mod_eq_of_lt h]
    exact Nat.and_two_pow_sub_one_eq_mod x 7
  rw [h2, wu8 (by omega) (by omega)]
theorem pow7 (i : Nat) (h : i ≤ 9) : (2 : Int) ^ (min (Int.toNat (IntKind.wrap .i64 ((7 : Int) * (i : Int)))) (IntKind.bits .u64)) = ((128 ^ i : Nat) : Int) := by
  have e : IntKind.wrap .i64 ((7 : Int) * (i : Int)) = ((7 * i : Nat) : Int) := by rw [wi64 (by omega) (by omega)]; omega
  rw [e, Int.toNat_natCast, Nat.min_eq_left (by show 7 * i ≤ 64; omega), show (128 : Nat) = 2 ^ 7 from rfl, ← Nat.pow_mul]
  simp
theorem p128 {i : Nat} (h : i ≤ 9) : 128 ^ i ≤ 9223372036854775808 := by
  have := Nat.pow_le_pow_right (n := 128) (by decide) h
  have e : (128 : Nat) ^ 9 = 9223372036854775808 := by decide
  omega
/-- What was read so far, and seven bits more. -/
theorem accum (c y i : Nat) (hi : i ≤ 9) (hc : c < 128 ^ i) (hy : c + y * 128 ^ i < 18446744073709551616) :
    IntKind.wrap .u64 ((BitVec.ofInt (IntKind.bits .u64) (c : Int) ||| BitVec.ofInt (IntKind.bits .u64) (IntKind.wrap .u64 ((IntKind.wrap .u64 (y : Int)) * 2 ^ (min (Int.toNat (IntKind.wrap .i64 ((7 : Int) * (i : Int)))) (IntKind.bits .u64))))).toNat : Int) = ((c + y * 128 ^ i : Nat) : Int) := by
  have hpos : 0 < 128 ^ i := Nat.pow_pos (by decide)
  have hy1 : y ≤ y * 128 ^ i := Nat.le_mul_of_pos_right y hpos
  rw [pow7 i hi, wu64 (x := (y : Int)) (by omega) (by omega), ← Int.natCast_mul, wu64 (x := ((y * 128 ^ i : Nat) : Int)) (by omega) (by omega)]
  have e1 : (BitVec.ofInt (IntKind.bits .u64) (c : Int) ||| BitVec.ofInt (IntKind.bits .u64) ((y * 128 ^ i : Nat) : Int)).toNat = c + y * 128 ^ i := by
    rw [or64, BitVec.toNat_or, BitVec.toNat_ofNat, BitVec.toNat_ofNat, Nat.mod_eq_of_lt (by omega), Nat.mod_eq_of_lt (by omega)]
    have e : (128 : Nat) ^ i = 2 ^ (7 * i) := by rw [show (128 : Nat) = 2 ^ 7 from rfl, ← Nat.pow_mul]
    rw [e] at hc ⊢
    have := Nat.two_pow_add_eq_or_of_lt hc y
    rw [Nat.or_comm, Nat.mul_comm y, ← this, Nat.add_comm]
  rw [e1, wu64 (by omega) (by omega)]
theorem ub_pos (v : Nat) : 0 < (ub v).length := by
  by_cases h : v < 128
  · rw [ub_small h]; exact Nat.one_pos
  · rw [ub_big h]; exact Nat.succ_pos _
theorem ub_head (v : Nat) (r : List Int) : (ub v ++ r).getD 0 0 = (((if v < 128 then v else v % 128 + 128 : Nat)) : Int) := by
  by_cases h : v < 128
  · rw [ub_small h, if_pos h]; rfl
  · rw [ub_big h, if_neg h]; rfl
/-- The place in a number's bytes: how many were read, what they made. -/
structure At (v : Nat) (rest a : List Int) (c f : Int) (i : Nat) (pre : List Int) : Prop where
  hc : c = ((v % 128 ^ i : Nat) : Int)
  hf : f = (i : Int)
  ha : a = pre ++ (ub (v / 128 ^ i) ++ rest)
  hp : pre.length = i
  hl : i + (ub (v / 128 ^ i)).length = (ub v).length
  h1 : i = 0 ∨ 1 ≤ v / 128 ^ i
theorem p40_is {v : Nat} {rest : List Int} (hv : v < 18446744073709551616) (hfu : 10 < fu) : p40 fu (ub v ++ rest, ()) = some ((), ((v : Int), ((ub v).length : Int), 0, ())) := by
  have h10 : (ub v).length ≤ 10 := ub_len 9 v (by have : (128 : Nat) ^ 10 = 1180591620717411303424 := by decide
                                                  omega)
  unfold p40
  dsimp only
  refine loopO_eq (fun (s : (Int × (Int × Unit)) × Unit) => ∃ i pre, At v rest (ub v ++ rest) s.1.1 s.1.2.1 i pre) (fun s => 10 - s.1.2.1.toNat) (fun _ => ((), ((v : Int), ((ub v).length : Int), 0, ()))) ?_ fu _ ⟨0, [], by simp [Nat.mod_one], rfl, by simp, rfl, by simp, .inl rfl⟩ (by dsimp only; omega)
  rintro ⟨⟨c, f, ⟨⟩⟩, ⟨⟩⟩ ⟨i, pre, h⟩
  obtain ⟨hc, hf, ha, hp, hl, h1⟩ := h
  dsimp only at hc hf
  subst hc hf
  have hpos := ub_pos (v / 128 ^ i)
  have hi : i ≤ 9 := by omega
  have hmod := Nat.mod_pow_succ (b := 128) (k := i) (x := v)
  have hdm := Nat.div_add_mod v (128 ^ i)
  have hlt := Nat.mod_lt v (y := 128 ^ i) (Nat.pow_pos (by decide))
  generalize hw : v / 128 ^ i = w at ha hl h1 hpos hmod hdm
  have hx : List.getD (ub v ++ rest) i (dflt (.int .u8)) = (((if w < 128 then w else w % 128 + 128 : Nat)) : Int) := by
    rw [ha, List.getD_eq_getElem?_getD, List.getElem?_append_right (by omega), hp, Nat.sub_self, ← List.getD_eq_getElem?_getD]
    exact ub_head w rest
  generalize hxv : (if w < 128 then w else w % 128 + 128 : Nat) = x at hx
  have hx256 : x < 256 := by rw [← hxv]; split <;> omega
  have hx7 : x % 128 = w % 128 := by rw [← hxv]; split <;> omega
  have hw9 : i = 9 → w = 1 := fun e => by
    subst e
    have e9 : (128 : Nat) ^ 9 = 9223372036854775808 := by decide
    rw [e9] at hdm hlt
    omega
  have hx9 : i = 9 → x = 1 := fun e => by rw [← hxv, hw9 e]; rfl
  have hx0 : 0 < i → x ≠ 0 := fun e => by
    rw [← hxv]
    split <;> omega
  have hlen : (ub v ++ rest).length = i + ((ub w).length + rest.length) := by rw [ha, List.length_append, List.length_append, hp]
  have e1 : decide ((i : Int) < 10) = true := by simp; omega
  have e2 : ((i : Int) == ((ub v ++ rest).length : Int)) = false := by
    rw [hlen]
    simp
    omega
  have e3 : decide ((0 : Int) ≤ (i : Int) ∧ (i : Int) < ((ub v ++ rest).length : Int)) = true := by rw [hlen]; simp; omega
  have e4 : decide (i < (ub v ++ rest).length) = true := by rw [hlen]; simp; omega
  have e7 : decide ((0 : Int) ≤ IntKind.wrap .i64 ((7 : Int) * (i : Int))) = true := by rw [wi64 (by omega) (by omega)]; simp; omega
  have hmul : w % 128 * 128 ^ i ≤ 128 ^ i * w := by rw [Nat.mul_comm]; exact Nat.mul_le_mul_left _ (Nat.mod_le _ _)
  have hacc := accum (v % 128 ^ i) (w % 128) i hi hlt (by omega)
  have hnew : v % 128 ^ i + w % 128 * 128 ^ i = v % 128 ^ (i + 1) := by rw [hmod, Nat.mul_comm (w % 128)]
  have wi : IntKind.wrap .i64 ((i : Int) + 1) = ((i + 1 : Nat) : Int) := by rw [wi64 (by omega) (by omega)]; omega
  simp only [e1, e2, e3, e4, Int.toNat_natCast, cond_true, cond_false, hx, e7, low7 x hx256, hx7, hacc, hnew, wi]
  by_cases hw128 : w < 128
  · right
    have hxw : x = w := by rw [← hxv, if_pos hw128]
    have hend : v % 128 ^ (i + 1) = v := by
      apply Nat.mod_eq_of_lt
      rw [Nat.pow_succ]
      have : 128 ^ i * w + 128 ^ i ≤ 128 ^ i * 128 := by
        rw [← Nat.mul_succ]
        exact Nat.mul_le_mul_left _ hw128
      omega
    have hub : (ub v).length = i + 1 := by rw [← hl, ub_small hw128]; rfl
    have e8 : decide ((x : Int) < 128) = true := by rw [hxw]; simp; omega
    rw [e8]
    simp only [cond_true, hend, hub]
    by_cases h9 : i = 9
    · have := hx9 h9
      subst this
      subst h9
      rfl
    · have g1 : ((i : Int) == 9) = false := by simp; omega
      rw [g1]
      simp only [cond_false]
      by_cases hz : x = 0
      · have hi0 : i = 0 := by
          rcases Nat.eq_zero_or_pos i with h | h
          · exact h
          · exact absurd hz (hx0 h)
        subst hz hi0
        rfl
      · have g2 : ((x : Int) == 0) = false := by simp; omega
        rw [g2]
        rfl
  · left
    have hxw : x = w % 128 + 128 := by rw [← hxv, if_neg hw128]
    have e8 : decide ((x : Int) < 128) = false := by simp; omega
    have h9 : i ≠ 9 := fun e => by have := hw9 e; omega
    have g1 : ((i : Int) == 9) = false := by simp; omega
    have g2 : ((x : Int) == 0) = false := by simp; omega
    have hdiv : v / 128 ^ (i + 1) = w / 128 := by rw [Nat.pow_succ, ← Nat.div_div_eq_div_mul, hw]
    refine ⟨((((v % 128 ^ (i + 1) : Nat) : Int), ((i + 1 : Nat) : Int), ()), ()), ?_, ⟨i + 1, pre ++ [((w % 128 + 128 : Nat) : Int)], rfl, rfl, ?_, ?_, ?_, .inr ?_⟩, ?_, trivial⟩
    · rw [e8, g1, g2]
      rfl
    · rw [hdiv, ha, ub_big hw128]
      simp
    · simp [hp]
    · rw [hdiv, ← hl, ub_big hw128]
      simp only [List.length_cons]
      omega
    · rw [hdiv]
      omega
    · dsimp only
      omega
end
section
theorem ub_mono : ∀ (k v w : Nat), v < k → v ≤ w → (ub v).length ≤ (ub w).length
  | 0, v, _, h, _ => absurd h (Nat.not_lt_zero v)
  | k + 1, v, w, h, hle => by
    by_cases hv : v < 128
    · rw [ub_small hv]
      by_cases hw : w < 128
      · rw [ub_small hw]; exact Nat.le_refl _
      · rw [ub_big hw]; simp
    · have hw : ¬ w < 128 := by omega
      rw [ub_big hv, ub_big hw]
      have := ub_mono k (v / 128) (w / 128) (by omega) (Nat.div_le_div_right hle)
      simp only [List.length_cons]
      omega
theorem ub_le {v w : Nat} (h : v ≤ w) : (ub v).length ≤ (ub w).length := ub_mono (v + 1) v w (Nat.lt_succ_self v) h
/-- Where one's bytes are followed by something and another one's too, and it is all the same, the numbers are. -/
theorem ub_first : ∀ (k v w : Nat) (r s : List Int), v < k → ub v ++ r = ub w ++ s → v = w
  | 0, v, _, _, _, h, _ => absurd h (Nat.not_lt_zero v)
  | k + 1, v, w, r, s, h, he => by
    by_cases hv : v < 128
    · by_cases hw : w < 128
      · rw [ub_small hv, ub_small hw] at he
        have := (List.cons.inj he).1
        omega
      · rw [ub_small hv, ub_big hw] at he
        have := (List.cons.inj he).1
        omega
    · by_cases hw : w < 128
      · rw [ub_big hv, ub_small hw] at he
        have := (List.cons.inj he).1
        omega
      · rw [ub_big hv, ub_big hw] at he
        have h1 := (List.cons.inj he).1
        have h2 := ub_first k (v / 128) (w / 128) r s (by omega) (List.cons.inj he).2
        omega
theorem ub_take {v w n : Nat} (h : n = min (ub v).length (ub w).length) : ((ub v).take n = (ub w).take n) ↔ v = w := by
  constructor
  · intro e
    rcases Nat.le_total (ub v).length (ub w).length with hl | hl
    · have hn : n = (ub v).length := by omega
      subst hn
      rw [List.take_length] at e
      refine ub_first (v + 1) v w ((ub w).drop (ub v).length) [] (Nat.lt_succ_self v) ?_
      rw [List.append_nil]
      have h2 := List.take_append_drop (ub v).length (ub w)
      rw [← e] at h2
      exact h2
    · have hn : n = (ub w).length := by omega
      subst hn
      rw [List.take_length] at e
      refine ub_first (v + 1) v w [] ((ub v).drop (ub w).length) (Nat.lt_succ_self v) ?_
      rw [List.append_nil]
      have h2 := List.take_append_drop (ub w).length (ub v)
      rw [e] at h2
      exact h2.symm
  · rintro rfl
    rfl
end
section
variable {fu : Nat}
abbrev noE : Bool × ((Int × (Int × Unit)) × Unit) := (false, dflt (.pair (.int .i64) (.pair (.int .i64) .unit)), ())
theorem le_top {n : Nat} (h : n ≤ 140737488355328) : n ≤ maxLen := Nat.le_trans h (by decide)
theorem fitP {n : Nat} (h : n ≤ 140737488355328) : (n ≤ maxLen ∧ n * 1 ≤ 140737488355328) = True := eq_true ⟨le_top h, by omega⟩
theorem p34a_is {a : List Int} {v : Int} (hv : isU v) (ha : a.length + (uB v).length ≤ 140737488355328) (hfu : 10 < fu) : p34_1 fu ((a, ()), v, ()) = some (((a ++ uB v, ()), (), ()), ()) := by
  unfold p34_1
  simp only [decide_true, cond_true]
  refine loopO_eq (fun (s : (Int × Unit) × ((List Int × Unit) × Unit)) => isU s.1.1 ∧ s.2.1.1.length + (uB s.1.1).length ≤ 140737488355328) (fun s => (uB s.1.1).length) (fun s => (((s.2.1.1 ++ uB s.1.1, ()), (), ()), ())) ?_ fu _ ⟨hv, ha⟩ (Nat.lt_of_le_of_lt (uB_len hv) hfu)
  rintro ⟨⟨f, ⟨⟩⟩, ⟨⟨h, ⟨⟩⟩, ⟨⟩⟩⟩ ⟨⟨h0, h1⟩, h2⟩
  dsimp only at h0 h1 h2
  obtain ⟨n, rfl⟩ := Int.eq_ofNat_of_zero_le h0
  have e : uB ((n : Nat) : Int) = ub n := rfl
  simp only [e] at h2 ⊢
  by_cases hn : n < 128
  · right
    rw [ub_small hn] at h2 ⊢
    simp only [List.length_singleton] at h2
    have hw : IntKind.wrap .u8 (n : Int) = (n : Int) := wu8 (by omega) (by omega)
    have hge : ¬ ((n : Int) ≥ 128) := by omega
    simp only [hge, hw, fitP h2, List.length_singleton, decide_false, decide_true, cond_false, cond_true, inrO, Option.map_some]
  · left
    rw [ub_big hn] at h2 ⊢
    simp only [List.length_cons] at h2
    have hl : h.length + 1 ≤ 140737488355328 := by omega
    refine ⟨((((n / 128 : Nat) : Int), ()), ((h ++ [((n % 128 + 128 : Nat) : Int)], ()), ())), ?_, ⟨⟨by dsimp only; omega, by dsimp only; omega⟩, ?_⟩, ?_, ?_⟩
    · have hge : (n : Int) ≥ 128 := by omega
      simp only [lowP, fdiv7, List.length_singleton, fitP hl, hge, decide_true, cond_true]
    · show (h ++ [((n % 128 + 128 : Nat) : Int)]).length + (ub (n / 128)).length ≤ _
      simp only [List.length_append, List.length_singleton]
      omega
    · show (ub (n / 128)).length < _
      simp
    · show ((((h ++ [((n % 128 + 128 : Nat) : Int)]) ++ ub (n / 128), ()), (), ()), ()) = _
      simp
theorem p34u_is {v : Int} (hv : isU v) (hfu : 10 < fu) : p34 fu (((), ()), v, ()) = some (((uB v, ()), ()), ()) := by
  have h10 := uB_len hv
  unfold p34
  dsimp only
  refine loopO_eq (fun (s : (Int × Unit) × ((List Int × Unit) × Unit)) => isU s.1.1 ∧ s.2.1.1.length + (uB s.1.1).length ≤ 10) (fun s => (uB s.1.1).length) (fun s => (((s.2.1.1 ++ uB s.1.1, ()), ()), ())) ?_ fu ((v, ()), (([], ()), ())) ⟨hv, by simpa using h10⟩ (Nat.lt_of_le_of_lt h10 hfu)
  rintro ⟨⟨f, ⟨⟩⟩, ⟨⟨h, ⟨⟩⟩, ⟨⟩⟩⟩ ⟨⟨h0, h1⟩, h2⟩
  dsimp only at h0 h1 h2
  obtain ⟨n, rfl⟩ := Int.eq_ofNat_of_zero_le h0
  have e : uB ((n : Nat) : Int) = ub n := rfl
  simp only [e] at h2 ⊢
  by_cases hn : n < 128
  · right
    rw [ub_small hn] at h2 ⊢
    simp only [List.length_singleton] at h2
    have hw : IntKind.wrap .u8 (n : Int) = (n : Int) := wu8 (by omega) (by omega)
    have hge : ¬ ((n : Int) ≥ 128) := by omega
    have hl : h.length + 1 ≤ 140737488355328 := by omega
    simp only [hge, hw, fitP hl, List.length_singleton, decide_false, decide_true, cond_false, cond_true, inrO, Option.map_some]
  · left
    rw [ub_big hn] at h2 ⊢
    simp only [List.length_cons] at h2
    have hl : h.length + 1 ≤ 140737488355328 := by omega
    refine ⟨((((n / 128 : Nat) : Int), ()), ((h ++ [((n % 128 + 128 : Nat) : Int)], ()), ())), ?_, ⟨⟨by dsimp only; omega, by dsimp only; omega⟩, ?_⟩, ?_, ?_⟩
    · have hge : (n : Int) ≥ 128 := by omega
      simp only [lowP, fdiv7, List.length_singleton, fitP hl, hge, decide_true, cond_true]
    · show (h ++ [((n % 128 + 128 : Nat) : Int)]).length + (ub (n / 128)).length ≤ _
      simp only [List.length_append, List.length_singleton]
      omega
    · show (ub (n / 128)).length < _
      simp
    · show (((((h ++ [((n % 128 + 128 : Nat) : Int)]) ++ ub (n / 128), ()), ()), ())) = _
      simp
theorem p27a_is {a : List Int} (ha : a.length ≤ 140737488355328) : p27 fu ((a, ()), ()) = some ((), a) := by
  unfold p27
  simp only [fitP ha, decide_true, cond_true]
theorem p14_is {a : List Int} (ha : a.length ≤ 140737488355328) : p14 fu (a, ()) = some ((), (a, 0, (), ())) := by
  unfold p14
  simp only [fitP ha, decide_true, cond_true]
theorem p41_is {a : List Int} {c : Int} : p41 fu ((a, c, (), ()), 0, ()) = some (((a, c, noE, ()), (), ()), ()) := by
  unfold p41 p43
  simp only [bne_self_eq_false, cond_false, decide_true, cond_true, Option.bind_some]
theorem p15_is {pre rest : List Int} {v : Int} (hv : isU v) (hn : (pre ++ (uB v ++ rest)).length ≤ 140737488355328) (hfu : 10 < fu) :
    p15_2 fu ((pre ++ (uB v ++ rest), (pre.length : Int), noE, ()), ()) = some (((pre ++ (uB v ++ rest), ((pre ++ uB v).length : Int), noE, ()), (), ()), v) := by
  obtain ⟨h0, h1⟩ := hv
  obtain ⟨n, rfl⟩ := Int.eq_ofNat_of_zero_le h0
  have eu : uB ((n : Nat) : Int) = ub n := rfl
  rw [eu] at hn ⊢
  have hlen : (pre ++ (ub n ++ rest)).length = pre.length + ((ub n).length + rest.length) := by rw [List.length_append, List.length_append]
  generalize ha : pre ++ (ub n ++ rest) = a at hn hlen ⊢
  have e1 : decide ((0 : Int) ≤ (pre.length : Int)) = true := by simp
  have e2 : decide (pre.length ≤ a.length ∧ 0 + a.length ≤ a.length) = true := by simp; omega
  have e3 : decide (pre.length + (a.length - pre.length) ≤ a.length) = true := by simp; omega
  have es : sub' a pre.length (a.length - pre.length) = ub n ++ rest := by
    rw [sub'_eq, ← ha, List.drop_left]
    apply List.take_of_length_le
    simp
  have ew : IntKind.wrap .i64 ((pre.length : Int) + ((ub n).length : Int)) = ((pre ++ ub n).length : Int) := by
    rw [wi64 (by omega) (by omega), List.length_append]
    omega
  unfold p15_2
  simp only [cond_false, Int.toNat_natCast, e1, e2, e3, cond_true, es]
  rw [p40_is (by omega) hfu]
  simp only [Option.bind_some, decide_true, cond_true]
  rw [p41_is]
  simp only [Option.bind_some, decide_true, cond_true, cond_false, ew]
theorem p19_is {a : List Int} : p19_2 fu ((a, (a.length : Int), noE, ()), ()) = some (((a, (a.length : Int), noE, ()), (), ()), 0) := by
  have e : decide ((a.length : Int) < (a.length : Int)) = false := by simp
  unfold p19_2 p16_2 pAs
  simp only [decide_true, cond_true, cond_false, Option.bind_some, Bool.not_true, BEq.rfl, e]
def isB8 (n : Int) : Prop := 0 ≤ n ∧ n ≤ 255
theorem ub_bytes : ∀ (k v : Nat), v < k → ∀ x ∈ ub v, isB8 x
  | 0, _, h => absurd h (Nat.not_lt_zero _)
  | k + 1, v, h => by
    by_cases hv : v < 128
    · rw [ub_small hv]
      intro x hx
      obtain rfl := List.mem_singleton.1 hx
      exact ⟨by omega, by omega⟩
    · rw [ub_big hv]
      intro x hx
      rcases List.mem_cons.1 hx with rfl | hx
      · exact ⟨by omega, by omega⟩
      · exact ub_bytes k (v / 128) (by omega) x hx
theorem strA_data (l : List Int) : (strOfNums l).data.toList = l.map fun n => UInt8.ofNat n.toNat := by
  unfold strOfNums
  simp
theorem strA_size (l : List Int) : (strOfNums l).size = l.length := by
  have h : (strOfNums l).size = (strOfNums l).data.toList.length := rfl
  rw [h, strA_data, List.length_map]
theorem map_inj8 : ∀ {a b : List Int}, (∀ x ∈ a, isB8 x) → (∀ x ∈ b, isB8 x) → (a.map fun n => UInt8.ofNat n.toNat) = (b.map fun n => UInt8.ofNat n.toNat) → a = b
  | [], [], _, _, _ => rfl
  | [], _ :: _, _, _, h => by simp at h
  | _ :: _, [], _, _, h => by simp at h
  | x :: a, y :: b, ha, hb, h => by
    simp only [List.map_cons, List.cons.injEq] at h
    obtain ⟨h1, h2⟩ := ha x (by simp)
    obtain ⟨h3, h4⟩ := hb y (by simp)
    have e := congrArg UInt8.toNat h.1
    simp only [UInt8.toNat_ofNat'] at e
    have e2 : x = y := by omega
    rw [e2, map_inj8 (fun z hz => ha z (by simp [hz])) (fun z hz => hb z (by simp [hz])) h.2]
theorem ext_toList (l : List Int) (n : Nat) : ((strOfNums l).extract 0 n).toList = (l.take n).map fun n => UInt8.ofNat n.toNat := by
  rw [ByteArray.toList_eq, ByteArray.data_extract, Array.toList_extract, strA_data]
  simp [List.map_take]
/-- Two numbers' bytes, as far as the shorter ones go, are the same just where the numbers are. -/
theorem same_take {v w : Int} (hv : isU v) (hw : isU w) (n : Nat) (hn : n = min (uB v).length (uB w).length) :
    (((strOfNums (uB v)).extract 0 n).toList == ((strOfNums (uB w)).extract 0 n).toList) = (v == w) := by
  rw [ext_toList, ext_toList]
  have hiff : ((uB v).take n).map (fun n => UInt8.ofNat n.toNat) = ((uB w).take n).map (fun n => UInt8.ofNat n.toNat) ↔ v = w := by
    constructor
    · intro h
      have h2 := map_inj8 (fun x hx => ub_bytes _ _ (Nat.lt_succ_self _) x (List.mem_of_mem_take hx)) (fun x hx => ub_bytes _ _ (Nat.lt_succ_self _) x (List.mem_of_mem_take hx)) h
      have h3 := (ub_take (v := v.toNat) (w := w.toNat) hn).1 h2
      have := hv.1
      have := hw.1
      omega
    · rintro rfl
      rfl
  by_cases h : v = w
  · rw [beq_iff_eq.2 h, beq_iff_eq]
    exact hiff.2 h
  · rw [beq_eq_false_iff_ne.2 h, beq_eq_false_iff_ne]
    exact fun k => h (hiff.1 k)
end
section
variable {fu : Nat}
theorem p11p_is (hfu : 30 < fu) : p11 fu () = some ((), true) := by
  obtain ⟨m, rfl⟩ : ∃ m, fu = m + 30 := ⟨fu - 30, by omega⟩
  kernel_rfl
theorem getU {l : List Int} {i : Nat} (h : i < l.length) : l.getD i (dflt (.int .u64)) = l[i] := by
  rw [List.getD_eq_getElem?_getD, List.getElem?_eq_getElem h]
  rfl
theorem flatU_take {l : List Int} {i : Nat} (h : i < l.length) : (l.take (i + 1)).flatMap uB = (l.take i).flatMap uB ++ uB l[i] := by
  rw [List.take_succ_eq_append_getElem h, List.flatMap_append]
  simp
theorem mapU_take {l : List Int} {i : Nat} (h : i < l.length) : (l.take (i + 1)).map (fun x => strOfNums (uB x)) = (l.take i).map (fun x => strOfNums (uB x)) ++ [strOfNums (uB l[i])] := by
  rw [List.take_succ_eq_append_getElem h, List.map_append]
  rfl
theorem flatU_len {l : List Int} (h : ∀ x ∈ l, isU x) : (l.flatMap uB).length ≤ 10 * l.length := by
  induction l with
  | nil => simp
  | cons x l ih =>
    have h1 := uB_len (h x (by simp))
    have h2 := ih fun y hy => h y (by simp [hy])
    simp only [List.flatMap_cons, List.length_append, List.length_cons]
    omega
theorem getS8 {l : List Int} {i : Nat} (h : i < l.length) : (l.map fun x => strOfNums (uB x)).getD i (dflt .str) = strOfNums (uB l[i]) := by
  rw [List.getD_eq_getElem?_getD, List.getElem?_map, List.getElem?_eq_getElem h]
  rfl
theorem p10_is {l : List Int} (hl : ∀ x ∈ l, isU x) (hn : l.length ≤ 1048576) (hfu : 140737488355328 < fu) : p10 fu (l, ()) = some ((), true) := by
  have hlen : ∀ j, j ≤ l.length → ((l.take j).flatMap uB).length ≤ 10 * l.length := fun j hj => by
    refine Nat.le_trans (flatU_len fun x hx => hl x (List.mem_of_mem_take hx)) ?_
    rw [List.length_take]
    omega
  unfold p10
  dsimp only
  rw [p11p_is (by omega)]
  simp only [Option.bind_some]
  refine loopO_eq (fun (s : (List ByteArray × Int × Unit) × ((List Int × Unit) × Unit)) => ∃ k : Nat, k ≤ l.length ∧ s = (((l.take k).map (fun x => strOfNums (uB x)), (k : Int), ()), (((l.take k).flatMap uB, ()), ()))) (fun s => l.length - s.1.2.1.toNat) (fun _ => ((), true)) ?_ fu _ ⟨0, Nat.zero_le _, rfl⟩ (by dsimp only; omega)
  rintro _ ⟨k, hk, rfl⟩
  by_cases hlt : k < l.length
  · left
    refine ⟨_, ?_, ⟨k + 1, hlt, rfl⟩, ?_, rfl⟩
    · have e1 : decide ((k : Int) < (l.length : Int)) = true := by simpa using hlt
      have e2 : decide ((0 : Int) ≤ (k : Int) ∧ (k : Int) < (l.length : Int)) = true := by simp; omega
      have e3 : decide (k < l.length) = true := by simpa using hlt
      have hw : IntKind.wrap .i64 ((k : Int) + 1) = ((k + 1 : Nat) : Int) := by rw [wi64 (by omega) (by omega)]; omega
      have hx := hl _ (List.getElem_mem hlt)
      have h10 := uB_len hx
      have h1 := hlen k hk
      have e5 : (((l.take k).map (fun x => strOfNums (uB x))).length + 1 ≤ maxLen ∧ (((l.take k).map (fun x => strOfNums (uB x))).length + 1) * 16 ≤ 140737488355328) = True := by
        rw [List.length_map, List.length_take]
        exact eq_true ⟨le_top (by omega), by omega⟩
      simp only [e1, e2, Int.toNat_natCast, e3, cond_true, decide_true, getU hlt]
      rw [p34a_is hx (by omega) (by omega)]
      simp only [Option.bind_some, e2, e3, cond_true, decide_true]
      rw [p34u_is hx (by omega)]
      simp only [Option.bind_some, cond_true, decide_true]
      rw [p27a_is (by omega)]
      simp only [Option.bind_some, cond_true, decide_true, List.length_singleton, e5, hw, flatU_take hlt, mapU_take hlt]
    · dsimp only
      omega
  · right
    have hkl : k = l.length := by omega
    subst hkl
    have e1 : decide ((l.length : Int) < (l.length : Int)) = false := by simp
    have h1 := hlen l.length (Nat.le_refl _)
    rw [List.take_length] at h1 ⊢
    simp only [e1, cond_false, decide_true, cond_true]
    rw [p27a_is (by omega)]
    simp only [Option.bind_some, decide_true, cond_true]
    rw [p14_is (by omega)]
    simp only [Option.bind_some, decide_true, cond_true, Bool.not_true, cond_false]
    rw [show (some (Sum.inr ((), true)) : Option (_ ⊕ (Unit × Bool))) = inrO (some ((), true)) from rfl]
    refine congrArg inrO ?_
    refine loopO_eq (fun (s : (Int × Unit) × ((List Int × (Int × ((Bool × ((Int × (Int × Unit)) × Unit)) × Unit))) × Unit)) => ∃ k : Nat, k ≤ l.length ∧ s = (((k : Int), ()), ((l.flatMap uB, (((l.take k).flatMap uB).length : Int), noE, ()), ()))) (fun s => l.length - s.1.1.toNat) (fun _ => ((), true)) ?_ fu _ ⟨0, Nat.zero_le _, rfl⟩ (by dsimp only; omega)
    rintro _ ⟨k, hk, rfl⟩
    by_cases hlt : k < l.length
    · left
      refine ⟨_, ?_, ⟨k + 1, hlt, rfl⟩, ?_, rfl⟩
      · have e1 : decide ((k : Int) < (l.length : Int)) = true := by simpa using hlt
        have e2 : decide ((0 : Int) ≤ (k : Int) ∧ (k : Int) < (l.length : Int)) = true := by simp; omega
        have e3 : decide (k < l.length) = true := by simpa using hlt
        have hw : IntKind.wrap .i64 ((k : Int) + 1) = ((k + 1 : Nat) : Int) := by rw [wi64 (by omega) (by omega)]; omega
        have hx := hl _ (List.getElem_mem hlt)
        have hsplit : l.flatMap uB = (l.take k).flatMap uB ++ (uB l[k] ++ (l.drop (k + 1)).flatMap uB) := by
          rw [← List.append_assoc, ← flatU_take hlt, ← List.flatMap_append, List.take_append_drop]
        have h15 := p15_is (fu := fu) (pre := (l.take k).flatMap uB) (rest := (l.drop (k + 1)).flatMap uB) hx (by rw [← hsplit]; omega) (by omega)
        rw [← hsplit] at h15
        simp only [cond_false, e1, cond_true, decide_true]
        rw [h15]
        have eq : (l[k] != l[k]) = false := by simp
        have el : (l.map fun x => strOfNums (uB x)).length = l.length := List.length_map ..
        simp only [Option.bind_some, cond_false, e2, Int.toNat_natCast, e3, cond_true, getU hlt, eq]
        refine loopO_eq (fun (s : (Int × Unit) × Unit) => ∃ j : Nat, j ≤ k ∧ s = (((j : Int), ()), ())) (fun s => k - s.1.1.toNat) (fun _ => _) ?_ fu ((0, ()), ()) ⟨0, Nat.zero_le _, rfl⟩ (by dsimp only; omega)
        rintro _ ⟨j, hj, rfl⟩
        by_cases hjl : j < k
        · left
          refine ⟨((((j + 1 : Nat) : Int), ()), ()), ?_, ⟨j + 1, hjl, rfl⟩, ?_, rfl⟩
          · have jl : j < l.length := by omega
            have hxj := hl _ (List.getElem_mem jl)
            have f1 : decide ((j : Int) < (k : Int)) = true := by simpa using hjl
            have f2 : decide ((0 : Int) ≤ (j : Int) ∧ (j : Int) < (l.length : Int)) = true := by simp; omega
            have f3 : decide (j < l.length) = true := by simpa using jl
            have fw : IntKind.wrap .i64 ((j : Int) + 1) = ((j + 1 : Nat) : Int) := by rw [wi64 (by omega) (by omega)]; omega
            have hmin : (if ((uB l[k]).length : Int) < ((uB l[j]).length : Int) then ((uB l[k]).length : Int) else ((uB l[j]).length : Int)) = ((min (uB l[j]).length (uB l[k]).length : Nat) : Int) := by split <;> omega
            have m1 : decide ((0 : Int) ≤ ((min (uB l[j]).length (uB l[k]).length : Nat) : Int)) = true := by simp
            have m2 : decide (0 ≤ min (uB l[j]).length (uB l[k]).length ∧ min (uB l[j]).length (uB l[k]).length ≤ (uB l[j]).length) = true := by simp; omega
            have m3 : decide (0 ≤ min (uB l[j]).length (uB l[k]).length ∧ min (uB l[j]).length (uB l[k]).length ≤ (uB l[k]).length) = true := by simp; omega
            have hst := same_take hxj hx (min (uB l[j]).length (uB l[k]).length) rfl
            have le1 : l[j] ≤ l[k] → (uB l[j]).length ≤ (uB l[k]).length := fun h => ub_le (Int.toNat_le_toNat h)
            have le2 : l[j] ≥ l[k] → (uB l[k]).length ≤ (uB l[j]).length := fun h => ub_le (Int.toNat_le_toNat h)
            by_cases c1 : l[j] ≤ l[k]
            · have d1 : decide (l[j] ≤ l[k]) = true := decide_eq_true c1
              have d2 : decide (((uB l[j]).length : Int) > ((uB l[k]).length : Int)) = false := by have := le1 c1; simp; omega
              by_cases c2 : l[j] ≥ l[k]
              · have d3 : decide (l[j] ≥ l[k]) = true := decide_eq_true c2
                have d4 : decide (((uB l[j]).length : Int) < ((uB l[k]).length : Int)) = false := by have := le2 c2; simp; omega
                simp only [f1, cond_true, f2, Int.toNat_natCast, f3, getU jl, List.length_map, e2, e3, getS8 jl, getS8 hlt, strA_size, d1, d2, d3, d4, cond_false, orK_inl, hmin, m1, m2, m3, hst, BEq.rfl, Bool.not_true, fw]
              · have d3 : decide (l[j] ≥ l[k]) = false := decide_eq_false c2
                simp only [f1, cond_true, f2, Int.toNat_natCast, f3, getU jl, List.length_map, e2, e3, getS8 jl, getS8 hlt, strA_size, d1, d2, d3, cond_false, orK_inl, hmin, m1, m2, m3, hst, BEq.rfl, Bool.not_true, fw]
            · have d1 : decide (l[j] ≤ l[k]) = false := decide_eq_false c1
              have c2 : l[j] ≥ l[k] := by omega
              have d3 : decide (l[j] ≥ l[k]) = true := decide_eq_true c2
              have d4 : decide (((uB l[j]).length : Int) < ((uB l[k]).length : Int)) = false := by have := le2 c2; simp; omega
              simp only [f1, cond_true, f2, Int.toNat_natCast, f3, getU jl, List.length_map, e2, e3, getS8 jl, getS8 hlt, strA_size, d1, d3, d4, cond_false, orK_inl, hmin, m1, m2, m3, hst, BEq.rfl, Bool.not_true, fw]
          · dsimp only
            omega
        · right
          have hjk : j = k := by omega
          subst hjk
          have f1 : decide ((j : Int) < (j : Int)) = false := by simp
          simp only [f1, cond_false, decide_true, cond_true, inrO, Option.map_some, hw, flatU_take hlt]
      · dsimp only
        omega
    · right
      have hkl : k = l.length := by omega
      subst hkl
      have e1 : decide ((l.length : Int) < (l.length : Int)) = false := by simp
      rw [List.take_length]
      simp only [cond_false, e1, decide_true, cond_true]
      rw [p19_is]
      simp only [Option.bind_some, decide_true, cond_true, cond_false, BEq.rfl, inrO, Option.map_some]
end
end Go.Proofs.YtfhdpeceppafiaaDoor
