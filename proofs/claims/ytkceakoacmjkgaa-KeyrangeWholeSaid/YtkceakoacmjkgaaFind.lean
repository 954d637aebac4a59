/-
  Find: what it returns, plainly; both walked.
-/
import Derived.Test.YtkceakoacmjkgaaWhole
namespace Go.Proofs.Ytkceakoacmjkgaa
open Go.RowKit

/-- The first place from i on, so many to go, whose range has a key. -/
def findF (rs : Nat → ByteArray × ByteArray) (key : ByteArray) : Nat → Nat → Int × Bool
  | 0, _ => (0, false)
  | f + 1, i => if has (rs i).1 (rs i).2 key then ((i : Int), true) else findF rs key f (i + 1)
def find (rs : Nat → ByteArray × ByteArray) (n : Nat) (key : ByteArray) : Int × Bool := findF rs key n 0
theorem find_step {rs : Nat → ByteArray × ByteArray} {n k : Nat} {key : ByteArray} (h : findF rs key (n - k) k = find rs n key) (hk : k < n) :
    find rs n key = if has (rs k).1 (rs k).2 key then ((k : Int), true) else findF rs key (n - (k + 1)) (k + 1) := by
  rw [← h, show n - k = (n - (k + 1)) + 1 by omega]
  rfl

set_option maxRecDepth 100000 in
set_option maxHeartbeats 4000000 in
theorem refFind_any (A : Option Addr) (n cap : Nat) (rs : Nat → ByteArray × ByteArray) (key : ByteArray) (hn : n ≤ 9223372036854775807) (w : World) (hk : RangesAt w w.heap.size A n rs) :
    Calls Try.prog 23 #[.slice A n cap, .string key] w fun e w' => e = .returned (.tuple #[.int .i64 (find rs n key).1, .bool (find rs n key).2]) ∧ Below w.heap.size w w' := by
  have HK := Lib.hid hk
  clear hk
  go_enter Try.func23, Try.ntmps23
  go_wp2
  go_loopw [6] (fun i wr => ∃ (k : Nat), k ≤ n ∧ i = .int .i64 k ∧ Hid (findF rs key (n - k) k = find rs n key) ∧ Below w.heap.size w wr) (fun i _ => n - (intOf i).toNat)
  case atStart => exact ⟨0, Nat.zero_le _, rfl, Lib.hid rfl, Below.refl _ _⟩
  case round =>
    rename_i wr
    obtain ⟨k, hk, rfl, HW, hE⟩ := hrel
    by_cases hlt : k < n
    · obtain ⟨b0, off, rfl, hbl, c0, c1⟩ := HK.out k hlt
      have d0 := (hE.cell (p := ⟨b0, off + k * 2, none⟩) hbl).trans c0
      have d1 := (hE.cell (p := ⟨b0, off + k * 2 + 1, none⟩) hbl).trans c1
      have i0 : (0 : Int) ≤ (k : Int) := by omega
      have i1 : (k : Int) < (n : Int) := by omega
      have hs := find_step HW.out hlt
      clear c0 c1 HK HW
      cases a : has (rs k).1 (rs k).2 key
      · rw [a, if_neg Bool.false_ne_true] at hs
        have C := refHas_is (rs k).1 (rs k).2 key _ a
        have HS := Lib.hid hs
        clear hs a
        go_wp2_with (go_at_call 20; refine (C _).mono ?_; rintro e x1 ⟨rfl, hx1⟩)
        go_roundw
        case rel => exact ⟨k + 1, by omega, by go_num, Lib.hid HS.out.symm, after hE hx1⟩
        case measure => simp [intOf]; omega
      · rw [a, if_pos rfl] at hs
        have C := refHas_is (rs k).1 (rs k).2 key _ a
        have HS := Lib.hid hs
        clear hs a
        go_wp2_with (go_at_call 20; refine (C _).mono ?_; rintro e x1 ⟨rfl, hx1⟩)
        go_ret2
        exact ⟨by rw [HS.out]; rfl, after hE hx1⟩
    · obtain rfl : k = n := by omega
      have hs := HW.out
      rw [Nat.sub_self] at hs
      have HS := Lib.hid hs
      clear hs HW
      go_wp2
      go_ret2
      exact ⟨by rw [← HS.out]; rfl, hE⟩

theorem within_is (lo hi key : ByteArray) (v : Bool) (h : has lo hi key = v) (w : World) :
    Calls Try.prog 28 #[.agg #[.string key], .agg #[.string lo, .string hi]] w fun e w' => e = .returned (.bool v) ∧ Below w.heap.size w w' := by
  have C := has_is lo hi key v h
  clear h
  go_enter Try.func28, Try.ntmps28
  go_wp2_with (go_at_call 10; refine (C _).mono ?_; rintro e x1 ⟨rfl, hx1⟩)
  go_ret
  exact ⟨rfl, after (box (box1 _ _) _) hx1⟩

theorem findF_false {rs : Nat → ByteArray × ByteArray} {key : ByteArray} : ∀ (f i : Nat), ((findF rs key f i).2 = false → findF rs key f i = (0, false)) ∧ ((findF rs key f i).2 = true → ∃ j : Nat, i ≤ j ∧ j < i + f ∧ findF rs key f i = ((j : Int), true) ∧ has (rs j).1 (rs j).2 key = true ∧ ∀ c, i ≤ c → c < j → has (rs c).1 (rs c).2 key = false)
  | 0, _ => ⟨fun _ => rfl, fun h => by cases h⟩
  | f + 1, i => by
    unfold findF
    cases a : has (rs i).1 (rs i).2 key
    · rw [if_neg Bool.false_ne_true]
      refine ⟨(findF_false f (i + 1)).1, fun h => ?_⟩
      obtain ⟨j, h1, h2, h3, h4, h5⟩ := (findF_false f (i + 1)).2 h
      refine ⟨j, by omega, by omega, h3, h4, fun c hc hj => ?_⟩
      by_cases e : c = i
      · rw [e]; exact a
      · exact h5 c (by omega) hj
    · rw [if_pos rfl]
      exact ⟨(fun h => by cases h), fun _ => ⟨i, Nat.le_refl _, by omega, rfl, a, fun c h1 h2 => absurd h1 (by omega)⟩⟩

def idx (rs : Nat → ByteArray × ByteArray) (n : Nat) (key : ByteArray) : Int := if (find rs n key).2 then (find rs n key).1 else -1

set_option maxRecDepth 100000 in
set_option maxHeartbeats 4000000 in
theorem index_any (A : Option Addr) (n cap : Nat) (rs : Nat → ByteArray × ByteArray) (key : ByteArray) (hn : n ≤ 9223372036854775807) (w : World) (hk : RangesAt w w.heap.size A n rs) :
    Calls Try.prog 27 #[.slice A n cap, .func (Fn.func 28) #[.agg #[.string key]] #[]] w fun e w' => e = .returned (.int .i64 (idx rs n key)) ∧ Below w.heap.size w w' := by
  have HK := Lib.hid hk
  clear hk
  go_enter Try.func27, Try.ntmps27
  go_wp2
  go_loopw [8] (fun i wr => ∃ (k : Nat), k ≤ n ∧ i = .int .i64 k ∧ Hid (findF rs key (n - k) k = find rs n key) ∧ Below w.heap.size w wr) (fun i _ => n - (intOf i).toNat)
  case atStart => exact ⟨0, Nat.zero_le _, rfl, Lib.hid rfl, Below.refl _ _⟩
  case round =>
    rename_i wr
    obtain ⟨k, hk, rfl, HW, hE⟩ := hrel
    by_cases hlt : k < n
    · obtain ⟨b0, off, rfl, hbl, c0, c1⟩ := HK.out k hlt
      have d0 := (hE.cell (p := ⟨b0, off + k * 2, none⟩) hbl).trans c0
      have d1 := (hE.cell (p := ⟨b0, off + k * 2 + 1, none⟩) hbl).trans c1
      have i0 : (0 : Int) ≤ (k : Int) := by omega
      have i1 : (k : Int) < (n : Int) := by omega
      have hs := find_step HW.out hlt
      clear c0 c1 HK HW
      cases a : has (rs k).1 (rs k).2 key
      · rw [a, if_neg Bool.false_ne_true] at hs
        have C := within_is (rs k).1 (rs k).2 key _ a
        have HS := Lib.hid hs
        clear hs a
        go_wp2_with (go_at_call 28; refine (C _).mono ?_; rintro e x1 ⟨rfl, hx1⟩)
        go_roundw
        case rel => exact ⟨k + 1, by omega, by go_num, Lib.hid HS.out.symm, after hE hx1⟩
        case measure => simp [intOf]; omega
      · rw [a, if_pos rfl] at hs
        have C := within_is (rs k).1 (rs k).2 key _ a
        have HS : Hid (idx rs n key = (k : Int)) := by show idx rs n key = _; unfold idx; rw [hs]; rfl
        clear hs a
        go_wp2_with (go_at_call 28; refine (C _).mono ?_; rintro e x1 ⟨rfl, hx1⟩)
        go_ret
        exact ⟨by rw [HS.out]; rfl, after hE hx1⟩
    · obtain rfl : k = n := by omega
      have hs := HW.out
      rw [Nat.sub_self] at hs
      have HS : Hid (idx rs k key = -1) := by show idx rs k key = _; unfold idx; rw [← hs]; rfl
      clear hs HW
      go_wp2
      go_ret
      exact ⟨by rw [HS.out]; rfl, hE⟩

theorem find_any (A : Option Addr) (n cap : Nat) (rs : Nat → ByteArray × ByteArray) (key : ByteArray) (hn : n ≤ 9223372036854775807) (w : World) (hk : RangesAt w w.heap.size A n rs) :
    Calls Try.prog 22 #[.slice A n cap, .string key] w fun e w' => e = .returned (.tuple #[.int .i64 (find rs n key).1, .bool (find rs n key).2]) ∧ Below w.heap.size w w' := by
  have I := index_any A n cap rs key hn w hk
  clear hk
  cases a : (find rs n key).2
  · have h1 := (findF_false (rs := rs) (key := key) n 0).1 a
    have e1 : idx rs n key = -1 := by unfold idx; rw [a]; rfl
    have HS : Hid ((find rs n key).1 = 0) := by show (findF rs key n 0).1 = 0; rw [h1]
    rw [e1] at I
    clear a h1 e1
    go_enter Try.func22, Try.ntmps22
    go_wp2_with (go_at_call 27; refine I.mono ?_; rintro e x1 ⟨rfl, hx1⟩)
    go_ret2
    exact ⟨by rw [HS.out]; rfl, hx1⟩
  · obtain ⟨j, _, _, h3, _⟩ := (findF_false (rs := rs) (key := key) n 0).2 a
    have e1 : idx rs n key = (j : Int) := by unfold idx; rw [a, if_pos rfl]; show (findF rs key n 0).1 = _; rw [h3]
    have HS : Hid ((find rs n key).1 = (j : Int)) := by show (findF rs key n 0).1 = _; rw [h3]
    have i0 : (0 : Int) ≤ (j : Int) := by omega
    rw [e1] at I
    clear a h3 e1
    go_enter Try.func22, Try.ntmps22
    go_wp2_with (go_at_call 27; refine I.mono ?_; rintro e x1 ⟨rfl, hx1⟩)
    go_ret2

    exact ⟨by rw [HS.out]; rfl, hx1⟩
end Go.Proofs.Ytkceakoacmjkgaa
