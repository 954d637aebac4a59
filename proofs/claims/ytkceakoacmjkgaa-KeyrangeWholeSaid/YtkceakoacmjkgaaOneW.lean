/-
  KeyrangeWhole: the law's own walk.
-/
import Derived.Test.YtkceakoacmjkgaaOneOf
namespace Go.Proofs.Ytkceakoacmjkgaa
open Go.RowKit Go.BigFrame

set_option maxRecDepth 100000 in
set_option maxHeartbeats 4000000 in
theorem one_no (A : Option Addr) (n cap : Nat) (rs : Nat → ByteArray × ByteArray) (key k : ByteArray) (hn : n ≤ 9223372036854775807) (w : World) (hr : RangesAt w w.heap.size A n rs) (h : ((whole rs n).1 == 0) = false ∨ ((whole rs n).1 = 0 ∧ ¬ key.size ≤ 32)) :
    Calls Try.prog 7 #[.slice A n cap, .string key, .string k] w (Yes w) := by
  have L := lives_yes
  have W1 := fun (x : World) (hx : Below w.heap.size w x) => whole_any A n cap rs hn x (ranges_below hr hx hx.size)
  generalize (whole rs n).1 = we at *
  generalize (whole rs n).2 = wa at *
  clear hr
  rcases h with h | ⟨rfl, h⟩
  · have h2 : (we != 0) = true := by simp only [bne, h]; rfl
    go_enter Try.func7, Try.ntmps7
    go_wp2_with (first | (go_at_call 9; refine (L _).mono ?_; rintro e w1 ⟨rfl, hB1⟩) | (go_at_call 14; refine (W1 _ hB1).mono ?_; rintro e w2 ⟨rfl, hb2⟩; have hB2 := after hB1 hb2; clear hb2))
    go_ret
    exact ⟨rfl, hB2⟩
  · have h2 : (32 : Int) < (key.size : Int) := by omega
    go_enter Try.func7, Try.ntmps7
    go_wp2_with (first | (go_at_call 9; refine (L _).mono ?_; rintro e w1 ⟨rfl, hB1⟩) | (go_at_call 14; refine (W1 _ hB1).mono ?_; rintro e w2 ⟨rfl, hb2⟩; have hB2 := after hB1 hb2; clear hb2))
    go_ret
    exact ⟨rfl, hB2⟩

theorem ranges_tail {W x : World} {b0 off n j : Nat} {rs : Nat → ByteArray × ByteArray} (h : RangesAt W W.heap.size (some ⟨b0, off, none⟩) n rs) (hx : Below W.heap.size W x) : RangesAt x x.heap.size (some ⟨b0, off + (j + 1) * 2, none⟩) (n - (j + 1)) (fun i => rs (i + (j + 1))) := by
  intro i hi
  obtain ⟨b, o, e, hlt, c0, c1⟩ := ranges_below h hx hx.size (i + (j + 1)) (by omega)
  cases e
  refine ⟨_, _, rfl, hlt, ?_, ?_⟩
  · rw [show off + (j + 1) * 2 + i * 2 = off + (i + (j + 1)) * 2 by omega]; exact c0
  · rw [show off + (j + 1) * 2 + i * 2 + 1 = off + (i + (j + 1)) * 2 + 1 by omega]; exact c1

theorem ranges_tail2 {W x : World} {b0 off n j : Nat} {A3 : Option Addr} {rs : Nat → ByteArray × ByteArray} (h : RangesAt W W.heap.size (some ⟨b0, off, none⟩) n rs) (h3 : A3 = some ⟨b0, off + (j + 1) * 2, none⟩ ∨ n = j + 1) (hx : Below W.heap.size W x) : RangesAt x x.heap.size A3 (n - (j + 1)) (fun i => rs (i + (j + 1))) := by
  rcases h3 with rfl | rfl
  · exact ranges_tail h hx
  · exact fun i hi => absurd hi (by omega)
theorem tail_slice (b0 off n cap j : Nat) (hj : j < n) (hcap : n ≤ cap) : ∃ A3, (A3 = some ⟨b0, off + (j + 1) * 2, none⟩ ∨ n = j + 1) ∧
    ∀ W, (Instr.slice 35 (.slice (some ⟨b0, off, none⟩) n cap) (some (.int .i64 ((j : Int) + 1))) none none).run Try.prog W = .ok (.slice A3 (n - (j + 1)) (cap - (j + 1))) W := by
  have u := Try.underlying35
  by_cases h : cap = j + 1
  · refine ⟨some ⟨b0, off, none⟩, .inr (by omega), fun W => ?_⟩
    have e : n = j + 1 := by omega
    subst h
    subst e
    have h1 : (0 : Int) ≤ (j : Int) + 1 := by omega
    go_simp
    try (intro hh; omega)
  · refine ⟨some ⟨b0, off + (j + 1) * 2, none⟩, .inl rfl, fun W => ?_⟩
    have h1 : (0 : Int) ≤ (j : Int) + 1 := by omega
    have h2 : (j : Int) + 1 ≤ (n : Int) := by omega
    have h3 : (n : Int) ≤ (cap : Int) := by omega
    go_simp

theorem ranges_lit (w : World) (t : TypeId) (a b c d : ByteArray) : RangesAt (w.alloc (.cells #[.string a, .string b, .string c, .string d] t)) (w.alloc (.cells #[.string a, .string b, .string c, .string d] t)).heap.size (some ⟨w.heap.size, 0, none⟩) 2 (fun i => if i = 0 then (a, b) else (c, d)) := by
  intro i hi
  refine ⟨_, _, rfl, by simp, ?_, ?_⟩
  · match i, hi with
    | 0, _ => simp [go_sem]
    | 1, _ => simp [go_sem]
  · match i, hi with
    | 0, _ => simp [go_sem]
    | 1, _ => simp [go_sem]

set_option maxRecDepth 100000 in
set_option maxHeartbeats 8000000 in
theorem one_yes (A : Option Addr) (n cap : Nat) (rs : Nat → ByteArray × ByteArray) (key k : ByteArray) (hn : n * 32 ≤ 140737488351232) (hcap : n ≤ cap) (w : World) (hr : RangesAt w w.heap.size A n rs) (hw : (whole rs n).1 = 0) (hs : key.size ≤ 32) :
    Calls Try.prog 7 #[.slice A n cap, .string key, .string k] w (Yes w) := by
  obtain ⟨i0, hi, hz0, hz1, hz2⟩ := info_parts info_range
  obtain ⟨j, hj, hf, hh⟩ := whole_find hw hs
  have L := lives_yes
  have W1 := fun (x : World) (hx : Below w.heap.size w x) => whole_any A n cap rs (by omega) x (ranges_below hr hx hx.size)
  have F1 := fun (x : World) (hx : Below w.heap.size w x) => find_any A n cap rs key (by omega) x (ranges_below hr hx hx.size)
  rw [hf] at F1
  have HW := Lib.hid hw
  rw [hw] at W1
  generalize (whole rs n).2 = wa at *
  have HR := Lib.hid hr
  have HH := Lib.hid hh
  clear hr hh hf hw
  have j0 : (0 : Int) ≤ (j : Int) := by omega
  have j1 : (j : Int) < (n : Int) := by omega
  have s1 : (key.size : Int) ≤ 32 := by omega
  have t1 : decide ((32 : Int) < (key.size : Int)) = false := by first | (simp; done) | (simp; omega)
  have t2 : decide ((j : Int) < 0) = false := by first | (simp; done) | (simp; omega)
  have t3 : decide (n ≤ j) = false := by first | (simp; done) | (simp; omega)
  go_enter Try.func7, Try.ntmps7
  go_wp2_with (first | (go_at_call 9; refine (L _).mono ?_; rintro e w1 ⟨rfl, hB1⟩) | (go_at_call 14; refine (W1 _ hB1).mono ?_; rintro e w2 ⟨rfl, hb2⟩; have hB2 := after hB1 hb2; clear hb2) | (go_at_call 22; refine (F1 _ hB2).mono ?_; rintro e w3 ⟨rfl, hb3⟩; have hB3 := after hB2 hb3; clear hb3))
  go_loopw [12] (fun i wr => ∃ c : Nat, c ≤ n ∧ i = .int .i64 c ∧ Below w.heap.size w wr) (fun i _ => n - (intOf i).toNat)
  case atStart => exact ⟨0, Nat.zero_le _, rfl, hB3⟩
  case round =>
    rename_i wr
    obtain ⟨c, hc, rfl, hB⟩ := hrel
    clear hB3
    by_cases hlt : c < n
    · obtain ⟨b0, off, rfl, hbl, c0, c1⟩ := HR.out c hlt
      have d0 := (hB.cell (p := ⟨b0, off + c * 2, none⟩) hbl).trans c0
      have d1 := (hB.cell (p := ⟨b0, off + c * 2 + 1, none⟩) hbl).trans c1
      have i1 : (0 : Int) ≤ (c : Int) := by omega
      have i2 : (c : Int) < (n : Int) := by omega
      have C := has_is (rs c).1 (rs c).2 key _ (HH.out c hlt)
      clear c0 c1
      by_cases e : c = j
      · have e2 : ((c : Int) == (j : Int)) = true := by rw [beq_iff_eq]; omega
        rw [decide_eq_true e] at C
        clear e
        go_wp2_with (go_at_call 10; refine (C _).mono ?_; rintro e x1 ⟨rfl, hx1⟩)
        go_roundw
        case rel => exact ⟨c + 1, by omega, by go_num, after hB hx1⟩
        case measure => simp [intOf]; omega
      · have e2 : ((c : Int) == (j : Int)) = false := by rw [beq_eq_false_iff_ne]; omega
        rw [decide_eq_false e] at C
        clear e
        go_wp2_with (go_at_call 10; refine (C _).mono ?_; rintro e x1 ⟨rfl, hx1⟩)
        go_roundw
        case rel => exact ⟨c + 1, by omega, by go_num, after hB hx1⟩
        case measure => simp [intOf]; omega
    · obtain ⟨b0, off, rfl, hbl, c0, c1⟩ := HR.out j hj
      have d0 := (hB.cell (p := ⟨b0, off + j * 2, none⟩) hbl).trans c0
      have d1 := (hB.cell (p := ⟨b0, off + j * 2 + 1, none⟩) hbl).trans c1
      clear c0 c1 HH
      cases hE : splitE (rs j).1 (rs j).2 k == 0
      · have S := split_no (rs j).1 (rs j).2 k _ rfl hE
        have h2 : (splitE (rs j).1 (rs j).2 k != 0) = true := by simp only [bne, hE]; rfl
        unfold noRange at S
        generalize splitE (rs j).1 (rs j).2 k = m at *
        go_wp2_with (go_at_call 11; refine (S _).mono ?_; rintro e w5 ⟨rfl, hb5⟩; have hB5 := after hB hb5)
        go_ret
        exact ⟨rfl, box (box hB5 _) _⟩
      · simp only [beq_iff_eq] at hE
        have S := split_yes (rs j).1 (rs j).2 k hE
        have HE := Lib.hid hE
        clear hE
        have tokA := trivial
        obtain ⟨A3, hA3, hsl⟩ := tail_slice b0 off n cap j hj hcap
        have HR3 := Lib.hid (fun (x : World) (hx : Below w.heap.size w x) => ranges_tail2 HR.out hA3 hx)
        clear hA3
        go_wp2_with (first
        | (go_at_call 11; refine (S _).mono ?_; rintro e w5 ⟨rfl, hb5⟩; have hB5 := after hB hb5)
        | (at_builtin
           have hr3 := reads_ranges (HR3.out w7 hB7)
           refine wpList_append_any _ rfl (.tmp 92) (.tmp 96) _ rfl (w5.heap.size + 2) 24 i0 _ 2 32 Try.underlying35 hi hz0 hz1 hz2 rfl (by omega) v2 (0 + j + 2) ([] ++ rcells rs j ++ [.string (rs j).1, .string k, .string k, .string (rs j).2]) rfl hown2 _ A3 (n - (j + 1)) (cap - (j + 1)) (rcells (fun i => rs (i + (j + 1))) (n - (j + 1))) rfl hr3 (rcells_one _ _) (by unfold maxLen; omega) (by omega) (by have := hB7.size; have := hb7.size; omega) ?_
           intro v3 w8 hown3 hg3 hat3
           have hb8 : Below (w5.heap.size + 2) w7 w8 := (Below.refl _ _).grown hg3 (by have := hb7.size; omega) (fun q hq => (hown2.lt q hq).1)
           have hB8 := hB7.trans (hb8.mono (by have := hB5.size; omega))
           obtain ⟨A4, cap4, rfl, hr4⟩ := ranges_own (n := n + 1) (rs := cutAt rs j k) (by rw [rcells_cut _ _ _ _ hj]; rw [show n + 1 = 0 + j + 2 + (n - (j + 1)) by omega]; simpa [show n - (j + 1) = (n - (j + 1)) by omega] using hown3)
           have W4 := whole_any A4 (n + 1) cap4 (cutAt rs j k) (by omega) w8 hr4
           rw [whole_cut hj HW.out HE.out] at W4
           generalize (whole (cutAt rs j k) (n + 1)).2 = wb at *
           clear hown2 hr3 hg3 hat3 hb8 hr4)
        | (at_builtin
           have hr2 := reads_ranges (ranges_lit w6 24 (rs j).1 k k (rs j).2)
           have tok2 := x0
           refine wpList_append_any _ rfl (.tmp 87) (.tmp 90) _ rfl (w5.heap.size + 2) 24 i0 _ 2 32 Try.underlying35 hi hz0 hz1 hz2 rfl (by omega) v1 (0 + j) ([] ++ rcells rs j) rfl (hown1.alloc _) _ (some ⟨w6.heap.size, 0, none⟩) 2 2 [.string (rs j).1, .string k, .string k, .string (rs j).2] rfl hr2 (rcells_one (fun i => if i = 0 then ((rs j).1, k) else (k, (rs j).2)) 2) (by unfold maxLen; omega) (by omega) (by simp; omega) ?_
           intro v2 w7 hown2 hg2 hat2
           have hb7 : Below (w5.heap.size + 2) w6 w7 := ((Below.refl _ _).alloc (by omega) (.cells #[.string (rs j).1, .string k, .string k, .string (rs j).2] 24)).grown hg2 (by simp; omega) (fun q hq => (hown1.lt q hq).1)
           have hB7 := hB6.trans (hb7.mono (by have := hB5.size; omega))
           clear hown1 hr2 tok2 hg2 hat2 x0 x1 x2 x3)
        | (at_builtin
           have _t := tokA
           have own0 : (((w5.alloc (.cells #[.string (rs j).1, .string k] 24)).alloc (.cells #[.string k, .string (rs j).2] 24)).alloc (.cells #[] 24)).ownsRow (w5.heap.size + 2) 24 2 (.slice (some ⟨w5.heap.size + 1 + 1, 0, none⟩) 0 0) 0 [] := (by have := World.ownsRow_lit (base := w5.heap.size + 2) (e := 24) (size := 2) ((w5.alloc (.cells #[.string (rs j).1, .string k] 24)).alloc (.cells #[.string k, .string (rs j).2] 24)) #[] 0 (by simp) (by unfold maxLen; omega) rfl; simpa using this)
           have hr1 := reads_ranges (n := j) (ranges_below (fun i hi => HR.out i (Nat.lt_trans hi hj)) (box (box (box hB5 (.cells #[.string (rs j).1, .string k] 24)) (.cells #[.string k, .string (rs j).2] 24)) (.cells #[] 24)) (box (box (box hB5 (.cells #[.string (rs j).1, .string k] 24)) (.cells #[.string k, .string (rs j).2] 24)) (.cells #[] 24)).size)
           refine wpList_append_any _ rfl (.tmp 82) (.tmp 85) _ rfl (w5.heap.size + 2) 24 i0 _ 2 32 Try.underlying35 hi hz0 hz1 hz2 rfl (by omega) (.slice (some ⟨w5.heap.size + 1 + 1, 0, none⟩) 0 0) 0 [] rfl own0 _ (some ⟨b0, off, none⟩) j _ (rcells rs j) rfl hr1 (rcells_one rs j) (by unfold maxLen; omega) (by omega) (by simp) ?_
           intro v1 w6 hown1 hg1 hat1
           have hb6 : Below (w5.heap.size + 2) (((w5.alloc (.cells #[.string (rs j).1, .string k] 24)).alloc (.cells #[.string k, .string (rs j).2] 24)).alloc (.cells #[] 24)) w6 := (Below.refl _ _).grown hg1 (by simp) (by simp [Value.ownBlock])
           have hz6 : w5.heap.size + 2 < w6.heap.size := (by have := hg1.size; simp at this; omega)
           have x0 : w6.cell? ⟨w5.heap.size, 0, none⟩ = some (.string (rs j).1) := (hb6.cell (p := ⟨w5.heap.size, 0, none⟩) (by simp)).trans (by simp [go_sem])
           have x1 : w6.cell? ⟨w5.heap.size, 1, none⟩ = some (.string k) := (hb6.cell (p := ⟨w5.heap.size, 1, none⟩) (by simp)).trans (by simp [go_sem])
           have x2 : w6.cell? ⟨w5.heap.size + 1, 0, none⟩ = some (.string k) := (hb6.cell (p := ⟨w5.heap.size + 1, 0, none⟩) (by simp)).trans (by simp [go_sem])
           have x3 : w6.cell? ⟨w5.heap.size + 1, 1, none⟩ = some (.string (rs j).2) := (hb6.cell (p := ⟨w5.heap.size + 1, 1, none⟩) (by simp)).trans (by simp [go_sem])
           have hB6 := (box (box (box hB5 (.cells #[.string (rs j).1, .string k] 24)) (.cells #[.string k, .string (rs j).2] 24)) (.cells #[] 24)).trans (hb6.mono (by have := hB5.size; omega))
           clear own0 hr1 hg1 hat1 hb6 _t tokA)
        | (go_at_call 14; refine W4.mono ?_; rintro e w9 ⟨rfl, hb9⟩))
        go_ret
        exact ⟨rfl, after hB8 hb9⟩

theorem one_walk (A : Option Addr) (n cap : Nat) (rs : Nat → ByteArray × ByteArray) (key k : ByteArray) (hn : n * 32 ≤ 140737488351232) (hcap : n ≤ cap) (w : World) (hr : RangesAt w w.heap.size A n rs) :
    Calls Try.prog 7 #[.slice A n cap, .string key, .string k] w (Yes w) := by
  cases h : (whole rs n).1 == 0
  · exact one_no A n cap rs key k (by omega) w hr (.inl h)
  · simp only [beq_iff_eq] at h
    by_cases g : key.size ≤ 32
    · exact one_yes A n cap rs key k hn hcap w hr h g
    · exact one_no A n cap rs key k (by omega) w hr (.inr ⟨h, g⟩)
end Go.Proofs.Ytkceakoacmjkgaa
