/-
  raftlog.Conf: a loop over slices.Backward that leaves at the last change.
-/
import Derived.RangeFuncNested
import Derived.RangeFuncBound
import Derived.RangeFuncCalls
import Derived.Shelf.RegionOpen
import Derived.Test.YtdblllnnccaccaaBwA
namespace Go.Proofs.Ytdblllnnccaccaa
open Go.RowKit Go.Shelf
attribute [local go_sem] Oper.semAt_some
theorem blk_own {β : Type} (B : Nat) (f : β → Obj) (hf : ∀ s, (f s).isCells = true) : Own (fun s W => W.heap[B]? = some (f s)) := fun s X Y row hs hg hr => by
  refine (hg.block B (Array.getElem?_eq_some_iff.1 hs).1 (fun e => ?_)).trans hs
  obtain ⟨o, ho, hn⟩ := hr B e.symm
  rw [show X.heap[B]? = _ from hs] at ho
  cases ho
  rw [hf s] at hn
  cases hn
theorem blk_alloc {W : World} {B : Nat} {o : Obj} (h : W.heap[B]? = some o) (p : Obj) : (W.alloc p).heap[B]? = some o :=
  (Below.heap_alloc W p B (Array.getElem?_eq_some_iff.1 h).1).trans h
def CellsFrom (n : Nat) (A B : World) : Prop := ∀ g o, n ≤ g → A.heap[g]? = some o → o.isCells = true → B.heap[g]? = some o
theorem CellsFrom.own {β : Type} (n : Nat) (A : World) : Own (fun (_ : β) W => CellsFrom n A W) := fun _ X Y row hs hg hr g o hn ho hc => by
  have h1 := hs g o hn ho hc
  refine (hg.block g (Array.getElem?_eq_some_iff.1 h1).1 (fun e => ?_)).trans h1
  obtain ⟨o', ho', hn'⟩ := hr g e.symm
  rw [h1] at ho'
  cases ho'
  rw [hc] at hn'
  cases hn'
def BoxAt (W : World) (B : Nat) (t : TypeId) (cs : Array Value) : Prop := W.heap[B]? = some (.cells cs t (0, 0))
theorem BoxAt.cell {W : World} {B : Nat} {t : TypeId} {cs : Array Value} (h : BoxAt W B t cs) (j : Nat) (hj : j < cs.size) : W.cell? ⟨B, j, none⟩ = some (cs.getD j undef) := by
  simp [World.cell?, show W.heap[B]? = _ from h, Array.getD_eq_getD_getElem?, hj]
theorem BoxAt.frozen {W : World} {B : Nat} {t : TypeId} {cs : Array Value} (h : BoxAt W B t cs) (j : Nat) : W.frozen? ⟨B, j, none⟩ = false := by
  simp [World.frozen?, show W.heap[B]? = _ from h]
theorem BoxAt.below {n : Nat} {A B : World} {g : Nat} {t : TypeId} {cs : Array Value} (h : BoxAt A g t cs) (hb : Below n A B) (hg : g < n) : BoxAt B g t cs := (hb.block g hg).trans h
theorem heap_set {W : World} {B j : Nat} {v : Value} {g : Nat} (h : B ≠ g) : (W.setCell ⟨B, j, none⟩ v).heap[g]? = W.heap[g]? := by
  show (W.heap.modify B _)[g]? = _
  rw [Array.getElem?_modify, if_neg h]
theorem BoxAt.set {W : World} {B : Nat} {t : TypeId} {cs : Array Value} (h : BoxAt W B t cs) (j : Nat) (v : Value) : BoxAt (W.setCell ⟨B, j, none⟩ v) B t (cs.setIfInBounds j v) := by
  show (W.heap.modify B _)[B]? = _
  rw [Array.getElem?_modify, if_pos rfl, show W.heap[B]? = _ from h]
  rfl
theorem BoxAt.other {W : World} {B : Nat} {t : TypeId} {cs : Array Value} (h : BoxAt W B t cs) {B' : Nat} (hn : B' ≠ B) (j : Nat) (v : Value) : BoxAt (W.setCell ⟨B', j, none⟩ v) B t cs := (heap_set hn).trans h
theorem CellsFrom.refl (n : Nat) (A : World) : CellsFrom n A A := fun _ _ _ h _ => h
theorem CellsFrom.set {n : Nat} {A B : World} (h : CellsFrom n A B) {b : Nat} (hb : b < n) (j : Nat) (v : Value) : CellsFrom n A (B.setCell ⟨b, j, none⟩ v) := fun g o hn ho hc => (heap_set (by omega)).trans (h g o hn ho hc)
theorem blk_put {W : World} {B D : Nat} {t : TypeId} {cs : Array Value} {ds : Option (List Deferred)} {o : Obj} (h : BoxAt W B t cs) (hK : W.heap[D]? = some (.deferred ds)) : BoxAt (W.putObj D o) B t cs := by
  have hn : D ≠ B := fun e => by subst e; rw [show W.heap[D]? = _ from h] at hK; cases hK
  show (W.putObj D o).heap[B]? = _
  refine ((grownBy_putObj' W D o).block B (Array.getElem?_eq_some_iff.1 (show W.heap[B]? = _ from h)).1 (fun e => hn (Option.some.inj e).symm)).trans h
theorem CellsFrom.put {n : Nat} {A W : World} {D : Nat} {ds : Option (List Deferred)} {o : Obj} (h : CellsFrom n A W) (hK : W.heap[D]? = some (.deferred ds)) : CellsFrom n A (W.putObj D o) := fun g p hn ho hc => by
  have h1 := h g p hn ho hc
  have hne : D ≠ g := fun e => by subst e; rw [h1] at hK; cases hK; cases hc
  exact ((grownBy_putObj' W D o).block g (Array.getElem?_eq_some_iff.1 h1).1 (fun e => hne (Option.some.inj e).symm)).trans h1
theorem bwD_mem {len : Nat} (x : Fin len) : x ∈ bwD len := by
  unfold bwD
  rw [List.mem_ofFn]
  exact ⟨⟨len - 1 - x.1, by have := x.2; omega⟩, by ext; have := x.2; show len - 1 - (len - 1 - x.1) = x.1; omega⟩
theorem bwD_at {len k : Nat} (h : k < (bwD len).length) : ((bwD len)[k]).1 = len - 1 - k := by simp [bwD]
theorem bwD_ahead {len k : Nat} {pre q : List (Fin len)} {j : Fin len} {kd : Nat → Int} (hpre : pre = (bwD len).take k) (hq : pre = q ++ [j]) (hk : k ≤ len) (h : ∀ x ∈ q, kd x.1 ≠ 3) : ∀ i, j.1 < i → i < len → kd i ≠ 3 := fun i h1 h2 => by
  have hl : q.length + 1 = k := by
    have := congrArg List.length (hq.symm.trans hpre)
    rw [List.length_append, List.length_take, bwD_len] at this
    simp only [List.length_singleton] at this
    omega
  have hj : j.1 = len - 1 - q.length := by
    have e : ((bwD len).take k)[q.length]? = some j := by
      rw [← hpre, hq, List.getElem?_append_right (Nat.le_refl _), Nat.sub_self]; rfl
    rw [List.getElem?_take, if_pos (by omega)] at e
    obtain ⟨p, e⟩ := List.getElem?_eq_some_iff.1 e
    rw [← e, bwD_at]
  have hm : (⟨i, h2⟩ : Fin len) ∈ q := by
    have hi : len - 1 - i < q.length := by have := j.2; omega
    have e : ((bwD len).take k)[len - 1 - i]? = some ⟨i, h2⟩ := by
      rw [List.getElem?_take, if_pos (by omega), List.getElem?_eq_getElem (by rw [bwD_len]; omega)]
      congr 1
      ext
      rw [bwD_at]
      show len - 1 - (len - 1 - i) = i
      omega
    rw [← hpre, hq, List.getElem?_append_left hi] at e
    exact List.mem_of_getElem? e
  exact h _ hm
theorem cf_res (tmps : Array Value) (W : World) (B C : Nat) (x y i : Value) (h2 : tmps.getD 2 undef = .pointer (some ⟨B, 0, none⟩)) (h3 : tmps.getD 3 undef = .pointer (some ⟨C, 0, none⟩)) (b2 : BoxAt W B 25 #[x, y]) (b3 : BoxAt W C 22 #[i]) :
    (results Try.f23 tmps).run Try.prog W = .ok (.tuple #[.agg #[x, y], i]) W := by
  have c0 : W.cell? ⟨B, 0, none⟩ = some x := b2.cell 0 (by simp)
  have c1 : W.cell? ⟨B, 1, none⟩ = some y := b2.cell 1 (by simp)
  have c2 : W.cell? ⟨C, 0, none⟩ = some i := b3.cell 0 (by simp)
  rw [Array.getD_eq_getD_getElem?] at h2 h3
  simp only [results, show (Try.f23).results = #[.cell 2 25, .cell 3 22] from rfl]
  go_simp
set_option maxRecDepth 100000 in
set_option maxHeartbeats 2000000 in
theorem cf_walk (ok : Option Nat → World → Prop) (R : Option Nat → World → Value → Value → World → Prop) (c0 c1 c2 c3 c4 sv : Value) (len : Nat) (cs : Nat → Nat → Value) (kd ix : Nat → Int) (hreach : len ≤ 140737488351232) (w : World) (hI : BwS w.heap.size w sv len cs)
    (hk : ∀ j, j < len → cs j 2 = .int .i64 (kd j)) (hx : ∀ j, j < len → cs j 0 = .int .u64 (ix j))
    (hsh : ∀ j, j < len → ∃ (t : Int) (a3 : Option Addr) (n3 m3 : Nat) (a4 : Option Addr) (n4 m4 : Nat) (a5 : Option Addr) (n5 m5 : Nat), cs j 1 = .int .u64 t ∧ cs j 3 = .slice a3 n3 m3 ∧ cs j 4 = .slice a4 n4 m4 ∧ cs j 5 = .slice a5 n5 m5)
    (hC0 : ∀ W, ok none W → Calls Try.prog 45 #[.agg #[c2, c3]] W fun e W' => ∃ xa xn xc ya yn yc, e = .returned (.agg #[.slice xa xn xc, .slice ya yn yc]) ∧ Below W.heap.size W W' ∧ R none W (.slice xa xn xc) (.slice ya yn yc) W')
    (hCj : ∀ j W, j < len → ok (some j) W → Calls Try.prog 45 #[.agg #[cs j 4, cs j 5]] W fun e W' => ∃ xa xn xc ya yn yc, e = .returned (.agg #[.slice xa xn xc, .slice ya yn yc]) ∧ Below W.heap.size W W' ∧ R (some j) W (.slice xa xn xc) (.slice ya yn yc) W')
    (hok : (∀ k, k < len → kd k ≠ 3) → ∀ W, Below w.heap.size w W → ok none W) (hokj : ∀ j, j < len → kd j = 3 → ∀ W, Below w.heap.size w W → ok (some j) W) :
    Calls Try.prog 23 #[.agg #[c0, c1, c2, c3, c4, sv]] w fun e W' => ∃ W1 W2 x y i v, e = .returned (.tuple #[.agg #[x, y], .int .u64 i]) ∧ Below w.heap.size w W1 ∧ R v W1 x y W2 ∧ Below W1.heap.size W1 W2 ∧ CellsFrom W1.heap.size W2 W' ∧ Below w.heap.size w W' ∧
      ((∃ j, j < len ∧ kd j = 3 ∧ i = ix j ∧ v = some j ∧ ∀ k, j < k → k < len → kd k ≠ 3) ∨ (i = 0 ∧ v = none ∧ ∀ k, k < len → kd k ≠ 3)) := by
  refine (callsIn_wide (n := 4)).1 ?_
  obtain ⟨a, n, c, rfl⟩ : ∃ a n c, sv = .slice a n c := by
    rcases hI with ⟨⟨a, c, h⟩, _⟩ | ⟨b, off, cap, h, _⟩
    · exact ⟨_, _, _, h⟩
    · exact ⟨_, _, _, h⟩
  refine callsIn_of_wp_marks Try.func23 rfl trivial ?_ rfl
  simp only [Try.ntmps23, List.size_toArray, List.length_cons, List.length_nil, Nat.reduceAdd, Nat.reduceSub, Array.replicate_succ, Array.replicate_zero, List.push_toArray, List.append_toArray, List.nil_append, List.cons_append]
  gi_wp2_with (refine ⟨trivial, ?_⟩; gi_at_call 44; refine (bw_in _ _ trivial rfl _ _ _ _).mono ?_; rintro e w' ⟨rfl, rfl⟩)
  have k1 : BoxAt (((w.alloc (.cells #[c0, c1, c2, c3, c4, .slice a n c] 31)).alloc (.cells #[.slice none 0 0, .slice none 0 0] 25)).alloc (.cells #[.int .u64 0] 22)) w.heap.size 31 #[c0, c1, c2, c3, c4, .slice a n c] := blk_alloc (blk_alloc (World.alloc_heap_new w _) _) _
  have k2 : BoxAt (((w.alloc (.cells #[c0, c1, c2, c3, c4, .slice a n c] 31)).alloc (.cells #[.slice none 0 0, .slice none 0 0] 25)).alloc (.cells #[.int .u64 0] 22)) (w.heap.size + 1) 25 #[.slice none 0 0, .slice none 0 0] := blk_alloc (by have := World.alloc_heap_new (w.alloc (.cells #[c0, c1, c2, c3, c4, .slice a n c] 31)) (.cells #[.slice none 0 0, .slice none 0 0] 25); rwa [World.size_alloc] at this) _
  have k3 : BoxAt (((w.alloc (.cells #[c0, c1, c2, c3, c4, .slice a n c] 31)).alloc (.cells #[.slice none 0 0, .slice none 0 0] 25)).alloc (.cells #[.int .u64 0] 22)) (w.heap.size + 2) 22 #[.int .u64 0] := by have := World.alloc_heap_new ((w.alloc (.cells #[c0, c1, c2, c3, c4, .slice a n c] 31)).alloc (.cells #[.slice none 0 0, .slice none 0 0] 25)) (.cells #[.int .u64 0] 22); rwa [World.size_alloc, World.size_alloc] at this
  have hB3 : Below w.heap.size w (((w.alloc (.cells #[c0, c1, c2, c3, c4, .slice a n c] 31)).alloc (.cells #[.slice none 0 0, .slice none 0 0] 25)).alloc (.cells #[.int .u64 0] 22)) := (((Below.refl _ w).alloc (Nat.le_refl _) _).alloc (by simp) _).alloc (by simp; omega) _
  have hs3 : (((w.alloc (.cells #[c0, c1, c2, c3, c4, .slice a n c] 31)).alloc (.cells #[.slice none 0 0, .slice none 0 0] 25)).alloc (.cells #[.int .u64 0] 22)).heap.size = w.heap.size + 3 := by simp
  obtain ⟨X, hX⟩ : ∃ X, ((w.alloc (.cells #[c0, c1, c2, c3, c4, .slice a n c] 31)).alloc (.cells #[.slice none 0 0, .slice none 0 0] 25)).alloc (.cells #[.int .u64 0] 22) = X := ⟨_, rfl⟩
  rw [hX] at k1 k2 k3 hB3 hs3 ⊢
  clear hX
  have k4 : BoxAt (X.alloc (.cells #[.slice a n c] 29)) (w.heap.size + 3) 29 #[.slice a n c] := by rw [← hs3]; exact World.alloc_heap_new X _
  have k1 := blk_alloc k1 (.cells #[.slice a n c] 29)
  have k2 := blk_alloc k2 (.cells #[.slice a n c] 29)
  have k3 := blk_alloc k3 (.cells #[.slice a n c] 29)
  have hB0 : Below w.heap.size w (X.alloc (.cells #[.slice a n c] 29)) := hB3.alloc (by omega) _
  have hsz : (X.alloc (.cells #[.slice a n c] 29)).heap.size = w.heap.size + 4 := by simp; omega
  obtain ⟨W0, hW0⟩ : ∃ W0, X.alloc (.cells #[.slice a n c] 29) = W0 := ⟨_, rfl⟩
  rw [hW0] at k1 k2 k3 k4 hB0 hsz ⊢
  clear hW0 hB3 hs3
  have hI0 : BwS W0.heap.size W0 (.slice a n c) len cs := by
    rcases hI.below hB0 with h | ⟨b, off, cap, h, hb, hc⟩
    · exact .inl h
    · exact .inr ⟨b, off, cap, h, by omega, hc⟩
  refine wpIn_rangeFunc_ownH (by rfl) (by decide) (gf := 56) (lb := #[.pointer (some ⟨w.heap.size + 1 + 1 + 1, 0, none⟩)]) rfl trivial (enters_of Try.func56 (by kernel_rfl) rfl)
    (bw_stops _ _ trivial rfl (by decide) (w.heap.size + 1 + 1 + 1) W0.heap.size (.slice a n c) len cs hreach W0 (by omega) (Nat.le_refl _) (BoxAt.cell k4 0 Nat.zero_lt_one) hI0) belowK_t (belowK_b (by omega)) (Below.refl _ _) (fun _ => rfl)
    (fun pre W => (∀ x ∈ pre, kd x.1 ≠ 3) ∧ Below W0.heap.size W0 W)
    (fun c pre W => c = .ret ∧ ∃ (j : Fin len) (q : List (Fin len)), pre = q ++ [j] ∧ kd j.1 = 3 ∧ (∀ x ∈ q, kd x.1 ≠ 3) ∧ ∃ W1 W2 x y, Below w.heap.size w W1 ∧ R (some j.1) W1 x y W2 ∧ Below W1.heap.size W1 W2 ∧ CellsFrom W1.heap.size W2 W ∧ Below w.heap.size w W ∧ BoxAt W (w.heap.size + 1) 25 #[x, y] ∧ BoxAt W (w.heap.size + 2) 22 #[.int .u64 (ix j.1)])
    (fun s A B row hs hg hr => ⟨hs.1, ownFrom_below (β := Unit) (Nat.le_refl _) (Nat.le_refl _) () A B row hs.2 hg hr⟩)
    (fun c s A B row hs hg hr => by
      obtain ⟨rfl, j, q, q1, q2, q3, W1, W2, x, y, a1, a2, a3, a4, a5, a6, a7⟩ := hs
      exact ⟨rfl, j, q, q1, q2, q3, W1, W2, x, y, a1, a2, a3, CellsFrom.own (β := Unit) _ _ () A B row a4 hg (fun r e => (hr r e).2), ownFrom_below (β := Unit) (Nat.le_refl _) hB0.size () A B row a5 hg hr,
        blk_own (β := Unit) _ (fun _ => _) (fun _ => rfl) () A B row a6 hg (fun r e => (hr r e).2), blk_own (β := Unit) _ (fun _ => _) (fun _ => rfl) () A B row a7 hg (fun r e => (hr r e).2)⟩)
    ⟨nofun, Below.refl _ _⟩
    (fun x a' W => ∃ Bx, W0.heap.size ≤ Bx ∧ BoxAt W Bx 51 #[cs x.1 0, cs x.1 1, cs x.1 2, cs x.1 3, cs x.1 4, cs x.1 5] ∧ a' = { tmps := #[.agg #[c0, c1, c2, c3, c4, .slice a n c], .pointer (some ⟨w.heap.size, 0, none⟩), .pointer (some ⟨w.heap.size + 1, 0, none⟩), .pointer (some ⟨w.heap.size + 1 + 1, 0, none⟩), undef, .pointer (some ⟨Bx, 0, none⟩), .pointer (some ⟨w.heap.size, 5, none⟩), .slice a n c, .func (.func 56) #[] #[.pointer (some ⟨w.heap.size + 1 + 1 + 1, 0, none⟩)], .int .i64 (x.1 : Int), bwV cs x.1, undef, undef, undef, undef, undef, undef, undef, undef, undef, undef, undef, undef], defers := [] })
    (fun x a' _ A B row hs hg hr => by
      obtain ⟨Bx, q1, q2, q3⟩ := hs
      exact ⟨Bx, q1, blk_own (β := Unit) _ (fun _ => _) (fun _ => rfl) () A B row q2 hg (fun r e => (hr r e).2), q3⟩)
    ?assign ?body ?done ?stop
  case assign =>
    rintro l pre x W K ⟨h1, h2⟩ hK
    obtain ⟨t, a3, n3, m3, a4, n4, m4, a5, n5, m5, e1, e3, e4, e5⟩ := hsh x.1 x.2
    have e0 := hx x.1 x.2
    have e2 := hk x.1 x.2
    simp only [bwV, e0, e1, e2, e3, e4, e5] at hK ⊢
    gi_wp2
    exact hK _ _ ((KeepsOthers.alloc _ _).from _) ((Below.refl _ W).alloc h2.size _) ⟨h1, h2.alloc h2.size _⟩ ⟨W.heap.size, h2.size, World.alloc_heap_new W _, rfl⟩
  case body =>
    rintro l pre x a' W hl ⟨r, hr⟩ ⟨h1, h2⟩ ⟨Bx, hBx, bX, rfl⟩ hlt
    obtain ⟨t, a3, n3, m3, a4, n4, m4, a5, n5, m5, e1, e3, e4, e5⟩ := hsh x.1 x.2
    have e0 := hx x.1 x.2
    have e2 := hk x.1 x.2
    have hCx := fun W => hCj x.1 W x.2
    simp only [bwV, e0, e1, e2, e3, e4, e5] at bX hCx ⊢
    have d0 : W.cell? ⟨Bx, 0, none⟩ = some (.int .u64 (ix x.1)) := bX.cell 0 (by simp)
    have d2 : W.cell? ⟨Bx, 2, none⟩ = some (.int .i64 (kd x.1)) := bX.cell 2 (by simp)
    have d4 : W.cell? ⟨Bx, 4, none⟩ = some (.slice a4 n4 m4) := bX.cell 4 (by simp)
    have d5 : W.cell? ⟨Bx, 5, none⟩ = some (.slice a5 n5 m5) := bX.cell 5 (by simp)
    have hBW : Below w.heap.size w W := hB0.trans (h2.mono hB0.size)
    have h1' : 1 ≤ 4 - 1 - 1 := by decide
    by_cases hkd : kd x.1 = 3
    · have hb : (kd x.1 == 3) = true := beq_iff_eq.2 hkd
      have b2 : BoxAt W (w.heap.size + 1) 25 #[.slice none 0 0, .slice none 0 0] := BoxAt.below k2 h2 (by omega)
      have b3 : BoxAt W (w.heap.size + 1 + 1) 22 #[.int .u64 0] := BoxAt.below k3 h2 (by omega)
      have g20 : W.cell? ⟨w.heap.size + 1, 0, none⟩ = some (.slice none 0 0) := b2.cell 0 (by simp)
      have g21 : W.cell? ⟨w.heap.size + 1, 1, none⟩ = some (.slice none 0 0) := b2.cell 1 (by simp)
      have g30 : W.cell? ⟨w.heap.size + 1 + 1, 0, none⟩ = some (.int .u64 0) := b3.cell 0 (by simp)
      have f20 : W.frozen? ⟨w.heap.size + 1, 0, none⟩ = false := b2.frozen 0
      have f21 : W.frozen? ⟨w.heap.size + 1, 1, none⟩ = false := b2.frozen 1
      have f30 : W.frozen? ⟨w.heap.size + 1 + 1, 0, none⟩ = false := b3.frozen 0
      have hWs : W0.heap.size ≤ W.heap.size := h2.size
      have hBlt : Bx < W.heap.size := (Array.getElem?_eq_some_iff.1 (show W.heap[Bx]? = _ from bX)).1
      have hmx : Try.prog.follows .mixedOrders = true := by kernel_rfl
      have hCd := hCx W.drew (hokj x.1 x.2 hkd _ hBW.drew)
      gi_wp2
      gi_region_with_o (refine ⟨trivial, ?_⟩; gi_at_call 45; refine (CallsIn.inRound l (callsIn_wide.2 hCd)).mono ?_; rintro e w' ⟨xa, xn, xc, ya, yn, yc, rfl, hb, hR⟩; have d0 := (hb.cell (p := ⟨Bx, 0, none⟩) hBlt).trans (show W.drew.cell? ⟨Bx, 0, none⟩ = _ from d0); have b2' := BoxAt.below (A := W.drew) b2 hb (show w.heap.size + 1 < W.heap.size by omega); have b3' := BoxAt.below (A := W.drew) b3 hb (show w.heap.size + 1 + 1 < W.heap.size by omega); have g20 : w'.cell? ⟨w.heap.size + 1, 0, none⟩ = some (.slice none 0 0) := b2'.cell 0 (by simp); have g21 : w'.cell? ⟨w.heap.size + 1, 1, none⟩ = some (.slice none 0 0) := b2'.cell 1 (by simp); have g30 : w'.cell? ⟨w.heap.size + 1 + 1, 0, none⟩ = some (.int .u64 0) := b3'.cell 0 (by simp); have f20 := b2'.frozen 0; have f21 := b2'.frozen 1; have f30 := b3'.frozen 0)
      all_goals gi_wp2
      all_goals refine ⟨((⟨hb.size, fun k o _ hk _ => (hb.block k (Array.getElem?_eq_some_iff.1 hk).1).trans hk⟩ : KeepsFrom W0.heap.size W w').trans ((KeepsOthers.setCell _ _ _).from _)).trans (((KeepsOthers.setCell _ _ _).from _).trans ((KeepsOthers.setCell _ _ _).from _)), rfl, x, pre, rfl, hkd, h1, W.drew, w', .slice xa xn xc, .slice ya yn yc, hBW.drew, hR, hb, ?_, ?_, ?_, ?_⟩
      all_goals first
        | exact CellsFrom.set (CellsFrom.set (CellsFrom.set (CellsFrom.refl _ _) (show w.heap.size + 1 < W.heap.size by omega) _ _) (show w.heap.size + 1 < W.heap.size by omega) _ _) (show w.heap.size + 1 + 1 < W.heap.size by omega) _ _
        | exact (((hBW.drew.trans (hb.mono hBW.size)).setCell (p := ⟨w.heap.size + 1, 0, none⟩) (show w.heap.size ≤ w.heap.size + 1 by omega) _).setCell (p := ⟨w.heap.size + 1, 1, none⟩) (show w.heap.size ≤ w.heap.size + 1 by omega) _).setCell (p := ⟨w.heap.size + 1 + 1, 0, none⟩) (show w.heap.size ≤ w.heap.size + 1 + 1 by omega) _
        | exact ((b2'.set 0 _).set 1 _).other (by omega) _ _
        | exact ((b3'.other (by omega) _ _).other (by omega) _ _).set 0 _
    · have hb : (kd x.1 == 3) = false := beq_eq_false_iff_ne.2 hkd
      gi_wp2
      exact ⟨KeepsFrom.refl _ _, Below.refl _ _, ⟨fun y hy => by
        rcases List.mem_append.1 hy with g | g
        · exact h1 y g
        · rw [List.mem_singleton.1 g]; exact hkd, h2⟩⟩
  case done =>
    rintro D ys W hD rfl ⟨h1, h2⟩ hK
    have hBW : Below w.heap.size w W := hB0.trans (h2.mono hB0.size)
    have b1 : BoxAt W w.heap.size 31 #[c0, c1, c2, c3, c4, .slice a n c] := BoxAt.below k1 h2 (by omega)
    have b2 : BoxAt W (w.heap.size + 1) 25 #[.slice none 0 0, .slice none 0 0] := BoxAt.below k2 h2 (by omega)
    have b3 : BoxAt W (w.heap.size + 1 + 1) 22 #[.int .u64 0] := BoxAt.below k3 h2 (by omega)
    have g12 : W.cell? ⟨w.heap.size, 2, none⟩ = some c2 := b1.cell 2 (by simp)
    have g13 : W.cell? ⟨w.heap.size, 3, none⟩ = some c3 := b1.cell 3 (by simp)
    have hCd := hC0 W (hok (fun k hk => h1 ⟨k, hk⟩ (bwD_mem _)) _ hBW)
    gi_wp2_with (refine ⟨trivial, ?_⟩; gi_at_call 45; refine (callsIn_wide.2 hCd).mono ?_; rintro e w' ⟨xa, xn, xc, ya, yn, yc, rfl, hb, hR⟩; have b2' := b2.below hb (show w.heap.size + 1 < W.heap.size by have := h2.size; omega); have b3' := b3.below hb (show w.heap.size + 1 + 1 < W.heap.size by have := h2.size; omega); have g20 : w'.cell? ⟨w.heap.size + 1, 0, none⟩ = some (.slice none 0 0) := b2'.cell 0 (by simp); have g21 : w'.cell? ⟨w.heap.size + 1, 1, none⟩ = some (.slice none 0 0) := b2'.cell 1 (by simp); have g30 : w'.cell? ⟨w.heap.size + 1 + 1, 0, none⟩ = some (.int .u64 0) := b3'.cell 0 (by simp); have f20 := b2'.frozen 0; have f21 := b2'.frozen 1; have f30 := b3'.frozen 0)
    have hDl : D < W.heap.size := (Array.getElem?_eq_some_iff.1 hK).1
    have hK1 : w'.heap[D]? = some (.deferred (some [])) := (hb.block D hDl).trans hK
    have hK2 := (((KeepsOthers.setCell w' ⟨w.heap.size + 1, 0, none⟩ (.slice xa xn xc)).trans (KeepsOthers.setCell _ ⟨w.heap.size + 1, 1, none⟩ (.slice ya yn yc))).trans (KeepsOthers.setCell _ ⟨w.heap.size + 1 + 1, 0, none⟩ (.int .u64 0))).same D _ hK1 rfl
    refine ⟨by simp, .inl ⟨_, _, rfl, run_takeDeferred hK2, ?_⟩⟩
    have z2 : BoxAt (((w'.setCell ⟨w.heap.size + 1, 0, none⟩ (.slice xa xn xc)).setCell ⟨w.heap.size + 1, 1, none⟩ (.slice ya yn yc)).setCell ⟨w.heap.size + 1 + 1, 0, none⟩ (.int .u64 0)) (w.heap.size + 1) 25 #[.slice xa xn xc, .slice ya yn yc] := ((b2'.set 0 _).set 1 _).other (by omega) _ _
    have z3 : BoxAt (((w'.setCell ⟨w.heap.size + 1, 0, none⟩ (.slice xa xn xc)).setCell ⟨w.heap.size + 1, 1, none⟩ (.slice ya yn yc)).setCell ⟨w.heap.size + 1 + 1, 0, none⟩ (.int .u64 0)) (w.heap.size + 1 + 1) 22 #[.int .u64 0] := ((b3'.other (by omega) _ _).other (by omega) _ _).set 0 _
    have zc := CellsFrom.set (CellsFrom.set (CellsFrom.set (CellsFrom.refl W.heap.size w') (show w.heap.size + 1 < W.heap.size by have := h2.size; omega) 0 (.slice xa xn xc)) (show w.heap.size + 1 < W.heap.size by have := h2.size; omega) 1 (.slice ya yn yc)) (show w.heap.size + 1 + 1 < W.heap.size by have := h2.size; omega) 0 (.int .u64 0)
    have zb := (((hBW.trans (hb.mono hBW.size)).setCell (p := ⟨w.heap.size + 1, 0, none⟩) (show w.heap.size ≤ w.heap.size + 1 by omega) (.slice xa xn xc)).setCell (p := ⟨w.heap.size + 1, 1, none⟩) (show w.heap.size ≤ w.heap.size + 1 by omega) (.slice ya yn yc)).setCell (p := ⟨w.heap.size + 1 + 1, 0, none⟩) (show w.heap.size ≤ w.heap.size + 1 + 1 by omega) (.int .u64 0)
    generalize ((w'.setCell ⟨w.heap.size + 1, 0, none⟩ (.slice xa xn xc)).setCell ⟨w.heap.size + 1, 1, none⟩ (.slice ya yn yc)).setCell ⟨w.heap.size + 1 + 1, 0, none⟩ (.int .u64 0) = Z at z2 z3 zc zb hK2 ⊢
    have y2 := blk_put (o := .deferred none) z2 hK2
    have y3 := blk_put (o := .deferred none) z3 hK2
    exact ⟨_, cf_res _ _ _ _ _ _ _ rfl rfl y2 y3, W, w', _, _, _, _, rfl, hBW, hR, hb, CellsFrom.put zc hK2, zb.trans (belowK_b (w := w) (Nat.le_refl _) Z D _ _ (by omega) hK2 rfl rfl), .inr ⟨rfl, rfl, fun k hk => h1 ⟨k, hk⟩ (bwD_mem _)⟩⟩
  case stop =>
    rintro D c pre W hD ⟨k, hkl, hpre⟩ ⟨rfl, j, q, q1, q2, q3, W1, W2, x, y, a1, a2, a3, a4, a5, a6, a7⟩ hK
    gi_wp2
    refine ⟨by simp, .inl ⟨_, _, rfl, run_takeDeferred hK, ?_⟩⟩
    have y2 := blk_put (o := .deferred none) a6 hK
    have y3 := blk_put (o := .deferred none) a7 hK
    exact ⟨_, cf_res _ _ _ _ _ _ _ rfl rfl y2 y3, W1, W2, _, _, _, _, rfl, a1, a2, a3, CellsFrom.put a4 hK, a5.trans (belowK_b (w := w) (Nat.le_refl _) W D _ _ (by omega) hK rfl rfl), .inl ⟨j.1, j.2, q2, rfl, rfl, bwD_ahead hpre q1 hkl q3⟩⟩
end Go.Proofs.Ytdblllnnccaccaa
