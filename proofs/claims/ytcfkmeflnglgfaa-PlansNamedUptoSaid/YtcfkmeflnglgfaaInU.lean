/-
  slices.Insert into a row of numbers (uint64) that is handed over, as an entry: what stood in it, with others between.
-/
import Derived.Shelf.Spec.SlicesInsertGrow
import Derived.Test.YtcfkmeflnglgfaaChecked
import Derived.Test.YtcfkmeflnglgfaaDaL
namespace Go.Proofs.Ytcfkmeflnglgfaa
open Go.RowKit

section
open Go.Shelf Go.RowKit Go.Lib
theorem uS : Try.prog.underlying 29 = some (.slice 27) := Try.underlying29
theorem uE : Try.prog.underlying 27 = some (.int .u64) := Try.underlying27
theorem uI : Try.prog.underlying 3 = some (.int .i64) := Try.underlying3
theorem iE : (Try.prog.info? 27).map (fun i => (i.zero, i.size, i.bytes)) = some (some (Value.int .u64 0), 1, 8) := by kernel_rfl
theorem sE (w : World) : (Go.sizeOf 27).run Try.prog w = .ok 1 w := by
  obtain ⟨i0, hi0, -, h1, -⟩ := info_parts iE
  simp [Go.sizeOf, typeInfo, hi0, h1, Result.andThen]
set_option maxHeartbeats 4000000 in
set_option maxRecDepth 100000 in
/-- There is room, and something behind the place: in the row itself. -/
theorem insU_shift (b off n c i vb voff m vc : Nat) (cs vs : List Value) (w : World) (hi : i < n) (hm : 0 < m) (hroom : n + m ≤ c) (hc63 : c ≤ 9223372036854775807) (hvb : vb ≠ b)
    (hcl : cs.length = n) (hvl : vs.length = m)
    (hcs : ∀ j v, cs[j]? = some v → w.cell? ⟨b, off + j, none⟩ = some v) (hsp : ∀ j, j < n + m → (w.cell? ⟨b, off + j, none⟩).isSome = true) (hfz : ∀ j, j < n + m → w.frozen? ⟨b, off + j, none⟩ = false)
    (hvs : ∀ j v, vs[j]? = some v → w.cell? ⟨vb, voff + j, none⟩ = some v) (h1c : ∀ v ∈ cs, v.oneCell' = true) (h1v : ∀ v ∈ vs, v.oneCell' = true)
    (tA tB : TypeId) (kA kB : Nat) (hsa : w.shape? vb = some (tA, kA)) (hsb : w.shape? b = some (tB, kB)) (hkB : kB ≠ 0) (hfa : w.frozen? ⟨vb, voff, none⟩ = false) (hfe : w.frozen? ⟨vb, kA, none⟩ = false) :
    Calls Try.prog 48 #[.slice (some ⟨b, off, none⟩) n c, .int .i64 i, .slice (some ⟨vb, voff, none⟩) m vc] w fun e w' =>
      e = .returned (.slice (some ⟨b, off, none⟩) (n + m) c) ∧ w' = (w.drew.setCells b (off + (i + m)) (cs.drop i)).setCells b (off + i) vs := by
  have mixed : Try.prog.follows .mixedOrders = true := by kernel_rfl
  have hz1 : ¬ ((m : Int) = 0) := by omega
  have hz2 : ¬ ((i : Int) = (n : Int)) := by omega
  have hsz : (Try.prog.info? 27).map (·.size) = some 1 := by
    obtain ⟨i0, hi0, -, h1, -⟩ := info_parts iE
    rw [hi0]; simp [h1]
  have hov : ∀ lb cb, (callFunc 51 #[.slice (some ⟨vb, voff, none⟩) m vc, .slice (some ⟨b, off + (i + m), none⟩) lb cb]).run Try.prog w = .ok (.value (.bool false)) w := fun lb cb => by
    rw [run_callFunc_extern Try.func51 (by kernel_rfl) (by kernel_rfl) (by kernel_rfl) (e := Extern.SlicesOverlaps.overlaps #[29, 29] #[4]) (by kernel_rfl),
      Lib.run_overlaps_apart w 29 4 27 uS 1 sE ⟨vb, voff, none⟩ ⟨b, off + (i + m), none⟩ m vc lb cb hvb tA tB kA kB hsa hsb hkB hfa hfe]
    rfl
  have hdl : (cs.drop i).length = n - i := by rw [List.length_drop, hcl]
  have hw1 : IntKind.i64.wrap ((i : Int) + (m : Int)) = (i : Int) + (m : Int) := by rw [IntKind.wrap_i64]; omega
  have hb1 : (0 : Int) ≤ (i : Int) + (m : Int) := by omega
  have hin : i ≤ n := by omega
  have htn : ((i : Int) + (m : Int)).toNat = i + m := by omega
  have hb2 : ¬ (c = i + m) := by omega
  have hb3 : (i : Int) ≤ (n : Int) + (m : Int) := by omega
  have hb4 : ¬ (c = i) := by omega
  have hcp1 : ∀ ty dc sc, (Builtin.copy_ #[29, 29] ty #[.slice (some ⟨b, off + (i + m), none⟩) (n + m - (i + m)) dc, .slice (some ⟨b, off + i, none⟩) (n + m - i) sc]).run Try.prog w.drew = .ok (goInt (cs.drop i).length) (w.drew.setCells b (off + (i + m)) (cs.drop i)) := fun ty dc sc =>
    run_copy_cells w.drew _ _ ty 27 b (off + (i + m)) (n + m - (i + m)) dc ⟨b, off + i, none⟩ (n + m - i) sc (cs.drop i) uS hsz (by rw [hdl]; simp only [Nat.min_def]; split <;> omega)
      (fun j v hj => by rw [Addr.add_lit, Nat.add_assoc]; exact hcs (i + j) v (by rwa [List.getElem?_drop] at hj))
      (fun j hj => by rw [Nat.add_assoc]; exact hsp _ (by omega)) (fun j hj => by rw [Nat.add_assoc]; exact hfz _ (by omega)) (fun v hv => h1c v (List.mem_of_mem_drop hv))
  obtain ⟨W1, hW1⟩ : ∃ W1, W1 = w.drew.setCells b (off + (i + m)) (cs.drop i) := ⟨_, rfl⟩
  have hsp1 : ∀ k, k < n + m → (W1.cell? ⟨b, off + k, none⟩).isSome = true := fun k hk => by
    rw [hW1]
    exact isSome_setCells b _ _ _ (fun j hj => by rw [Nat.add_assoc]; exact hsp _ (by omega)) _ (hsp k hk)
  have hcp2 : ∀ (W : World), (∀ x, W.cell? x = W1.cell? x) → (∀ x, W.frozen? x = W1.frozen? x) → ∀ ty dc, (Builtin.copy_ #[29, 29] ty #[.slice (some ⟨b, off + i, none⟩) (n + m - i) dc, .slice (some ⟨vb, voff, none⟩) m vc]).run Try.prog W = .ok (goInt vs.length) (W.setCells b (off + i) vs) := fun W hWc hWf ty dc =>
    run_copy_cells W _ _ ty 27 b (off + i) (n + m - i) dc ⟨vb, voff, none⟩ m vc vs uS hsz (by rw [hvl]; simp only [Nat.min_def]; split <;> omega)
      (fun j v hj => by
        rw [Addr.add_lit, hWc, hW1, World.cell?_setCells_out b _ _ _ _ (fun h _ => absurd h hvb)]
        exact hvs j v hj)
      (fun j hj => by rw [hWc, Nat.add_assoc]; exact hsp1 _ (by omega)) (fun j hj => by rw [hWf, hW1, World.frozen?_setCells, Nat.add_assoc]; exact hfz _ (by omega)) h1v
  rw [← hW1] at hcp1
  go_enter Try.func48, Try.ntmps48
  go_wp2_with (simp only [hov])
  go_region_law_o (refine step_copy_runI rfl _ _ 29 29 rfl _ _ (by simp [Act.eval, Act.put]) (by simp [Act.eval, Act.put]) (hcp1 _ _ _) ?_)
  go_wp2_with (at_builtin; refine wpList_copy_runI _ rfl _ _ 29 29 rfl _ _ rfl rfl (hcp2 _ (fun _ => rfl) (fun _ => rfl) _ _) ?_)
  go_ret
  first | exact ⟨rfl, rfl⟩ | exact ⟨rfl, by rw [hW1]⟩
set_option maxHeartbeats 4000000 in
set_option maxRecDepth 100000 in
/-- At the end, where there is room. -/
theorem insU_end_room (b off n c vb voff m vc : Nat) (vs : List Value) (w : World) (hm : 0 < m) (hroom : n + m ≤ c) (hc63 : c ≤ 9223372036854775807)
    (hvl : vs.length = m) (hsp : ∀ j, j < m → (w.cell? ⟨b, off + n + j, none⟩).isSome = true) (hfz : ∀ j, j < m → w.frozen? ⟨b, off + n + j, none⟩ = false)
    (hvs : ∀ j v, vs[j]? = some v → w.cell? ⟨vb, voff + j, none⟩ = some v) (h1v : ∀ v ∈ vs, v.oneCell' = true) :
    Calls Try.prog 48 #[.slice (some ⟨b, off, none⟩) n c, .int .i64 n, .slice (some ⟨vb, voff, none⟩) m vc] w fun e w' =>
      e = .returned (.slice (some ⟨b, off, none⟩) (n + m) c) ∧ w' = w.setCells b (off + n) vs := by
  have mixed : Try.prog.follows .mixedOrders = true := by kernel_rfl
  have hz1 : ¬ ((m : Int) = 0) := by omega
  have hsrc : Go.Src Try.prog 1 29 (.slice (some ⟨vb, voff, none⟩) m vc) m vs w := Go.Src.ofSlice w uS ⟨vb, voff, none⟩ m vc vs (by omega) (fun j u hj => by rw [Addr.add_lit]; exact hvs j u hj) h1v
  go_enter Try.func48, Try.ntmps48
  go_wp2_with (at_builtin; refine wpList_append_room1 _ rfl _ _ 29 29 rfl 27 _ _ uS iE b off n c rfl _ rfl m vs hsrc hroom (by rw [hvl]; exact hsp) (by rw [hvl]; exact hfz) ?_)
  go_ret
  exact ⟨rfl, rfl⟩
set_option maxHeartbeats 4000000 in
set_option maxRecDepth 100000 in
/-- At the end, where there is no room: a new row. -/
theorem insU_end_grow (base : Option Addr) (n c vb voff m vc : Nat) (cs vs : List Value) (w : World) (hm : 0 < m) (hnc : n ≤ c) (hroom : c < n + m) (hbig : (n + m) * 8 ≤ 140737488355328)
    (hcl : cs.length = n) (hvl : vs.length = m) (hnil : base = none → n = 0)
    (hcs : ∀ a, base = some a → ∀ j v, cs[j]? = some v → w.cell? (a.add j) = some v)
    (hvs : ∀ j v, vs[j]? = some v → w.cell? ⟨vb, voff + j, none⟩ = some v) (h1v : ∀ v ∈ vs, v.oneCell' = true) :
    Calls Try.prog 48 #[.slice base n c, .int .i64 n, .slice (some ⟨vb, voff, none⟩) m vc] w fun e w' =>
      e = .returned (.slice (some ⟨w.heap.size, 0, none⟩) (n + m) (grownCap w (n + m) c 27)) ∧
      w' = w.drew.alloc (.cells ((cs ++ vs).toArray ++ Builtin.zeroCells (Value.int .u64 0).cells (grownCap w (n + m) c 27 - (n + m))) 27) := by
  obtain ⟨i0, hi0, hz0, hzs, hzb⟩ := info_parts iE
  have mixed : Try.prog.follows .mixedOrders = true := by kernel_rfl
  have hz1 : ¬ ((m : Int) = 0) := by omega
  have hsrc : Go.Src Try.prog i0.size 29 (.slice (some ⟨vb, voff, none⟩) m vc) m vs w := by
    rw [hzs]
    exact Go.Src.ofSlice w uS ⟨vb, voff, none⟩ m vc vs (by omega) (fun j u hj => by rw [Addr.add_lit]; exact hvs j u hj) h1v
  have hold : (Builtin.firstCells i0.size n (.slice base n c)).run Try.prog w.drew = .ok cs.toArray w.drew := by
    rw [hzs]
    cases base with
    | none =>
      have h0 := hnil rfl
      subst h0
      rw [List.length_eq_zero_iff.1 hcl]
      exact run_firstCells_none w.drew 1 0 0 c
    | some a => exact run_firstCells_some w.drew 1 n a n c cs (by omega) (fun j v hj => hcs a rfl j v hj)
  have hrun : ∀ ty, (Builtin.append_ #[29, 29] ty #[.slice base n c, .slice (some ⟨vb, voff, none⟩) m vc]).run Try.prog w = _ := fun ty =>
    run_append_grow_src w 29 29 ty 27 i0 _ uS hi0 hz0 base n c cs hold _ m vs hsrc hroom (by omega) (by rw [hzb]; exact growslice_fits hroom hbig)
  go_enter Try.func48, Try.ntmps48
  cases base with
  | none =>
    have h0 := hnil rfl
    subst h0
    go_wp2_with (at_builtin; refine Lib.wpList_append_run _ rfl _ _ _ _ rfl _ _ rfl rfl _ _ (hrun _) ?_)
    go_ret
    exact ⟨rfl, rfl⟩
  | some a =>
    obtain ⟨ab, ao, asp⟩ := a
    go_wp2_with (at_builtin; refine Lib.wpList_append_run _ rfl _ _ _ _ rfl _ _ rfl rfl _ _ (hrun _) ?_)
    all_goals (go_ret; exact ⟨rfl, rfl⟩)
set_option maxHeartbeats 4000000 in
set_option maxRecDepth 100000 in
/-- Something behind the place, and no room: a new row. -/
theorem insU_grow (b off n c i vb voff m vc : Nat) (cs vs : List Value) (w : World) (hi : i < n) (hm : 0 < m) (hnc : n ≤ c) (hroom : c < n + m) (hbig : (n + m) * 8 ≤ 140737488355328)
    (hcl : cs.length = n) (hvl : vs.length = m)
    (hcs : ∀ j v, cs[j]? = some v → w.cell? ⟨b, off + j, none⟩ = some v)
    (hvs : ∀ j v, vs[j]? = some v → w.cell? ⟨vb, voff + j, none⟩ = some v) (h1c : ∀ v ∈ cs, v.oneCell' = true) (h1v : ∀ v ∈ vs, v.oneCell' = true) :
    Calls Try.prog 48 #[.slice (some ⟨b, off, none⟩) n c, .int .i64 i, .slice (some ⟨vb, voff, none⟩) m vc] w fun e w' =>
      e = .returned (.slice (some ⟨w.heap.size, 0, none⟩) (n + m) (grownCap w (n + m) c 27)) ∧
      w' = (((w.alloc (.cells ((cs.take i).toArray ++ Builtin.zeroCells (Value.int .u64 0).cells (n + m - i) ++ Builtin.zeroCells (Value.int .u64 0).cells (grownCap w (n + m) c 27 - (n + m))) 27)).drew.setCells w.heap.size i vs).drew).setCells w.heap.size (i + m) (cs.drop i) := by
  obtain ⟨i0, hi0, hz0, hzs, hzb⟩ := info_parts iE
  have mixed : Try.prog.follows .mixedOrders = true := by kernel_rfl
  have hz1 : ¬ ((m : Int) = 0) := by omega
  have hz2 : ¬ ((i : Int) = (n : Int)) := by omega
  have hz3 : (c : Int) < (n : Int) + (m : Int) := by omega
  have hsz : (Try.prog.info? 27).map (·.size) = some 1 := by rw [hi0]; simp [hzs]
  have hbw : b < w.heap.size := block_lt_of_cell (hcs 0 _ (List.getElem?_eq_getElem (by omega)))
  have hvw : vb < w.heap.size := block_lt_of_cell (hvs 0 _ (List.getElem?_eq_getElem (by omega)))
  have hkk : (n : Int) + (m : Int) - (i : Int) = ((n + m - i : Nat) : Int) := by omega
  have hik : i + (n + m - i) = n + m := by omega
  have hold : (Builtin.firstCells i0.size i (.slice (some ⟨b, off, none⟩) i c)).run Try.prog w.drew = .ok (cs.take i).toArray w.drew := by
    rw [hzs]
    exact run_firstCells_some w.drew 1 i ⟨b, off, none⟩ i c (cs.take i) (by rw [List.length_take]; omega) (fun j v hj => by
      rw [Addr.add_lit]
      rw [List.getElem?_take] at hj
      split at hj
      · exact hcs j v hj
      · cases hj)
  have hrz : ∀ ty, (Builtin.append_ #[29, 3] ty #[.slice (some ⟨b, off, none⟩) i c, .int .i64 ((n : Int) + (m : Int) - (i : Int))]).run Try.prog w =
      .ok (.slice (some ⟨w.heap.size, 0, none⟩) (n + m) (grownCap w (n + m) c 27)) (w.drew.alloc (.cells ((cs.take i).toArray ++ Builtin.zeroCells (Value.int .u64 0).cells (n + m - i) ++ Builtin.zeroCells (Value.int .u64 0).cells (grownCap w (n + m) c 27 - (n + m))) 27)) := fun ty => by
    have h := Lib.run_append_grow_zeros w 29 3 ty 27 i0 _ .i64 .i64 uS uI hi0 hz0 (some ⟨b, off, none⟩) i c (cs.take i) hold (n + m - i) (by omega) (by omega) (by omega) (by omega) (by rw [hzb]; omega) (by rw [hzb, hik]; exact growslice_fits hroom hbig)
    rw [hik] at h
    rw [hkk]
    exact h
  obtain ⟨G, hG⟩ : ∃ G, G = grownCap w (n + m) c 27 := ⟨_, rfl⟩
  obtain ⟨ROW, hROW⟩ : ∃ ROW : Array Value, ROW = (cs.take i).toArray ++ Builtin.zeroCells (Value.int .u64 0).cells (n + m - i) ++ Builtin.zeroCells (Value.int .u64 0).cells (G - (n + m)) := ⟨_, rfl⟩
  rw [← hG] at hrz ⊢
  rw [← hROW] at hrz ⊢
  have hRl : n + m ≤ ROW.size := by
    rw [hROW]
    simp [Builtin.zeroCells, Value.cells]
    omega
  obtain ⟨W1, hW1⟩ : ∃ W1, W1 = w.drew.alloc (.cells ROW 27) := ⟨_, rfl⟩
  rw [← hW1] at hrz
  have hN : ∀ j, j < n + m → (W1.cell? ⟨w.heap.size, j, none⟩).isSome = true := fun j hj => by
    rw [hW1, World.cell?_alloc_at (w := w.drew) ROW _ w.heap.size j rfl, Array.getElem?_eq_getElem (by omega)]; rfl
  have hNf : ∀ j, W1.frozen? ⟨w.heap.size, j, none⟩ = false := fun j => by rw [hW1]; exact World.frozen?_alloc_at (w := w.drew) ROW _ w.heap.size j rfl
  have hOb : ∀ j v, w.cell? ⟨b, j, none⟩ = some v → W1.cell? ⟨b, j, none⟩ = some v := fun j v h => by rw [hW1, World.cell?_alloc_past (w := w.drew) _ b j hbw]; exact h
  have hOv : ∀ j v, w.cell? ⟨vb, j, none⟩ = some v → W1.cell? ⟨vb, j, none⟩ = some v := fun j v h => by rw [hW1, World.cell?_alloc_past (w := w.drew) _ vb j hvw]; exact h
  have hcpA : ∀ (W : World), (∀ x, W.cell? x = W1.cell? x) → (∀ x, W.frozen? x = W1.frozen? x) → ∀ ty dc, (Builtin.copy_ #[29, 29] ty #[.slice (some ⟨w.heap.size, i, none⟩) (n + m - i) dc, .slice (some ⟨vb, voff, none⟩) m vc]).run Try.prog W = .ok (goInt vs.length) (W.setCells w.heap.size i vs) := fun W hWc hWf ty dc =>
    run_copy_cells W _ _ ty 27 w.heap.size i (n + m - i) dc ⟨vb, voff, none⟩ m vc vs uS hsz (by rw [hvl]; simp only [Nat.min_def]; split <;> omega)
      (fun j v hj => by rw [Addr.add_lit, hWc]; exact hOv _ v (hvs j v hj))
      (fun j hj => by rw [hWc]; exact hN _ (by omega)) (fun j hj => by rw [hWf]; exact hNf _) h1v
  have hGn : n + m ≤ G := by rw [hG]; exact grownCap_ge w _ _ _
  have hG63 : G ≤ 9223372036854775807 := by
    have := grownCap_le_maxLen w (n + m) c 27 (by unfold maxLen; omega)
    rw [← hG] at this
    unfold maxLen at this
    omega
  have hGi : ¬ (G = i) := by omega
  have hGim : ¬ (G = i + m) := by omega
  have hci : ¬ (c = i) := by omega
  have hbN : b ≠ w.heap.size := by omega
  have hdl : (cs.drop i).length = n - i := by rw [List.length_drop, hcl]
  have hcpB : ∀ (W : World), (∀ x, W.cell? x = (W1.setCells w.heap.size i vs).cell? x) → (∀ x, W.frozen? x = (W1.setCells w.heap.size i vs).frozen? x) → ∀ ty dc sc, (Builtin.copy_ #[29, 29] ty #[.slice (some ⟨w.heap.size, i + m, none⟩) (n + m - (i + m)) dc, .slice (some ⟨b, off + i, none⟩) (n - i) sc]).run Try.prog W = .ok (goInt (cs.drop i).length) (W.setCells w.heap.size (i + m) (cs.drop i)) := fun W hWc hWf ty dc sc =>
    run_copy_cells W _ _ ty 27 w.heap.size (i + m) (n + m - (i + m)) dc ⟨b, off + i, none⟩ (n - i) sc (cs.drop i) uS hsz (by rw [hdl]; simp only [Nat.min_def]; split <;> omega)
      (fun j v hj => by
        rw [Addr.add_lit, hWc, World.cell?_setCells_out _ _ _ _ _ (fun h _ => absurd h hbN), Nat.add_assoc]
        exact hOb _ v (hcs (i + j) v (by rwa [List.getElem?_drop] at hj)))
      (fun j hj => by rw [hWc]; exact isSome_setCells _ _ _ _ (fun t ht => hN _ (by omega)) _ (hN _ (by omega)))
      (fun j hj => by rw [hWf, World.frozen?_setCells]; exact hNf _) (fun v hv => h1c v (List.mem_of_mem_drop hv))
  subst hW1
  have hE1 : ∀ x, ((w.alloc (.cells ROW 27)).drew).cell? x = (w.drew.alloc (.cells ROW 27)).cell? x := fun x => rfl
  have hE2 : ∀ x, ((w.alloc (.cells ROW 27)).drew).frozen? x = (w.drew.alloc (.cells ROW 27)).frozen? x := fun x => rfl
  have hF1 : ∀ x, (((w.alloc (.cells ROW 27)).drew.setCells w.heap.size i vs).drew).cell? x = ((w.drew.alloc (.cells ROW 27)).setCells w.heap.size i vs).cell? x := fun x => rfl
  have hF2 : ∀ x, (((w.alloc (.cells ROW 27)).drew.setCells w.heap.size i vs).drew).frozen? x = ((w.drew.alloc (.cells ROW 27)).setCells w.heap.size i vs).frozen? x := fun x => rfl
  have hw1 : IntKind.i64.wrap ((i : Int) + (m : Int)) = (i : Int) + (m : Int) := by rw [IntKind.wrap_i64]; omega
  have hb1 : (0 : Int) ≤ (i : Int) + (m : Int) := by omega
  have hin : i ≤ n := by omega
  have htn : ((i : Int) + (m : Int)).toNat = i + m := by omega
  have hb3 : (i : Int) ≤ (n : Int) := by omega
  clear hkk hik hold hROW hG hRl
  go_enter Try.func48, Try.ntmps48
  go_wp2_with (first
    | (at_builtin; refine Lib.wpList_append_run _ rfl _ _ _ _ rfl _ _ rfl rfl _ _ (hrz _) ?_)
    | (at_builtin; refine wpList_copy_runI _ rfl _ _ 29 29 rfl _ _ rfl rfl (hcpA _ hE1 hE2 _ _) ?_)
    | (at_builtin; refine wpList_copy_runI _ rfl _ _ 29 29 rfl _ _ rfl rfl (hcpB _ (fun _ => rfl) (fun _ => rfl) _ _ _) ?_))
  go_region_law_o (refine step_copy_runI rfl _ _ 29 29 rfl (.slice (some ⟨w.heap.size, i + m, none⟩) (n + m - (i + m)) (G - (i + m))) (.slice (some ⟨b, off + i, none⟩) (n - i) (c - i)) (by simp [Act.eval, Act.put]) (by simp [Act.eval, Act.put]) (hcpB _ hF1 hF2 3 (G - (i + m)) (c - i)) ?_)
  go_wp2
  go_ret
  exact ⟨rfl, rfl⟩
end
section
open Go.RowKit Go.Shelf
theorem in_enters : Enters Try.prog 48 := ⟨_, Try.func48, by kernel_rfl, by kernel_rfl⟩
theorem in_args {vs : Array Value} (h : vs.size = 3) : vs = #[vs.getD 0 undef, vs.getD 1 undef, vs.getD 2 undef] := by
  apply Array.ext
  · simpa using h
  · intro i hi1 hi2
    have hi : i < 3 := by omega
    rcases i with _ | _ | _ | i
    · simp [Array.getD_eq_getD_getElem?, hi1]
    · simp [Array.getD_eq_getD_getElem?, hi1]
    · simp [Array.getD_eq_getD_getElem?, hi1]
    · omega
theorem lol_in {o1 o2 : Ob} {k : Nat} {o' : Ob} (h : lol [o1, o2] k = some o') : (k = 0 ∧ o' = o1) ∨ (k = 1 ∧ o' = o2) := by
  rcases k with _ | _ | k
  · exact .inl ⟨rfl, (Option.some.inj h).symm⟩
  · exact .inr ⟨rfl, (Option.some.inj h).symm⟩
  · simp [lol] at h
theorem lol_out {o1 o2 o3 : Ob} {k : Nat} {o' : Ob} (h : lol ([o1, o2] ++ [o3]) k = some o') : (k = 0 ∧ o' = o1) ∨ (k = 1 ∧ o' = o2) ∨ (k = 2 ∧ o' = o3) := by
  rcases k with _ | _ | _ | k
  · exact .inl ⟨rfl, (Option.some.inj h).symm⟩
  · exact .inr (.inl ⟨rfl, (Option.some.inj h).symm⟩)
  · exact .inr (.inr ⟨rfl, (Option.some.inj h).symm⟩)
  · simp [lol] at h
/-- A row of numbers. -/
abbrev roI (e : TypeId) (l : List Int) : Ob := .arr .own e 1 0 l.length (rowsT (.int .u64) l)
/-- Two rows are given away; what comes back lies in the first one's place, or in new memory. -/
theorem fc_row2 {ok : Nat → Nat → Prop} {ρ : Pl} {w w' : World} {e : TypeId} {l v l' : List Int} {g : Nat} {cs : Array Value} {x : Value}
    (hx : x = .slice (some ⟨g, 0, none⟩) l'.length cs.size) (hc : l'.length ≤ cs.size) (hmax : cs.size ≤ maxLen)
    (hat : w'.heap[g]? = some (.cells cs e (0, 0))) (hv : ∀ i, i < l'.length → cs.getD i undef = .int .u64 (l'.getD i 0))
    (hpo : ρ 0 = some g ∨ w.heap.size ≤ g)
    (hne : ∀ j, j < w.heap.size → ρ 0 ≠ some j → w'.heap[j]? = w.heap[j]?) (hz : w.heap.size ≤ w'.heap.size) (hos : w'.os = w.os) (ht : w'.tape = w.tape) (ho : w'.output = w.output) :
    ∃ ρ' y, Ending.returned x = .returned y ∧ ([Ob.gone 1, Ob.gone 1] : List Ob).length = ([roI e l, roI e v] : List Ob).length ∧
      (V.buf 2 0 0 l'.length).rel (Env.b ⟨w, ρ, lol [roI e l, roI e v], ok⟩) ρ' (lol ([.gone 1, .gone 1] ++ [roI e l'])) w' y ∧
      (∀ k o, lol ([.gone 1, .gone 1] ++ [roI e l']) k = some o → o.rel (Env.b ⟨w, ρ, lol [roI e l, roI e v], ok⟩) ρ' (lol ([.gone 1, .gone 1] ++ [roI e l'])) w' (ρ' k)) ∧
      (∀ k o g, lol ([.gone 1, .gone 1] ++ [roI e l']) k = some o → o.live = true → ρ' k = some g → (w.heap.size ≤ g ∨ own ρ (lol [roI e l, roI e v]) g) ∧ g < w'.heap.size) ∧
      (∀ k k' o o' g, lol ([.gone 1, .gone 1] ++ [roI e l']) k = some o → lol ([.gone 1, .gone 1] ++ [roI e l']) k' = some o' → o.live = true → o'.live = true → ρ' k = some g → ρ' k' = some g → k = k') ∧
      Ext ρ (lol [roI e l, roI e v]) w ρ' (lol ([.gone 1, .gone 1] ++ [roI e l'])) w' ∧ w.heap.size ≤ w'.heap.size ∧ w'.os = w.os ∧ w'.tape = w.tape ∧ w'.output = w.output := by
  have ownG : ∀ {g : Nat}, ρ 0 = some g → own ρ (lol [roI e l, roI e v]) g := fun h => ⟨0, _, rfl, rfl, h⟩
  have own2 : ∀ {j : Nat}, own (fun k => if k = 2 then some g else ρ k) (lol ([.gone 1, .gone 1] ++ [roI e l'])) j → j = g := fun ⟨id, o, a1, a2, a3⟩ => by
    rcases lol_out a1 with ⟨rfl, rfl⟩ | ⟨rfl, rfl⟩ | ⟨rfl, rfl⟩
    · cases a2
    · cases a2
    · exact (Option.some.inj a3).symm
  have hglt : g < w'.heap.size := (Array.getElem?_eq_some_iff.1 hat).1
  refine ⟨fun k => if k = 2 then some g else ρ k, x, rfl, rfl, ?_, fun k o hk => ?_, fun k o g' hk hl hg => ?_, fun k k' o o' g hk hk' h1 h2 _ _ => ?_, ⟨fun j hj hno => ?_, fun j k hj hno => ?_, fun id o hid => ?_⟩, hz, hos, ht, ho⟩
  · exact ⟨_, _, _, hx, hc, rfl, Nat.le_refl _, fun _ => ⟨_, _, _, _, _, rfl, by omega, .inr ⟨g, cs, rfl, fun _ => by simp, hat, by omega⟩⟩⟩
  · rcases lol_out hk with ⟨rfl, rfl⟩ | ⟨rfl, rfl⟩ | ⟨rfl, rfl⟩
    · trivial
    · trivial
    · refine .inr ⟨g, cs, cs.size, rfl, hat, by omega, hc, ⟨hmax, nofun⟩, fun i j hi hj => ?_⟩
      obtain rfl : j = 0 := by omega
      rw [Nat.mul_one, Nat.add_zero, hv i hi]
      exact ⟨rfl, rfl⟩
  · rcases lol_out hk with ⟨rfl, rfl⟩ | ⟨rfl, rfl⟩ | ⟨rfl, rfl⟩
    · cases hl
    · cases hl
    · have hg : some g = some g' := hg
      cases hg
      exact ⟨hpo.elim (fun h => .inr (ownG h)) .inl, hglt⟩
  · rcases lol_out hk with ⟨rfl, rfl⟩ | ⟨rfl, rfl⟩ | ⟨rfl, rfl⟩
    · cases h1
    · cases h1
    · rcases lol_out hk' with ⟨rfl, rfl⟩ | ⟨rfl, rfl⟩ | ⟨rfl, rfl⟩
      · cases h2
      · cases h2
      · rfl
  · refine ⟨hne j hj fun hq => hno (ownG hq), fun k => ?_⟩
    have := own2 k
    subst this
    rcases hpo with h | h
    · exact hno (ownG h)
    · omega
  · have hq : ρ 0 ≠ some j := fun hq => hno ⟨0, _, rfl, rfl, hq, Nat.zero_le _⟩
    refine ⟨World.cell?_of_block (hne j hj hq), fun k => ?_⟩
    have := own2 (own_of_ownc k)
    subst this
    rcases hpo with h | h
    · exact hq h
    · omega
  · rcases lol_in hid with ⟨rfl, rfl⟩ | ⟨rfl, rfl⟩
    · exact ⟨.gone 1, rfl, Nat.zero_le _, fun hv => by cases hv⟩
    · exact ⟨.gone 1, rfl, Nat.zero_le _, fun hv => by cases hv⟩
/-- Cells that are written one behind the other. -/
theorem setCells_at (g : Nat) (e : TypeId) : ∀ (vs : List Value) (o : Nat) (w : World) (cs : Array Value), w.heap[g]? = some (.cells cs e (0, 0)) →
    (∃ cs' : Array Value, (w.setCells g o vs).heap[g]? = some (.cells cs' e (0, 0)) ∧ cs'.size = cs.size ∧ ∀ q, q < cs.size → cs'.getD q undef = if o ≤ q ∧ q < o + vs.length then vs.getD (q - o) undef else cs.getD q undef) ∧
    (∀ j, j ≠ g → (w.setCells g o vs).heap[j]? = w.heap[j]?) ∧ (w.setCells g o vs).heap.size = w.heap.size ∧ (w.setCells g o vs).os = w.os ∧ (w.setCells g o vs).tape = w.tape ∧ (w.setCells g o vs).output = w.output
  | [], o, w, cs, h => ⟨⟨cs, h, rfl, fun q _ => by rw [if_neg (by simp)]⟩, fun _ _ => rfl, rfl, rfl, rfl, rfl⟩
  | v :: vs, o, w, cs, h => by
    have h1 : (w.setCell ⟨g, o, none⟩ v).heap[g]? = some (.cells (cs.setIfInBounds o v) e (0, 0)) := by
      show (w.heap.modify g _)[g]? = _
      rw [Array.getElem?_modify, if_pos rfl, h]
      rfl
    obtain ⟨⟨cs', a1, a2, a3⟩, b1, b2, b3, b4, b5⟩ := setCells_at g e vs (o + 1) (w.setCell ⟨g, o, none⟩ v) _ h1
    refine ⟨⟨cs', a1, by rw [a2]; simp, fun q hq => ?_⟩, fun j hj => ?_, by rw [World.setCells, b2]; show (w.heap.modify g _).size = _; simp, by rw [World.setCells, b3]; rfl, by rw [World.setCells, b4]; rfl, by rw [World.setCells, b5]; rfl⟩
    · rw [a3 q (by simpa using hq)]
      simp only [List.length_cons]
      by_cases c1 : q = o
      · subst c1
        rw [if_neg (by omega), if_pos (by omega), Nat.sub_self]
        simp [Array.getD_eq_getD_getElem?, hq]
      · by_cases c2 : o + 1 ≤ q ∧ q < o + 1 + vs.length
        · rw [if_pos c2, if_pos (by omega), show q - o = q - (o + 1) + 1 by omega]
          simp
        · rw [if_neg c2, if_neg (by omega)]
          simp [Array.getD_eq_getD_getElem?, Ne.symm c1]
    · rw [World.setCells, b1 j hj]
      show (w.heap.modify g _)[j]? = _
      rw [Array.getElem?_modify, if_neg (Ne.symm hj)]
/-- A row with others between. -/
def insI (l : List Int) (i : Nat) (v : List Int) : List Int := l.take i ++ v ++ l.drop i
theorem insI_len (l v : List Int) (i : Nat) (hi : i ≤ l.length) : (insI l i v).length = l.length + v.length := by
  unfold insI
  simp; omega
theorem insI_get (l v : List Int) (i : Nat) (hi : i ≤ l.length) (q : Nat) : (insI l i v).getD q 0 = if q < i then l.getD q 0 else if q < i + v.length then v.getD (q - i) 0 else l.getD (q - v.length) 0 := by
  unfold insI
  simp only [List.getD_eq_getElem?_getD]
  by_cases c1 : q < i
  · rw [if_pos c1, List.append_assoc, List.getElem?_append_left (by simp; omega), List.getElem?_take, if_pos c1]
  · rw [if_neg c1]
    by_cases c2 : q < i + v.length
    · rw [if_pos c2, List.getElem?_append_left (by simp; omega), List.getElem?_append_right (by simp; omega)]
      simp [show min i l.length = i by omega]
    · rw [if_neg c2, List.getElem?_append_right (by simp; omega), List.getElem?_drop]
      congr 2
      simp; omega
theorem enc_get (l : List Int) (q : Nat) (h : q < l.length) : (l.map (Value.int .u64)).getD q undef = .int .u64 (l.getD q 0) := by
  rw [List.getD_eq_getElem?_getD, List.getElem?_map, List.getD_eq_getElem?_getD, List.getElem?_eq_getElem h]
  rfl
/-- What is known of a row that came in. -/
theorem row_cells {b : Nat → Nat → Prop} {ρ : Pl} {O : Ow} {w : World} {e : TypeId} {l : List Int} {g : Nat} {cs : Array Value} (hr : (roI e l).rel b ρ O w (some g)) (hh : w.heap[g]? = some (.cells cs e (0, 0))) :
    l.length ≤ cs.size ∧ cs.size ≤ maxLen ∧ ∀ j, j < l.length → cs.getD j undef = .int .u64 (l.getD j 0) := by
  rcases hr with ⟨q1, _⟩ | ⟨g', cs', cap, q1, q2, q3, q4, q5, q6⟩
  · cases q1
  · cases q1
    rw [hh] at q2; cases q2
    have h1 : cs.size = cap * 1 := q3
    have h2 : l.length ≤ cap := q4
    have h3 : cap ≤ maxLen := q5.1
    refine ⟨by omega, by omega, fun j hj => ?_⟩
    have := (q6 j 0 hj (by omega)).2
    rw [Nat.mul_one, Nat.add_zero] at this
    exact this
theorem map_cells {w : World} {g : Nat} {e : TypeId} {l : List Int} {cs : Array Value} (hh : w.heap[g]? = some (.cells cs e (0, 0))) (h1 : l.length ≤ cs.size) (h2 : ∀ j, j < l.length → cs.getD j undef = .int .u64 (l.getD j 0)) (j : Nat) (x : Value) (hx : (l.map (Value.int .u64))[j]? = some x) : w.cell? ⟨g, 0 + j, none⟩ = some x := by
  have hj : j < l.length := by
    have := (List.getElem?_eq_some_iff.1 hx).1
    simpa using this
  rw [Nat.zero_add, cell_of_row w g j cs e (0, 0) hh, getD_some (by omega), h2 j hj]
  rw [← enc_get l j hj, List.getD_eq_getElem?_getD, hx]
  rfl
theorem one_cells (l : List Int) : ∀ x ∈ l.map (Value.int .u64), x.oneCell' = true := fun x hx => by
  obtain ⟨n, _, rfl⟩ := List.mem_map.1 hx
  rfl
theorem zeros_size (n : Nat) : (Builtin.zeroCells (Value.int .u64 0).cells n).size = n := by
  have : (Value.int .u64 0).cells.size = 1 := rfl
  simp [Builtin.zeroCells, this]
theorem fcInsertU (l v : List Int) (i : Nat) (hi : i ≤ l.length) (hv : 0 < v.length) (hb : (l.length + v.length) * 8 ≤ 140737488355328) :
    FC Try.prog 48 [roI 27 l, roI 27 v] [.buf 0 0 0 l.length, .im (.val (.int .i64 i)), .buf 1 0 0 v.length] ⟨[.gone 1, .gone 1], [roI 27 (insI l i v)], .buf 2 0 0 (insI l i v).length⟩ := by
  refine ⟨in_enters, fun ok ρ w vs hgl h1 h2 h3 h4 h5 => ?_⟩
  have hlen := insI_len l v i hi
  have hml : maxLen = 9223372036854775807 := rfl
  -- what came in
  obtain ⟨A, c, o, k0, k1, k2, -, k3⟩ := h5 0 _ rfl
  obtain rfl : o = roI 27 l := (Option.some.inj k2).symm
  obtain ⟨_, _, _, _, _, ho, _, hp⟩ := k3 rfl
  clear k3
  cases ho
  have j0 : vs.getD 1 undef = .int .i64 i := h5 1 _ rfl
  obtain ⟨B, vc, o, m0, m1, m2, -, m3⟩ := h5 2 _ rfl
  obtain rfl : o = roI 27 v := (Option.some.inj m2).symm
  obtain ⟨_, _, _, _, _, ho, _, hq⟩ := m3 rfl
  clear m3
  cases ho
  rcases hq with ⟨_, _, rfl, _⟩ | ⟨vb, vcs, q1, q2, q3, q4⟩
  · omega
  have hB := q2 (.inr rfl)
  rw [Nat.zero_mul] at hB
  subst hB
  have hv1 := h1 1 _ rfl
  rw [q1] at hv1
  obtain ⟨v1, -, v3⟩ := row_cells hv1 q3
  have hvs := map_cells q3 v1 v3
  rw [in_args h4, k0, j0, m0]
  by_cases hroom : l.length + v.length ≤ c
  · -- in its place
    rcases hp with ⟨_, _, rfl, _⟩ | ⟨g, cs, p1, p2, p3, p4⟩
    · omega
    have hA := p2 (.inr rfl)
    rw [Nat.zero_mul] at hA
    subst hA
    have hl1 := h1 0 _ rfl
    rw [p1] at hl1
    obtain ⟨u1, u2, u3⟩ := row_cells hl1 p3
    have hc : cs.size = c := by omega
    have hvb : vb ≠ g := fun e => by
      have := h3 0 1 _ _ g rfl rfl rfl rfl p1 (by rw [q1, e])
      cases this
    have hglt : g < w.heap.size := (Array.getElem?_eq_some_iff.1 p3).1
    have hsp : ∀ j, j < cs.size → (w.cell? ⟨g, j, none⟩).isSome = true := fun j hj => by
      rw [cell_of_row w g j cs 27 (0, 0) p3, getD_some hj]; rfl
    have hfz : ∀ j, w.frozen? ⟨g, j, none⟩ = false := fun j => by simp [World.frozen?, p3]
    by_cases hend : i = l.length
    · subst hend
      refine (insU_end_room g 0 l.length c vb 0 v.length vc (v.map (Value.int .u64)) w hv hroom (by omega) (by simp) (fun j hj => hsp _ (by omega)) (fun j _ => hfz _) hvs (one_cells v)).mono ?_
      rintro e' w' ⟨rfl, rfl⟩
      obtain ⟨⟨cs', a1, a2, a3⟩, b1, b2, b3, b4, b5⟩ := setCells_at g 27 (v.map (Value.int .u64)) (0 + l.length) w cs p3
      refine fc_row2 (g := g) (cs := cs') (by rw [hlen, a2, hc]) (by omega) (by omega) a1 (fun q hq => ?_) (.inl p1) (fun j hj hn => b1 j fun e => hn (by rw [p1, e])) (by omega) b3 b4 b5
      rw [a3 q (by omega), insI_get l v _ hi]
      simp only [List.length_map, Nat.zero_add]
      by_cases c1 : q < l.length
      · rw [if_pos c1, if_neg (by omega), u3 q c1]
      · rw [if_neg c1, if_pos (by omega), if_pos (by omega), enc_get v _ (by omega)]
    · refine (insU_shift g 0 l.length c i vb 0 v.length vc (l.map (Value.int .u64)) (v.map (Value.int .u64)) w (by omega) hv hroom (by omega) hvb (by simp) (by simp)
        (map_cells p3 u1 u3) (fun j hj => hsp _ (by omega)) (fun j _ => hfz _) hvs (one_cells l) (one_cells v) 27 27 vcs.size cs.size (by simp [World.shape?, q3]) (by simp [World.shape?, p3]) (by omega) (by simp [World.frozen?, q3]) (by simp [World.frozen?, q3])).mono ?_
      rintro e' w' ⟨rfl, rfl⟩
      obtain ⟨⟨cs1, a1, a2, a3⟩, b1, b2, b3, b4, b5⟩ := setCells_at g 27 ((l.map (Value.int .u64)).drop i) (0 + (i + v.length)) w.drew cs p3
      obtain ⟨⟨cs2, d1, d2, d3⟩, e1, e2, e3, e4, e5⟩ := setCells_at g 27 (v.map (Value.int .u64)) (0 + i) _ cs1 a1
      refine fc_row2 (g := g) (cs := cs2) (by rw [hlen, d2, a2, hc]) (by omega) (by omega) d1 (fun q hq => ?_) (.inl p1) (fun j hj hn => ?_) (by rw [e2, b2]; exact Nat.le_refl _) (by rw [e3, b3]; rfl) (by rw [e4, b4]; rfl) (by rw [e5, b5]; rfl)
      · rw [d3 q (by omega), insI_get l v _ hi]
        simp only [List.length_map, Nat.zero_add]
        by_cases c1 : q < i
        · rw [if_pos c1, if_neg (by omega), a3 q (by omega), if_neg (by simp; omega), u3 q (by omega)]
        · rw [if_neg c1]
          by_cases c2 : q < i + v.length
          · rw [if_pos c2, if_pos (by omega), enc_get v _ (by omega)]
          · rw [if_neg c2, if_neg (by omega), a3 q (by omega), if_pos (by simp; omega), List.getD_eq_getElem?_getD, List.getElem?_drop, ← List.getD_eq_getElem?_getD, enc_get l _ (by omega)]
            congr 2; omega
      · have hjg : j ≠ g := fun e => hn (by rw [p1, e])
        rw [e1 j hjg, b1 j hjg]
        rfl
  · -- in new memory
    have hnone : A = none → l.length = 0 := fun hA => by
      rcases hp with ⟨_, _, rfl, _⟩ | ⟨g, cs, p1, p2, p3, p4⟩
      · omega
      · have := p2 (.inr rfl); rw [hA] at this; cases this
    have hcells : ∀ a, A = some a → ∃ g cs, a = ⟨g, 0, none⟩ ∧ w.heap[g]? = some (.cells cs 27 (0, 0)) ∧ l.length ≤ cs.size ∧ ∀ j, j < l.length → cs.getD j undef = .int .u64 (l.getD j 0) := fun a ha => by
      rcases hp with ⟨_, hA, _, _⟩ | ⟨g, cs, p1, p2, p3, p4⟩
      · rw [hA] at ha; cases ha
      · have hA := p2 (.inr rfl)
        rw [Nat.zero_mul, ha] at hA
        cases hA
        have hl1 := h1 0 _ rfl
        rw [p1] at hl1
        obtain ⟨u1, u2, u3⟩ := row_cells hl1 p3
        exact ⟨g, cs, rfl, p3, u1, u3⟩
    generalize hgc : grownCap w (l.length + v.length) c (27) = gc at *
    have hg1 : l.length + v.length ≤ gc := by rw [← hgc]; exact grownCap_ge _ _ _ _
    have hg2 : gc ≤ maxLen := by rw [← hgc]; exact grownCap_le_maxLen _ _ _ _ (by omega)
    by_cases hend : i = l.length
    · subst hend
      refine (insU_end_grow A l.length c vb 0 v.length vc (l.map (Value.int .u64)) (v.map (Value.int .u64)) w hv k1 (by omega) hb (by simp) (by simp) hnone (fun a ha j x hx => ?_) hvs (one_cells v)).mono ?_
      · obtain ⟨g, cs, rfl, p3, u1, u3⟩ := hcells a ha
        have := map_cells p3 u1 u3 j x hx
        rw [Nat.zero_add] at this
        cases j <;> simpa [Addr.add] using this
      rintro e' w' ⟨rfl, rfl⟩
      rw [hgc]
      generalize hcs : ((l.map (Value.int .u64) ++ v.map (Value.int .u64)).toArray ++ Builtin.zeroCells (Value.int .u64 0).cells (gc - (l.length + v.length))) = cs
      have hsz : cs.size = gc := by rw [← hcs, Array.size_append, zeros_size]; simp; omega
      refine fc_row2 (g := w.heap.size) (cs := cs) (by rw [hlen, hsz]) (by omega) (by omega) ?_ (fun q hq => ?_) (.inr (Nat.le_refl _)) (fun j hj _ => ?_) ?_ rfl rfl rfl
      · show (w.heap.push _)[w.heap.size]? = _
        first | (rw [Array.getElem?_push_size]; done) | (rw [Array.getElem?_push_size]; rfl)
      · rw [← hcs, insI_get l v _ hi, Array.getD_eq_getD_getElem?, Array.getElem?_append_left (by simp; omega)]
        simp only [List.getElem?_toArray]
        by_cases c1 : q < l.length
        · rw [if_pos c1, List.getElem?_append_left (by simpa using c1), ← List.getD_eq_getElem?_getD, enc_get l _ c1]
        · rw [if_neg c1, if_pos (by omega), List.getElem?_append_right (by simp; omega), ← List.getD_eq_getElem?_getD, List.length_map, enc_get v _ (by omega)]
      · show (w.heap.push _)[j]? = _
        rw [Array.getElem?_push, if_neg (by omega)]
      · show _ ≤ (w.heap.push _).size
        simp
    · rcases hp with ⟨_, _, rfl, _⟩ | ⟨g, cs0, p1, p2, p3, p4⟩
      · omega
      have hA := p2 (.inr rfl)
      rw [Nat.zero_mul] at hA
      subst hA
      have hl1 := h1 0 _ rfl
      rw [p1] at hl1
      obtain ⟨u1, u2, u3⟩ := row_cells hl1 p3
      refine (insU_grow g 0 l.length c i vb 0 v.length vc (l.map (Value.int .u64)) (v.map (Value.int .u64)) w (by omega) hv k1 (by omega) hb (by simp) (by simp) (map_cells p3 u1 u3) hvs (one_cells l) (one_cells v)).mono ?_
      rintro e' w' ⟨rfl, rfl⟩
      rw [hgc]
      generalize hcs : ((((l.map (Value.int .u64)).take i).toArray ++ Builtin.zeroCells (Value.int .u64 0).cells (l.length + v.length - i) ++ Builtin.zeroCells (Value.int .u64 0).cells (gc - (l.length + v.length)))) = cs
      have hsz : cs.size = gc := by rw [← hcs, Array.size_append, Array.size_append, zeros_size, zeros_size]; simp; omega
      have hat : (w.alloc (.cells cs (27))).drew.heap[w.heap.size]? = some (.cells cs 27 (0, 0)) := by
        show (w.heap.push _)[w.heap.size]? = _
        first | (rw [Array.getElem?_push_size]; done) | (rw [Array.getElem?_push_size]; rfl)
      obtain ⟨⟨cs1, a1, a2, a3⟩, b1, b2, b3, b4, b5⟩ := setCells_at w.heap.size 27 (v.map (Value.int .u64)) i _ cs hat
      obtain ⟨⟨cs2, d1, d2, d3⟩, e1, e2, e3, e4, e5⟩ := setCells_at w.heap.size 27 ((l.map (Value.int .u64)).drop i) (i + v.length) (((w.alloc (.cells cs (27))).drew.setCells w.heap.size i (v.map (Value.int .u64))).drew) cs1 a1
      refine fc_row2 (g := w.heap.size) (cs := cs2) (by rw [hlen, d2, a2, hsz]) (by omega) (by omega) d1 (fun q hq => ?_) (.inr (Nat.le_refl _)) (fun j hj _ => ?_) ?_ (by rw [e3]; exact b3) (by rw [e4]; exact b4) (by rw [e5]; exact b5)
      · rw [d3 q (by omega), insI_get l v _ hi]
        simp only [List.length_map, List.length_drop]
        by_cases c1 : q < i
        · rw [if_pos c1, if_neg (by omega), a3 q (by omega), if_neg (by simp; omega), ← hcs, Array.getD_eq_getD_getElem?, Array.getElem?_append_left (by rw [Array.size_append, zeros_size]; simp; omega), Array.getElem?_append_left (by simp; omega)]
          simp only [List.getElem?_toArray]
          rw [List.getElem?_take, if_pos c1, ← List.getD_eq_getElem?_getD, enc_get l _ (by omega)]
        · rw [if_neg c1]
          by_cases c2 : q < i + v.length
          · rw [if_pos c2, if_neg (by omega), a3 q (by omega), if_pos (by simp; omega), enc_get v _ (by omega)]
          · rw [if_neg c2, if_pos (by omega), List.getD_eq_getElem?_getD, List.getElem?_drop, ← List.getD_eq_getElem?_getD, enc_get l _ (by omega)]
            congr 2; omega
      · rw [e1 j (by omega)]
        show ((w.alloc _).drew.setCells _ _ _).heap[j]? = _
        rw [b1 j (by omega)]
        show (w.heap.push _)[j]? = _
        rw [Array.getElem?_push, if_neg (by omega)]
      · rw [e2]
        show _ ≤ ((w.alloc _).drew.setCells _ _ _).heap.size
        rw [b2]
        show _ ≤ (w.heap.push _).size
        simp
def pInsertU (_ : Nat) : List Int × (Int × (List Int × Unit)) → Option ((Unit × (Unit × Unit)) × List Int) := fun x => bif decide ((0 : Int) ≤ x.2.1 ∧ Int.toNat x.2.1 ≤ x.1.length ∧ 0 < x.2.2.1.length ∧ (x.1.length + x.2.2.1.length) * 8 ≤ 140737488355328) then some (((), (), ()), insI x.1 (Int.toNat x.2.1) x.2.2.1) else none
def eInsertU (fu : Nat) : Ent := ⟨48, .cons (.own .own 27 (.int .u64)) (.cons (.hole (.int .i64)) (.cons (.own .own 27 (.int .u64)) .nil)), .cons .dead (.cons .dead .nil), .own .own 27 (.int .u64), pInsertU fu⟩
theorem gInsertU (fu : Nat) : (eInsertU fu).Good Try.prog := by
  rintro ⟨(l : List Int), (n : Int), (v : List Int), ⟨⟩⟩ ⟨⟨⟩, ⟨⟩, ⟨⟩⟩ z hp
  have hp' : (bif decide ((0 : Int) ≤ n ∧ Int.toNat n ≤ List.length l ∧ 0 < List.length v ∧ (List.length l + List.length v) * 8 ≤ 140737488355328) then some (((), (), ()), insI l (Int.toNat n) v) else none) = some (((), (), ()), z) := hp
  have hp' := cond_some hp'
  obtain ⟨-, rfl⟩ := Prod.mk.inj (Option.some.inj hp'.2)
  have hc : (0 : Int) ≤ n ∧ Int.toNat n ≤ List.length l ∧ 0 < List.length v ∧ (List.length l + List.length v) * 8 ≤ 140737488355328 := of_decide_eq_true hp'.1
  obtain ⟨h0, h1, h2, h3⟩ := hc
  obtain ⟨i, rfl⟩ : ∃ i : Nat, n = (i : Int) := ⟨Int.toNat n, by have : (Int.toNat n : Int) = n := Int.toNat_of_nonneg h0; exact this.symm⟩
  exact fcInsertU l v i (by simpa using h1) h2 h3
end
end Go.Proofs.Ytcfkmeflnglgfaa
