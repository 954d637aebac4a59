/-
  gazettelaw14.spoil: it writes over records, and over what lies behind them up to their capacity.
-/
import Derived.Maps.OwnOps
import Derived.Maps.RangeWalk
import Derived.Test.YtlmnhbobgfpanaaChecked
import Derived.Test.YtlmnhbobgfpanaaDaN
namespace Go.Proofs.Ytlmnhbobgfpanaa
open Go.RowKit
structure SpI (ok : Sees) (g c : Nat) (w wr : World) : Prop where
  sc : Scrib (fun g k => ok .new g k) w wr
  rcd : ∀ t, t < c → ∃ x0 s A m q x3 x4, wr.cell? ⟨g, t * 5, none⟩ = some (.int .u64 x0) ∧ wr.cell? ⟨g, t * 5 + 1, none⟩ = some (.string s) ∧ wr.cell? ⟨g, t * 5 + 2, none⟩ = some (.slice A m q) ∧ wr.cell? ⟨g, t * 5 + 3, none⟩ = some (.int .u64 x3) ∧ wr.cell? ⟨g, t * 5 + 4, none⟩ = some (.int .u64 x4) ∧ m ≤ 1073741824 ∧
    ∀ j, j < m → ∃ b o x, A = some ⟨b, o, none⟩ ∧ ok .new b (o + j) ∧ wr.cell? ⟨b, o + j, none⟩ = some (.int .u8 x) ∧ wr.frozen? ⟨b, o + j, none⟩ = false
  zone : ∀ k, k < c * 5 → ok .new g k ∧ wr.frozen? ⟨g, k, none⟩ = false
section
variable {ok : Sees} {g c : Nat} {w wr : World}
theorem sp_scrib {b o : Nat} {u v : Value} (h : Scrib (fun g k => ok .new g k) w wr) (ho : ok .new b o) (hc : wr.cell? ⟨b, o, none⟩ = some u) : Scrib (fun g k => ok .new g k) w (wr.setCell ⟨b, o, none⟩ v) := by
  obtain ⟨a1, a2, a3, a4, a5, a6⟩ := wrote_setCell (v := v) hc
  obtain ⟨b1, b2, b3, b4, b5⟩ := h
  refine ⟨by rw [a1]; exact b1, a6.1.trans b2, a6.2.1.trans b3, a6.2.2.trans b4, fun g hg hk => ?_⟩
  rw [a2 g fun e => hk o (by rw [e]; exact ho)]
  exact b5 g hg hk
theorem SpI.byte {b o : Nat} {x y : Int} (h : SpI ok g c w wr) (ho : ok .new b o) (hc : wr.cell? ⟨b, o, none⟩ = some (.int .u8 x)) : SpI ok g c w (wr.setCell ⟨b, o, none⟩ (.int .u8 y)) ∧
    ∀ b' o' v, wr.cell? ⟨b', o', none⟩ = some v → (∀ n, v ≠ .int .u8 n) → (wr.setCell ⟨b, o, none⟩ (.int .u8 y)).cell? ⟨b', o', none⟩ = some v := by
  have hw := wrote_setCell (v := .int .u8 y) hc
  have keep : ∀ b' o' v, wr.cell? ⟨b', o', none⟩ = some v → (∀ n, v ≠ .int .u8 n) → (wr.setCell ⟨b, o, none⟩ (.int .u8 y)).cell? ⟨b', o', none⟩ = some v := fun b' o' v h1 h2 => by
    rw [hw.cell b' o' fun ⟨e1, e2⟩ => by subst e1; subst e2; rw [hc] at h1; cases h1; exact h2 _ rfl]
    exact h1
  refine ⟨⟨sp_scrib h.sc ho hc, fun t ht => ?_, fun k hk => ⟨(h.zone k hk).1, (hw.frozen _).trans (h.zone k hk).2⟩⟩, keep⟩
  obtain ⟨x0, s, A, m, q, x3, x4, d0, d1, d2, d3, d4, hm, hb⟩ := h.rcd t ht
  refine ⟨x0, s, A, m, q, x3, x4, keep _ _ _ d0 nofun, keep _ _ _ d1 nofun, keep _ _ _ d2 nofun, keep _ _ _ d3 nofun, keep _ _ _ d4 nofun, hm, fun j hj => ?_⟩
  obtain ⟨b', o', x', e1, e2, e3, e4⟩ := hb j hj
  by_cases he : b' = b ∧ o' + j = o
  · exact ⟨b', o', y, e1, e2, by rw [he.1, he.2]; exact hw.at', (hw.frozen _).trans e4⟩
  · exact ⟨b', o', x', e1, e2, (hw.cell _ _ he).trans e3, (hw.frozen _).trans e4⟩
theorem SpI.over {k : Nat} (h : SpI ok g c w wr) (hk : k < c) : SpI ok g c w (((((wr.setCell ⟨g, k * 5, none⟩ (.int .u64 77)).setCell ⟨g, k * 5 + 1, none⟩ (.string ⟨#[]⟩)).setCell ⟨g, k * 5 + 2, none⟩ (.slice none 0 0)).setCell ⟨g, k * 5 + 3, none⟩ (.int .u64 0)).setCell ⟨g, k * 5 + 4, none⟩ (.int .u64 0)) := by
  obtain ⟨x0, s, A, m, q, x3, x4, d0, d1, d2, d3, d4, hm, hb⟩ := h.rcd k hk
  have z := fun j (hj : j < 5) => (h.zone (k * 5 + j) (by omega)).1
  obtain ⟨w1, hw1⟩ : ∃ w1, w1 = wr.setCell ⟨g, k * 5, none⟩ (.int .u64 77) := ⟨_, rfl⟩
  have g1 : Wrote wr w1 g (k * 5) _ := hw1 ▸ wrote_setCell d0
  have s1 : Scrib (fun g k => ok .new g k) w w1 := hw1 ▸ sp_scrib h.sc (z 0 (by omega)) d0
  rw [← hw1]
  have d1' := (g1.cell g (k * 5 + 1) (by omega)).trans d1
  obtain ⟨w2, hw2⟩ : ∃ w2, w2 = w1.setCell ⟨g, k * 5 + 1, none⟩ (.string ⟨#[]⟩) := ⟨_, rfl⟩
  have g2 : Wrote w1 w2 g (k * 5 + 1) _ := hw2 ▸ wrote_setCell d1'
  have s2 : Scrib (fun g k => ok .new g k) w w2 := hw2 ▸ sp_scrib s1 (z 1 (by omega)) d1'
  rw [← hw2]
  have d2' := (g2.cell g (k * 5 + 2) (by omega)).trans ((g1.cell g (k * 5 + 2) (by omega)).trans d2)
  obtain ⟨w3, hw3⟩ : ∃ w3, w3 = w2.setCell ⟨g, k * 5 + 2, none⟩ (.slice none 0 0) := ⟨_, rfl⟩
  have g3 : Wrote w2 w3 g (k * 5 + 2) _ := hw3 ▸ wrote_setCell d2'
  have s3 : Scrib (fun g k => ok .new g k) w w3 := hw3 ▸ sp_scrib s2 (z 2 (by omega)) d2'
  rw [← hw3]
  have d3' := (g3.cell g (k * 5 + 3) (by omega)).trans ((g2.cell g (k * 5 + 3) (by omega)).trans ((g1.cell g (k * 5 + 3) (by omega)).trans d3))
  obtain ⟨w4, hw4⟩ : ∃ w4, w4 = w3.setCell ⟨g, k * 5 + 3, none⟩ (.int .u64 0) := ⟨_, rfl⟩
  have g4 : Wrote w3 w4 g (k * 5 + 3) _ := hw4 ▸ wrote_setCell d3'
  have s4 : Scrib (fun g k => ok .new g k) w w4 := hw4 ▸ sp_scrib s3 (z 3 (by omega)) d3'
  rw [← hw4]
  have d4' := (g4.cell g (k * 5 + 4) (by omega)).trans ((g3.cell g (k * 5 + 4) (by omega)).trans ((g2.cell g (k * 5 + 4) (by omega)).trans ((g1.cell g (k * 5 + 4) (by omega)).trans d4)))
  obtain ⟨w5, hw5⟩ : ∃ w5, w5 = w4.setCell ⟨g, k * 5 + 4, none⟩ (.int .u64 0) := ⟨_, rfl⟩
  have g5 : Wrote w4 w5 g (k * 5 + 4) _ := hw5 ▸ wrote_setCell d4'
  have s5 : Scrib (fun g k => ok .new g k) w w5 := hw5 ▸ sp_scrib s4 (z 4 (by omega)) d4'
  rw [← hw5]
  have fr : ∀ a, w5.frozen? a = wr.frozen? a := fun a => (g5.frozen a).trans ((g4.frozen a).trans ((g3.frozen a).trans ((g2.frozen a).trans (g1.frozen a))))
  have out : ∀ b o, (∀ j, j < 5 → ¬ (b = g ∧ o = k * 5 + j)) → w5.cell? ⟨b, o, none⟩ = wr.cell? ⟨b, o, none⟩ := fun b o hn =>
    (g5.cell b o (hn 4 (by omega))).trans ((g4.cell b o (hn 3 (by omega))).trans ((g3.cell b o (hn 2 (by omega))).trans ((g2.cell b o (hn 1 (by omega))).trans (g1.cell b o (hn 0 (by omega))))))
  refine ⟨s5, fun t ht => ?_, fun j hj => ⟨(h.zone j hj).1, (fr _).trans (h.zone j hj).2⟩⟩
  by_cases htk : t = k
  · subst htk
    refine ⟨77, ⟨#[]⟩, none, 0, 0, 0, 0, ?_, ?_, ?_, ?_, g5.at', by omega, fun j hj => absurd hj (Nat.not_lt_zero _)⟩
    · rw [g5.cell _ _ (by omega), g4.cell _ _ (by omega), g3.cell _ _ (by omega), g2.cell _ _ (by omega)]; exact g1.at'
    · rw [g5.cell _ _ (by omega), g4.cell _ _ (by omega), g3.cell _ _ (by omega)]; exact g2.at'
    · rw [g5.cell _ _ (by omega), g4.cell _ _ (by omega)]; exact g3.at'
    · rw [g5.cell _ _ (by omega)]; exact g4.at'
  · obtain ⟨y0, s', A', m', q', y3, y4, c0, c1, c2, c3, c4, hm', hb'⟩ := h.rcd t ht
    refine ⟨y0, s', A', m', q', y3, y4, (out _ _ (by omega)).trans c0, (out _ _ (by omega)).trans c1, (out _ _ (by omega)).trans c2, (out _ _ (by omega)).trans c3, (out _ _ (by omega)).trans c4, hm', fun j hj => ?_⟩
    obtain ⟨b, o, x, e1, e2, e3, e4⟩ := hb' j hj
    refine ⟨b, o, x, e1, e2, (out _ _ fun i hi he => ?_).trans e3, (fr _).trans e4⟩
    rw [he.1, he.2] at e3
    rcases (by omega : i = 0 ∨ i = 1 ∨ i = 2 ∨ i = 3 ∨ i = 4) with rfl | rfl | rfl | rfl | rfl
    · rw [Nat.add_zero, d0] at e3; cases e3
    · rw [d1] at e3; cases e3
    · rw [d2] at e3; cases e3
    · rw [d3] at e3; cases e3
    · rw [d4] at e3; cases e3
end
set_option maxHeartbeats 4000000 in
set_option maxRecDepth 100000 in
theorem sp_walk (ok : Sees) (A : Option Addr) (n c g : Nat) (w : World) (_ : n ≤ c) (hc : c ≤ maxLen) (hA : 0 < c → A = some ⟨g, 0, none⟩) (h0 : SpI ok g c w w) :
    Calls Try.prog 11 #[.slice A n c] w fun e w' => (∃ r, e = .returned r) ∧ Scrib (fun g k => ok .new g k) w w' := by
  have HI0 : Hid (SpI ok g c w w) := h0
  have HC : c ≤ 9223372036854775807 := by unfold maxLen at hc; omega
  clear h0 hc
  go_enter Try.func11, Try.ntmps11
  go_wp2
  go_loopw [2] (fun i wr => ∃ k : Nat, k ≤ c ∧ i = .int .i64 k ∧ Hid (SpI ok g c w wr))
    (fun i _ => c - (intOf i).toNat)
  case atStart => exact ⟨0, Nat.zero_le _, rfl, HI0⟩
  case round =>
    obtain ⟨k, hk, rfl, HI⟩ := hrel
    clear HI0
    by_cases hkn : k < c
    · obtain rfl := hA (by omega)
      obtain ⟨x0, s, A, m, q, x3, x4, d0, d1, d2, d3, d4, hm, hb⟩ := HI.out.rcd k hkn
      clear hb
      go_wp2
      clear d0 d1 d3 d4
      have HD2 : wr.cell? ⟨g, k * 5 + 2, none⟩ = some (.slice A m q) := d2
      clear d2
      go_loopw [3] (fun i w2 => ∃ j : Nat, j ≤ m ∧ i = .int .i64 j ∧ Hid (SpI ok g c w w2) ∧ w2.cell? ⟨g, k * 5 + 2, none⟩ = some (.slice A m q))
        (fun i _ => m - (intOf i).toNat)
      case atStart => exact ⟨0, Nat.zero_le _, rfl, HI, HD2⟩
      case round =>
        obtain ⟨j, hj, rfl, HJ, d2⟩ := hrel
        clear HI
        by_cases hjm : j < m
        · obtain ⟨_, _, _, _, _, _, _, -, -, e2, -, -, -, hb⟩ := HJ.out.rcd k hkn
          rw [d2] at e2
          cases e2
          obtain ⟨b, o, x, rfl, hz, e5, e6⟩ := hb j hjm
          clear hb
          have hz : Hid _ := hz
          go_wp2
          go_roundw
          case rel =>
            obtain ⟨r1, r2⟩ := HJ.out.byte (y := (x + 1) % 256) hz.out e5
            exact ⟨j + 1, by omega, by go_num, r1, r2 _ _ _ d2 nofun⟩
          case measure => simp [intOf]; omega
        · have hjm' : j = m := by omega
          subst hjm'
          obtain ⟨x0, s, A, m, q, x3, x4, d0, d1, d2', d3, d4, hm, hb⟩ := HJ.out.rcd k hkn
          obtain ⟨f0, f1⟩ := HJ.out.zone (k * 5) (by omega)
          obtain ⟨f2, f3⟩ := HJ.out.zone (k * 5 + 1) (by omega)
          obtain ⟨f4, f5⟩ := HJ.out.zone (k * 5 + 2) (by omega)
          obtain ⟨f6, f7⟩ := HJ.out.zone (k * 5 + 3) (by omega)
          obtain ⟨f8, f9⟩ := HJ.out.zone (k * 5 + 4) (by omega)
          clear hb f0 f2 f4 f6 f8 d2'
          go_wp2
          exact ⟨⟨k + 1, by omega, by go_num, HJ.out.over hkn⟩, by simp [intOf]; omega⟩
    · go_wp2
      go_end0
      exact ⟨⟨_, rfl⟩, HI.out.sc⟩
abbrev spT : Tp := .pair (.int .u64) (.pair .str (.pair (.sl .new (.int .u8)) (.pair (.int .u64) (.int .u64))))
def spP (l : List (den spT)) : Bool := l.all fun r => decide (List.length r.2.2.1 ≤ 1073741824)
def sSpo (_ : Nat) : Spo := ⟨11, false, .sl .new spT, spP, some [.int .u64, .str, .sl, .int .u64, .int .u64]⟩
theorem sp_addr {w : World} {ad : Addr} {u : Value} (h : w.cell? (ad.add 0) = some u) : ∃ b o, ad = ⟨b, o, none⟩ := ⟨_, _, cell_addr h⟩
theorem sp_mem {α : Type} (l : List α) (i : Nat) (d : α) (h : i < l.length) : l.getD i d ∈ l := by
  rw [List.getD_eq_getElem?_getD, List.getElem?_eq_getElem h]
  exact List.getElem_mem _
theorem gSpo (fu : Nat) : (sSpo fu).Good Try.prog := by
  refine ⟨⟨_, Try.func11, by kernel_rfl, rfl⟩, fun (x : List (den spT)) ok v w hp hmo _ _ hs hr => ?_⟩
  obtain ⟨A, n, c, rfl, hn, hc, hA⟩ := hr _ rfl
  have hs : (cellT (.sl .new spT) x 0).rel ok w (.slice A n c) := hs
  obtain ⟨A', c', e, hn', hel⟩ := hs
  cases e
  rcases hA with ⟨rfl, rfl⟩ | ⟨g, cs, e, rfl, hh, hsz, hroom⟩
  · exact sp_walk ok none _ 0 0 w hn hc (fun h => absurd h (Nat.lt_irrefl 0)) ⟨⟨Nat.le_refl _, rfl, rfl, rfl, fun _ _ _ => rfl⟩, fun t ht => absurd ht (Nat.not_lt_zero _), fun k hk => absurd hk (by omega)⟩
  · have hsz : cs.size = c * 5 := hsz
    have hroom : ∀ k, List.length x * 5 ≤ k → k < c * 5 → ok .new g k ∧ cs.getD k undef = (([.int .u64, .str, .sl, .int .u64, .int .u64] : List Zc).getD (k % 5) .ptr).val := hroom
    have hcell : ∀ k, k < c * 5 → w.cell? ⟨g, k, none⟩ = some (cs.getD k undef) := fun k hk => by
      rw [cell_of_row w g k cs e (0, 0) hh, Array.getD_eq_getD_getElem?, Array.getElem?_eq_getElem (by omega)]
      rfl
    have hel' : ∀ i j, i < List.length x → j < 5 → ok .new g (i * 5 + j) ∧ (cellT spT (x.getD i (dflt spT)) j).rel ok w (cs.getD (i * 5 + j) undef) := fun i j hi hj => by
      obtain ⟨ad, u, e1, e2, e3, -, e4⟩ := hel i j hi hj
      cases e1
      rw [Addr.add_lit, Nat.zero_add] at e3
      have e2 := e2.1
      rw [show (⟨g, 0, none⟩ : Addr).off + (i * spT.size + j) = i * 5 + j from Nat.zero_add _] at e2
      have hlt : i * 5 + j < c * 5 := by omega
      have e3 : w.cell? ⟨g, i * 5 + j, none⟩ = some u := e3
      rw [hcell _ hlt] at e3
      cases e3
      exact ⟨e2, e4⟩
    refine sp_walk ok _ _ c g w hn hc (fun _ => rfl) ⟨⟨Nat.le_refl _, rfl, rfl, rfl, fun _ _ _ => rfl⟩, fun t ht => ?_, fun k hk => ⟨?_, frozen_row hh⟩⟩
    · by_cases htn : t < List.length x
      · have r0 := (hel' t 0 htn (by omega)).2
        have r1 := (hel' t 1 htn (by omega)).2
        have r2 := (hel' t 2 htn (by omega)).2
        have r3 := (hel' t 3 htn (by omega)).2
        have r4 := (hel' t 4 htn (by omega)).2
        have hm : List.length (x.getD t (dflt spT)).2.2.1 ≤ 1073741824 := by
          have := List.all_eq_true.1 (show spP x = true from hp) _ (sp_mem x t (dflt spT) htn)
          simpa using this
        generalize x.getD t (dflt spT) = r at r0 r1 r2 r3 r4 hm
        obtain ⟨a0, a1, a2, a3, a4⟩ := r
        obtain ⟨B, q, r2, hq, hb⟩ := r2
        refine ⟨a0, a1, B, _, q, a3, a4, (hcell _ (by omega)).trans (congrArg some r0), (hcell _ (by omega)).trans (congrArg some r1), (hcell _ (by omega)).trans (congrArg some r2), (hcell _ (by omega)).trans (congrArg some r3), (hcell _ (by omega)).trans (congrArg some r4), hm, fun j hj => ?_⟩
        obtain ⟨ad, u, e1, e2, e3, -, e4⟩ := hb j 0 hj Nat.one_pos
        obtain ⟨ab, ao, rfl⟩ : ∃ b o, ad = ⟨b, o, none⟩ := by
          obtain ⟨ad0, _, f1, _, f3, _⟩ := hb 0 0 (by omega) Nat.one_pos
          rw [e1] at f1
          cases f1
          exact sp_addr f3
        have e5 : j * (Tp.int .u8).size + 0 = j := by show j * 1 + 0 = j; omega
        rw [e5] at e2 e3
        rw [Addr.add_lit] at e3
        have e4 : u = .int .u8 (a2.getD j 0) := e4
        exact ⟨ab, ao, a2.getD j 0, e1, e2.1, by rw [e3, e4], e2.2 rfl⟩
      · have hr := fun j (hj : j < 5) => hroom (t * 5 + j) (by omega) (by omega)
        have md : ∀ j, j < 5 → (t * 5 + j) % 5 = j := fun j hj => by omega
        refine ⟨0, ⟨#[]⟩, none, 0, 0, 0, 0, ?_, ?_, ?_, ?_, ?_, by omega, fun j hj => absurd hj (Nat.not_lt_zero _)⟩
        · rw [hcell _ (by omega)]; have := (hr 0 (by omega)).2; rw [md 0 (by omega)] at this; exact congrArg some this
        · rw [hcell _ (by omega)]; have := (hr 1 (by omega)).2; rw [md 1 (by omega)] at this; exact congrArg some this
        · rw [hcell _ (by omega)]; have := (hr 2 (by omega)).2; rw [md 2 (by omega)] at this; exact congrArg some this
        · rw [hcell _ (by omega)]; have := (hr 3 (by omega)).2; rw [md 3 (by omega)] at this; exact congrArg some this
        · rw [hcell _ (by omega)]; have := (hr 4 (by omega)).2; rw [md 4 (by omega)] at this; exact congrArg some this
    · by_cases hkn : k < List.length x * 5
      · have := (hel' (k / 5) (k % 5) (by omega) (by omega)).1
        rwa [show k / 5 * 5 + k % 5 = k by omega] at this
      · exact (hroom k (by omega) hk).1
end Go.Proofs.Ytlmnhbobgfpanaa
