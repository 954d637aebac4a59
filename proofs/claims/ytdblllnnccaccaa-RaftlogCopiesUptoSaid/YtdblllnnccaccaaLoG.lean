/-
  Layer 6: slices of a log; what one log tells makes another one the same; slices one behind the other make the log.
-/
import Derived.Test.YtdblllnnccaccaaLoF
namespace Go.Proofs.Ytdblllnnccaccaa
open Go.RowKit
variable {fu : Nat}
theorem lastI {b t : Int} {l : List En} (hc : contig b l) : (if l = [] then (b, t, ()) else ((l.getD (l.length - 1) (dflt T_api_Entry)).1, (l.getD (l.length - 1) (dflt T_api_Entry)).2.1, ())) = (b + (l.length : Int), termAt t l l.length, ()) := by
  by_cases h : l = []
  · subst h; simp [termAt]
  · have h0 : 0 < l.length := List.length_pos_iff.2 h
    have := hc (l.length - 1) (by omega)
    rw [if_neg h, this, termAt, if_neg (by omega)]
    congr 1
    omega
theorem p22_at (b t : Int) (a2 a3 a4 : List Int) (l : List En) (hc : contig b l) (hl : l.length ≤ 4611686018427387903) : p22 fu ((b, t, a2, a3, a4, l, ()), ()) = some ((), (b + (l.length : Int), termAt t l l.length, ())) := by
  rw [p22_is b t a2 a3 a4 l hl, lastI hc]
theorem termI_at {b t : Int} {l : List En} (hc : contig b l) {q : Nat} (hq : q ≤ l.length) : termI b t l (b + (q : Int)) = (termAt t l q, true) := by
  cases q with
  | zero => rw [show b + ((0 : Nat) : Int) = b by omega, termI_base]; rfl
  | succ q => rw [show b + ((q + 1 : Nat) : Int) = b + 1 + (q : Int) by omega, termI_in hc hq, termAt, if_neg (Nat.succ_ne_zero q), Nat.add_sub_cancel]
theorem p11_ex (b t : Int) (a2 a3 a4 : List Int) (l : List En) (i most : Int) {n : Nat} (h0 : 0 ≤ b) (hi : i ≤ 18446744073709551615) (hs : small n l) (hn : n ≤ 4194304) (hc : contig b l) (hf : 4194304 < fu) :
    (p11 fu ((b, t, a2, a3, a4, l, ()), i, most, ()) = some ((), ([], 61, ())) ∧ (i ≤ b ∨ b + (l.length : Int) + 1 < i)) ∨
    ∃ q : Nat, i = b + 1 + (q : Int) ∧ q ≤ l.length ∧ p11 fu ((b, t, a2, a3, a4, l, ()), i, most, ()) = some ((), ((l.drop q).take (min (l.length - q) most.toNat), 0, ())) := by
  have hl := hs.1
  unfold p11
  simp only [p22_at b t a2 a3 a4 l hc (show l.length ≤ 4611686018427387903 by omega), bind_val]
  by_cases h1 : i ≤ b
  · left
    simp only [h1, decide_true, cond_true, true_or, and_self]
  · have w : IntKind.wrap .u64 (i - 1) = i - 1 := wrap_u64 (by omega) (by omega)
    simp only [h1, decide_false, cond_false, w]
    by_cases h2 : i - 1 > b + (l.length : Int)
    · left
      simp only [h2, decide_true, cond_true]
      exact ⟨trivial, .inr (by omega)⟩
    · right
      obtain ⟨q, hq⟩ : ∃ q : Nat, i = b + 1 + (q : Int) := ⟨(i - b - 1).toNat, by omega⟩
      have hq' : q ≤ l.length := by omega
      refine ⟨q, hq, hq', ?_⟩
      have e29 := p29_is (fu := fu) b t a2 a3 a4 l b i hc (by omega) (by omega)
      rw [hq, placeI_at hq', ← hq] at e29
      have hdl : (l.drop q).length = l.length - q := by simp
      have hmin : (if ((l.drop q).length : Int) < (if (0 : Int) > most then (0 : Int) else most) then ((l.drop q).length : Int) else (if (0 : Int) > most then (0 : Int) else most)) = ((min (l.length - q) most.toNat : Nat) : Int) := by
        rw [hdl]; split <;> split <;> omega
      have s1 := small_take (k := min (l.length - q) most.toNat) (small_drop (k := q) hs)
      have l1 := s1.1
      have g1 : min (l.length - q) most.toNat ≤ (l.drop q).length := by rw [hdl]; omega
      simp only [h2, decide_false, cond_false, e29, bind_val, Int.natCast_nonneg, decide_true, cond_true, Int.toNat_natCast, hq', slice_drop, hmin, Nat.zero_le, true_and, g1, p30_is _ (small_fits hn s1) (show ((l.drop q).take (min (l.length - q) most.toNat)).length < fu by omega)]
theorem fol_sub {b t : Int} {l : List En} (h : Fol b t l) {q c : Nat} (hq : q ≤ l.length) : Fol (b + (q : Int)) (termAt t l q) ((l.drop q).take c) := by
  obtain ⟨h1, h2, h3⟩ := h
  have hlen : ((l.drop q).take c).length ≤ l.length - q := by simp; omega
  refine ⟨by omega, by omega, fun i hi => ?_⟩
  have hi2 : i < c ∧ q + i < l.length := by simp at hi; omega
  obtain ⟨k1, k2, k3⟩ := h3 (q + i) hi2.2
  have hg : ∀ j, j < c → ((l.drop q).take c).getD j (dflt T_api_Entry) = l.getD (q + j) (dflt T_api_Entry) := fun j hj => by rw [getD_take _ _ _ _ hj, getD_drop]
  have ht : termAt (termAt t l q) ((l.drop q).take c) i = termAt t l (q + i) := by
    cases i with
    | zero => rfl
    | succ i =>
      unfold termAt
      rw [if_neg (Nat.succ_ne_zero i), if_neg (by omega), Nat.add_sub_cancel, hg i (by omega), show q + (i + 1) - 1 = q + i by omega]
  unfold okE
  rw [hg i hi2.1, ht]
  exact ⟨by omega, k2, k3⟩
theorem p6_is (b t : Int) (a2 a3 a4 : List Int) (l : List En) (b' t' : Int) (c2 c3 c4 : List Int) (l' : List En) (i most : Int) (h0 : 0 ≤ b) (h0' : 0 ≤ b') (hi0 : 0 ≤ i) (hi : i ≤ 18446744073709551615) (hb : smallB c2 c3 c4) (hs : small 1048576 l) (hs' : small 1048576 l') (hf : 4194304 < fu) :
    p6 fu ((b, t, a2, a3, a4, l, ()), (b', t', c2, c3, c4, l', ()), i, most, ()) = some ((), true) := by
  have hl := hs.1
  have hl' := hs'.1
  unfold p6
  obtain ⟨r, e1, e2⟩ := p12_ex (fu := fu) b t a2 a3 a4 l h0 hs (by decide) (by omega)
  obtain ⟨r', f1, f2⟩ := p12_ex (fu := fu) b' t' c2 c3 c4 l' h0' hs' (by decide) (by omega)
  simp only [p9_is hf, e1, f1, bind_val, Bool.not_true, cond_false]
  cases r with
  | false => rfl
  | true =>
    cases r' with
    | false => rfl
    | true =>
      have hfol := e2 rfl
      have hfol' := f2 rfl
      simp only [Bool.not_true, cond_false]
      by_cases hz : i = 0
      · subst hz; rfl
      · have hz' : (i == (0 : Int)) = false := by simpa using hz
        have w : IntKind.wrap .u64 (i - 1) = i - 1 := wrap_u64 (by omega) (by omega)
        simp only [hz', cond_false, w, p21_is b t a2 a3 a4 l (i - 1) hfol.contig (show l.length ≤ 4611686018427387903 by omega) (show l.length < fu by omega), p21_is b' t' c2 c3 c4 l' (i - 1) hfol'.contig (show l'.length ≤ 4611686018427387903 by omega) (show l'.length < fu by omega), bind_val]
        rcases p11_ex (fu := fu) b t a2 a3 a4 l i most h0 hi hs (by decide) hfol.contig hf with ⟨e, _⟩ | ⟨q, hq, hq', e⟩
        · simp only [e, bind_val]; rfl
        · have hat : termI b t l (i - 1) = (termAt t l q, true) := by rw [show i - 1 = b + (q : Int) by omega]; exact termI_at hfol.contig hq'
          simp only [e, bind_val, hat, bne_self_eq_false, cond_false, Bool.not_true]
          obtain ⟨u, ok, hu⟩ : ∃ u ok, termI b' t' l' (i - 1) = (u, ok) := ⟨_, _, rfl⟩
          simp only [hu]
          cases ok with
          | false => rfl
          | true =>
            by_cases ht : termAt t l q = u
            · subst ht
              obtain ⟨S, hS⟩ : ∃ S, (l.drop q).take (min (l.length - q) most.toNat) = S := ⟨_, rfl⟩
              have sS : small 1048576 S := by rw [← hS]; exact small_take (small_drop hs)
              have fS : Fol (i - 1) (termAt t l q) S := by rw [← hS, show i - 1 = b + (q : Int) by omega]; exact fol_sub hfol hq'
              simp only [hS]
              obtain ⟨r, g1, g2⟩ := p19_ex (fu := fu) b' t' c2 c3 c4 l' 0 (i - 1) (termAt t l q) S (by omega) hb hs' sS (by decide) hfol'.contig hf
              have he : r.2.2.2.1 = 0 := by
                rcases g2 with ⟨g2, _⟩ | ⟨_, ⟨_, rfl⟩ | ⟨k, _, _, _, rfl⟩⟩
                · refine absurd ⟨fS, hu, fun j hj hh => ?_⟩ g2
                  have := hh.1
                  rw [fS.contig j hj] at this
                  omega
                · rfl
                · rfl
              obtain ⟨l2, cut, came, rfl, m1, m2, m3⟩ := merge_ok hs' sS hfol'.contig g2 he
              have hll := sS.1
              simp only [Bool.not_true, bne_self_eq_false, cond_false, decide_true, cond_true, g1, bind_val]
              refine loopO_eq (I := fun s => ∃ j : Nat, s = (((j : Int), ()), ((b', t', c2, c3, c4, l2, ()), ())) ∧ j ≤ S.length) (m := fun s => S.length - s.1.1.toNat) (g := fun _ => ((), true)) ?_ fu _ ⟨0, rfl, Nat.zero_le _⟩ (by simp; omega)
              rintro s ⟨j, rfl, hj⟩
              by_cases hj' : j < S.length
              · left
                have hx1 := fS.contig j hj'
                have hx2 := m2.known j hj'
                obtain ⟨x, ex⟩ : ∃ x, S.getD j (dflt T_api_Entry) = x := ⟨_, rfl⟩
                rw [ex] at hx1 hx2
                unfold known at hx2
                have hib : b' ≤ i - 1 := by
                  rcases termI_ok hfol'.contig hu with ⟨z, _⟩ | ⟨k, _, z, _⟩ <;> omega
                rcases termI_ok m2.contig hx2 with ⟨z, _⟩ | ⟨k, k1, k2, k3⟩
                · omega
                · have hp11 : p11 fu ((b', t', c2, c3, c4, l2, ()), x.1, 1, ()) = some ((), ([l2.getD k (dflt T_api_Entry)], 0, ())) := by
                    have := m1.1
                    have hb62 := fS.1
                    have hb63 := fS.2.1
                    rcases p11_ex (fu := fu) b' t' c2 c3 c4 l2 x.1 1 h0' (by omega) m1 (by decide) m2.contig hf with ⟨_, z⟩ | ⟨q', z1, z2, z3⟩
                    · omega
                    · obtain rfl : q' = k := by omega
                      rw [z3]
                      have : min (l2.length - q') (1 : Int).toNat = 1 := by show min (l2.length - q') 1 = 1; omega
                      rw [this, List.drop_eq_getElem_cons k1, getD_lt k1]
                      rfl
                  have hk : ((l2.getD k (dflt T_api_Entry)).2.1 != x.2.1) = false := by rw [k3]; simp
                  refine ⟨((((j + 1 : Nat) : Int), ()), ((b', t', c2, c3, c4, l2, ()), ())), ?_, ⟨j + 1, rfl, hj'⟩, by simp only [Int.toNat_natCast]; omega, rfl⟩
                  simp only [Int.ofNat_lt, hj', decide_true, cond_true, Int.natCast_nonneg, true_and, Int.toNat_natCast, and_self, ex, hp11, bind_val, bne_self_eq_false, cond_false, List.length_singleton, Int.le_refl, List.getD_cons_zero, hk, i64_succ hj' (show S.length ≤ 9223372036854775807 by omega), Int.ofNat_one, Nat.zero_lt_one, show ((0 : Int) < 1) = True by simp]
              · right
                obtain rfl : j = S.length := by omega
                simp [inrO]
            · have ht' : (termAt t l q != u) = true := by simpa using ht
              simp only [Bool.not_true, cond_false, ht', cond_true]
theorem p8_is (b t : Int) (a2 a3 a4 : List Int) (l : List En) (most : Int) (h0 : 0 ≤ b) (hb : smallB a2 a3 a4) (hs : small 1048576 l) (hf : 4194304 < fu) :
    p8 fu ((b, t, a2, a3, a4, l, ()), most, ()) = some ((), true) := by
  have hl := hs.1
  unfold p8
  obtain ⟨r, e1, e2⟩ := p12_ex (fu := fu) b t a2 a3 a4 l h0 hs (by decide) (by omega)
  simp only [p9_is hf, e1, bind_val, Bool.not_true, cond_false]
  cases r with
  | false => rfl
  | true =>
    have hfol := e2 rfl
    simp only [Bool.not_true, cond_false]
    by_cases h1 : most < 1
    · simp only [h1, decide_true, cond_true]
    · simp only [h1, decide_false, cond_false]
      by_cases h2 : most > 50
      · simp only [h2, decide_true, cond_true]
      · simp only [h2, decide_false, cond_false, p22_at b t a2 a3 a4 l hfol.contig (show l.length ≤ 4611686018427387903 by omega), bind_val]
        refine loopO_eq (I := fun s => ∃ i k : Nat, s = (((i : Int), ()), ((b, t, a2, a3, a4, l.take k, ()), ())) ∧ i ≤ k ∧ k ≤ l.length) (m := fun s => l.length - s.1.1.toNat) (g := fun _ => ((), true)) ?_ fu _ ⟨0, 0, by simp, Nat.le_refl _, Nat.zero_le _⟩ (by simp; omega)
        rintro s ⟨i, k, rfl, hi, hk⟩
        have g1 : (i : Int) ≤ (l.length : Int) := by omega
        have hlk : (l.take k).length = k := by simp; omega
        have hck : contig b (l.take k) := fun j hj => by
          rw [hlk] at hj
          rw [getD_take _ _ _ _ hj]
          exact hfol.contig j (by omega)
        have hat : termAt t (l.take k) k = termAt t l k := by
          unfold termAt
          by_cases h : k = 0
          · rw [if_pos h, if_pos h]
          · rw [if_neg h, if_neg h, getD_take _ _ _ _ (by omega)]
        have e22 := p22_at (fu := fu) b t a2 a3 a4 (l.take k) hck (by rw [hlk]; omega)
        rw [hlk, hat] at e22
        by_cases hke : k = l.length
        · right
          subst hke
          rw [List.take_length] at e22 ⊢
          simp only [g1, decide_true, cond_true, e22, bind_val, beq_self_eq_true, p16_refl b t a2 a3 a4 l hb hs (show 1048576 ≤ 4194304 by decide) hf, inrO_val]
        · left
          have hkl : k < l.length := by omega
          have hne : (b + (k : Int) == b + (l.length : Int)) = false := by simp; omega
          have hb1 := hfol.1
          have hb2 := hfol.2.1
          have w : IntKind.wrap .u64 (b + (k : Int) + 1) = b + 1 + (k : Int) := by rw [wrap_u64 (by omega) (by omega)]; omega
          have e11 : p11 fu ((b, t, a2, a3, a4, l, ()), b + 1 + (k : Int), most, ()) = some ((), ((l.drop k).take (min (l.length - k) most.toNat), 0, ())) := by
            rcases p11_ex (fu := fu) b t a2 a3 a4 l (b + 1 + (k : Int)) most h0 (by omega) hs (by decide) hfol.contig hf with ⟨_, z⟩ | ⟨q', z1, z2, z3⟩
            · omega
            · obtain rfl : q' = k := by omega
              exact z3
          obtain ⟨c, hc⟩ : ∃ c, min (l.length - k) most.toNat = c := ⟨_, rfl⟩
          rw [hc] at e11
          have c1 : 0 < c := by omega
          have c2 : c ≤ l.length - k := by omega
          have c3 : (c : Int) ≤ most := by omega
          obtain ⟨S, hS⟩ : ∃ S, (l.drop k).take c = S := ⟨_, rfl⟩
          have sS : small 1048576 S := by rw [← hS]; exact small_take (small_drop hs)
          have fS : Fol (b + (k : Int)) (termAt t l k) S := by rw [← hS]; exact fol_sub hfol hk
          have lS : S.length = c := by rw [← hS]; simp; omega
          obtain ⟨r, q1, q2⟩ := p19_ex (fu := fu) b t a2 a3 a4 (l.take k) b (b + (k : Int)) (termAt t l k) S (by omega) hb (small_take hs) sS (by decide) hck hf
          have hnk : ¬ known b t (l.take k) (S.getD 0 (dflt T_api_Entry)) := fun h => by
            unfold known at h
            rw [fS.contig 0 (by omega)] at h
            rcases termI_ok hck h with ⟨z, _⟩ | ⟨k', z1, z2, _⟩ <;> omega
          have hplace : placeI b (l.take k) (S.getD 0 (dflt T_api_Entry)).1 = k := by
            rw [fS.contig 0 (by omega)]
            exact (congrArg (placeI b (l.take k)) (by omega)).trans (placeI_at (b := b) (l := l.take k) (k := k) (by omega))
          have hr : r = ((b, t, a2, a3, a4, l.take (k + c), ()), 0, S, 0, ()) := by
            rcases q2 with ⟨q2, _⟩ | ⟨_, ⟨z, _⟩ | ⟨j, z1, z2, z3, rfl⟩⟩
            · refine absurd ⟨fS, ?_, fun j hj hh => ?_⟩ q2
              · have := termI_at (t := t) hck (q := k) (by omega)
                rw [this, hat]
              · have := hh.1
                rw [fS.contig j hj] at this
                omega
            · exact absurd (z 0 (by omega)) hnk
            · obtain rfl : j = 0 := by
                cases j with
                | zero => rfl
                | succ j => exact absurd (z2 0 (Nat.succ_pos _)) hnk
              rw [hplace, hlk, if_neg (Nat.lt_irrefl _), List.drop_zero, List.take_take, Nat.min_self, ← hS, ← List.take_add]
          subst hr
          have n1 : ((S.length : Int) == (0 : Int)) = false := by simp; intro h; rw [h] at lS; simp at lS; omega
          have n2 : ¬ ((S.length : Int) > most) := by omega
          refine ⟨((((i + 1 : Nat) : Int), ()), ((b, t, a2, a3, a4, l.take (k + c), ()), ())), ?_, ⟨i + 1, k + c, rfl, by omega, by omega⟩, by simp only [Int.toNat_natCast]; omega, rfl⟩
          simp only [g1, decide_true, cond_true, e22, bind_val, hne, cond_false, w, e11, hS, q1, bne_self_eq_false, n1, n2, decide_false, i64_succ (show i < l.length by omega) (show l.length ≤ 9223372036854775807 by omega)]
end Go.Proofs.Ytdblllnnccaccaa
