/-
  Layer 21: a call ends; a client finds its shard.
-/
import Derived.Test.YtiiodikdbkpjjaaClD
namespace Go.Proofs.Ytiiodikdbkpjjaa
open Go.RowKit
variable {fu : Nat}
/-- A loop with something behind it, of which something is said. -/
theorem orK_loopP {S E R : Type} {f : S → Option (S ⊕ (E ⊕ R))} {k : E → Option R} {P : Option R → Prop} (I : S → Prop) (m : S → Nat) (Q : E ⊕ R → Prop) {n : Nat} {s : S} (hs : I s) (hn : m s < n) (h : ∀ s, I s → ∃ o, f s = some o ∧ LStep I m Q s o) (hk : ∀ o, Q o → P (orK (some o) k)) : P (orK (loopO n f s) k) := by
  obtain ⟨o, h1, h2⟩ := loopO_rule I m Q h n s hs hn
  rw [h1]
  exact hk o h2
/-- How much is left to try. -/
def Cl.phi (c : Cl) : Int := (24 - c.tries) * 13 + (if c.again = true then 0 else 12 - c.waited)
structure CRuns (c : Cl) (sent : Int) : Prop where
  busy : c.busy = true
  tr : c.tries = sent
  t0 : 0 ≤ sent
  t1 : sent ≤ 24
  w0 : 0 ≤ c.waited
  w1 : c.waited ≤ 11
theorem CRuns.pos {c : Cl} {sent : Int} (h : CRuns c sent) : 0 ≤ c.phi ∧ (24 - c.tries) * 13 ≤ c.phi := by
  have h1 := h.tr
  have h2 := h.t1
  have h3 := h.w1
  unfold Cl.phi
  split <;> omega
def cntS (b : Bool) (sent : Int) : Int := if b then sent + 1 else sent
/-- It ends; or goes on, with less to try. -/
def Goes (c d : Cl) (o : Out) (sent less : Int) : Prop :=
  (o.done = true ∧ o.send = false ∧ d.busy = false) ∨ (o.done = false ∧ CRuns d (cntS o.send sent) ∧ d.phi + less ≤ c.phi)
theorem goes_send {c d : Cl} {sent : Int} (h : CRuns c sent) (h1 : d.tries = c.tries) (h2 : d.busy = true) : Goes c d.send.1 d.send.2 sent 1 := by
  have hp := h.pos.2
  have ht := h.tr
  have t0 := h.t0
  have t1 := h.t1
  unfold Cl.send
  by_cases k : 24 ≤ d.tries
  · rw [if_pos k]; exact .inl ⟨rfl, rfl, rfl⟩
  · rw [if_neg k]
    have hw : IntKind.wrap .i64 (d.tries + 1) = sent + 1 := by rw [i64_wrap (by omega) (by omega)]; omega
    refine .inr ⟨rfl, ⟨h2, ?_, ?_, ?_, Int.le_refl _, (by decide : (0 : Int) ≤ 11)⟩, ?_⟩
    · show IntKind.wrap .i64 (d.tries + 1) = cntS true sent
      rw [hw]; rfl
    · show 0 ≤ sent + 1
      omega
    · show sent + 1 ≤ 24
      omega
    · show (24 - IntKind.wrap .i64 (d.tries + 1)) * 13 + (if false = true then 0 else 12 - 0) + 1 ≤ c.phi
      rw [hw]
      simp
      omega
theorem goes_zero {c : Cl} {sent : Int} (h : CRuns c sent) : Goes c c Out.zero sent 0 := .inr ⟨rfl, h, by omega⟩
theorem goes_later {c d : Cl} {sent : Int} (h : CRuns c sent) (h1 : d.tries = c.tries) (h2 : d.busy = true) : Goes c d.later Out.zero sent 0 := by
  refine .inr ⟨rfl, ⟨h2, ?_, h.t0, h.t1, Int.le_refl _, (by decide : (0 : Int) ≤ 11)⟩, ?_⟩
  · show d.tries = sent
    rw [h1]; exact h.tr
  · have := h.pos.2
    show (24 - d.tries) * 13 + (if true = true then 0 else 12 - 0) + 0 ≤ c.phi
    rw [h1]; simp; omega
theorem goes_fini {c d : Cl} {sent : Int} (n : Int) (r : Rep) : Goes c d.fini (Out.told r) sent n := .inl ⟨rfl, rfl, rfl⟩
theorem Goes.less {c d : Cl} {o : Out} {sent n m : Int} (h : Goes c d o sent n) (hm : m ≤ n) : Goes c d o sent m := by
  rcases h with h | ⟨h1, h2, h3⟩
  · exact .inl h
  · exact .inr ⟨h1, h2, by omega⟩
theorem taught_tries (c : Cl) (r : Rep) : (c.taught r).tries = c.tries := by
  unfold Cl.taught
  split <;> rfl
theorem goes_reply {c : Cl} {sent : Int} (h : CRuns c sent) (r : Rep) : Goes c (c.replyS r).1 (c.replyS r).2 sent 0 := by
  have hb := h.busy
  have hb0 : ¬ c.busy = false := by rw [hb]; decide
  unfold Cl.replyS
  rw [if_neg hb0]
  split
  · exact goes_zero h
  split
  · split
    · unfold Cl.answ
      have hk := (Kin.taught c r).busy.trans hb
      have ht := taught_tries c r
      split
      · exact goes_fini 0 r
      · split
        · exact (goes_send h ht hk).less (by decide)
        · exact goes_later h (d := (c.taught r).nextS) ht hk
    · split
      · unfold Cl.toldL
        split
        · exact (goes_send h (d := c.lead r.leader) rfl hb).less (by decide)
        · exact goes_later h (d := c.forget.nextS) rfl hb
      · split
        · split
          · exact goes_fini 0 r
          · exact goes_later h (d := c.drop.forget.nextS) rfl hb
        · split
          · split
            · exact goes_later h (d := c.forget.nextS) rfl hb
            · exact goes_later h (d := c.drop.forget.nextS) rfl hb
          · split
            · split
              · exact goes_fini 0 Rep.time
              · exact goes_later h (d := c) rfl hb
            · exact goes_fini 0 r
  · exact goes_zero h
theorem goes_tick {c : Cl} {sent : Int} (h : CRuns c sent) : Goes c c.tickS.1 c.tickS.2 sent 1 := by
  have hb := h.busy
  have hb0 : ¬ c.busy = false := by rw [hb]; decide
  have w0 := h.w0
  have w1 := h.w1
  unfold Cl.tickS
  rw [if_neg hb0]
  split
  · exact goes_send h rfl hb
  · rename_i ha
    have hw : c.waits.waited = c.waited + 1 := by
      show IntKind.wrap .i64 (c.waited + 1) = _
      rw [i64_wrap (by omega) (by omega)]
    split
    · split
      · exact goes_fini 1 Rep.time
      · exact goes_send h (d := c.waits.forget.nextS) rfl hb
    · rename_i hx
      rw [hw] at hx
      refine .inr ⟨rfl, ⟨hb, h.tr, h.t0, h.t1, by rw [hw]; omega, by rw [hw]; omega⟩, ?_⟩
      show (24 - c.tries) * 13 + (if c.again = true then 0 else 12 - c.waits.waited) + 1 ≤ (24 - c.tries) * 13 + (if c.again = true then 0 else 12 - c.waited)
      rw [hw, if_neg ha, if_neg ha]
      omega
theorem cnt_is {R : Type} (b : Bool) {sent : Int} (h0 : 0 ≤ sent) (h1 : sent ≤ 24) (k : (Int × Unit) × Unit → Option R) : orK (E := (Int × Unit) × Unit) (bif b then some (.inl ((IntKind.wrap .i64 (sent + 1), ()), ())) else some (.inl ((sent, ()), ()))) k = k ((cntS b sent, ()), ()) := by
  cases b with
  | false => rfl
  | true =>
    simp only [cond_true, orK_inl]
    rw [i64_wrap (by omega) (by omega)]
    rfl
theorem one_is {R : Type} (b : Bool) (k : (Int × Unit) × Unit → Option R) : orK (E := (Int × Unit) × Unit) (bif b then some (.inl (((1 : Int), ()), ())) else some (.inl (((0 : Int), ()), ()))) k = k ((cntS b 0, ()), ()) := by
  cases b <;> rfl
@[reducible] def endS (sent : Int) (i : Int) (c : Cl) (o : Out) := ((sent, i, ()), (c.fl (), o.fl, ()))
/-- A round. -/
def Round {S R : Type} (I : S → Prop) (m : S → Nat) (r : R) (s : S) (z : Option (S ⊕ R)) : Prop := (∃ s', z = some (Sum.inl s') ∧ I s' ∧ m s' < m s) ∨ z = some (Sum.inr r)
theorem loopO_round {S R : Type} {f : S → Option (S ⊕ R)} (I : S → Prop) (m : S → Nat) (r : R) (h : ∀ s, I s → Round I m r s (f s)) (n : Nat) (s : S) (hI : I s) (hm : m s < n) : loopO n f s = some r :=
  loopO_eq I m (fun _ => r) (fun s hs => (h s hs).elim (fun ⟨s', h1, h2, h3⟩ => .inl ⟨s', h1, h2, h3, rfl⟩) .inr) n s hI hm
abbrev ClT : Type := type_of% (Cl.fl Cl.none ())
abbrev OutT : Type := type_of% Out.zero.fl
def EndI (s : (Int × (Int × Unit)) × (ClT × (OutT × Unit))) : Prop := ∃ (i : Nat) (c : Cl) (o : Out) (sent : Int), s = endS sent (i : Int) c o ∧ i ≤ 313 ∧ c.ok (6 * i + 1) ∧ CRuns c sent ∧ c.phi + i ≤ 311
def EndJ (i : Nat) (s : (Int × (Int × Unit)) × (ClT × (OutT × Unit))) : Prop := ∃ (k : Nat) (c : Cl) (o : Out) (sent : Int), s = endS sent (k : Int) c o ∧ k ≤ 5 ∧ c.ok (6 * i + 1 + k) ∧ CRuns c sent ∧ c.phi + i ≤ 311
def EndQ (i : Nat) (r : (((Int × Unit) × (ClT × (OutT × Unit))) ⊕ (((Int × (Int × Unit)) × (ClT × (OutT × Unit))) ⊕ (Unit × Bool)))) : Prop :=
  (∃ (c : Cl) (o : Out) (sent : Int), r = Sum.inl ((sent, ()), (c.fl (), o.fl, ())) ∧ c.ok (6 * i + 6) ∧ CRuns c sent ∧ c.phi + i ≤ 311) ∨ r = Sum.inr (Sum.inr ((), true))
set_option maxRecDepth 100000 in
set_option maxHeartbeats 2000000 in
theorem p6_is (id : Int) (sv : List Int) (x : Ca) (l : List D_api_Reply) (hs : sv.length ≤ 1048576) (hl : l.length ≤ 1048576) (hx : x.ok) (ht : x.topic.size ≤ 140737488355328) (hr : ∀ r ∈ l, (repOf r).ok) (hf : 140737488355330 < fu) :
    p6 fu (id, sv, x.fl (), l, ()) = some ((), true) := by
  have hf' : 4194304 < fu := by omega
  have e10 := p10_is (fu := fu) id sv 9 hs hf'
  unfold p6
  cases hb : newB id sv 9 with
  | false =>
    rw [hb] at e10
    simp only [cond_false, Cl.fl] at e10
    simp only [Ca.fl, p9_is hf, bind_val, e10, Bool.not_true, cond_false]
    rfl
  | true =>
    rw [hb] at e10
    have hc0 := Cl.new_ok id 9 hs (newB_pos hb)
    have e1 := p16_is (fu := fu) (n := 0) (by omega) (Cl.new id sv 9) hc0 1 x hx Rep.zero ⟨⟨Nat.zero_le _, fun _ h => (by cases h)⟩, ⟨Nat.zero_le _, fun _ h => (by cases h)⟩⟩ ht hf
    have hc1 := Cl.step_ok hc0 1 hx (r := Rep.zero) ⟨⟨Nat.zero_le _, fun _ h => (by cases h)⟩, ⟨Nat.zero_le _, fun _ h => (by cases h)⟩⟩
    have hst : (((Cl.new id sv 9).step 1 x Rep.zero).2 = 212) ∨ (((Cl.new id sv 9).step 1 x Rep.zero).2 = 0 ∧ CRuns ((Cl.new id sv 9).step 1 x Rep.zero).1.1 (cntS ((Cl.new id sv 9).step 1 x Rep.zero).1.2.send 0) ∧ ((Cl.new id sv 9).step 1 x Rep.zero).1.1.phi ≤ 311) := by
      unfold Cl.step
      rw [if_pos rfl]
      unfold Cl.callS
      rw [if_neg (show ¬ (Cl.new id sv 9).busy = true from Bool.false_ne_true)]
      split
      · exact .inl rfl
      · refine .inr ⟨rfl, ?_⟩
        have hR : CRuns ((Cl.new id sv 9).calls x) 0 := ⟨rfl, rfl, by decide, by decide, (by decide : (0 : Int) ≤ 0), (by decide : (0 : Int) ≤ 11)⟩
        have := goes_send hR (d := (Cl.new id sv 9).calls x) rfl rfl
        rcases this with ⟨h1, h2, h3⟩ | ⟨h1, h2, h3⟩
        · unfold Cl.send at h1
          rw [if_neg (show ¬ 24 ≤ ((Cl.new id sv 9).calls x).tries from (by decide : ¬ ((24 : Int) ≤ 0)))] at h1
          cases h1
        · refine ⟨h2, ?_⟩
          unfold Cl.send
          rw [if_neg (show ¬ 24 ≤ ((Cl.new id sv 9).calls x).tries from (by decide : ¬ ((24 : Int) ≤ 0)))]
          show (24 - IntKind.wrap .i64 ((0 : Int) + 1)) * 13 + (if false = true then 0 else 12 - (0 : Int)) ≤ 311
          decide
    generalize (Cl.new id sv 9).step 1 x Rep.zero = st at e1 hc1 hst
    generalize Cl.new id sv 9 = c0 at e10 hc0 e1
    obtain ⟨⟨c1, o1⟩, er⟩ := st
    simp only at e1 hc1 hst
    simp only [cond_true, Cl.fl] at e10
    simp only [Cl.fl, inFl, Out.fl, Rep.zero] at e1
    simp only [Ca.fl, p9_is hf, bind_val, e10, Bool.not_true, bneF rfl, decide_true, cond_true, cond_false, e1, one_is]
    rcases hst with rfl | ⟨rfl, hR, hP⟩
    · rfl
    simp only [bneF rfl, cond_false]
    refine loopO_round EndI (fun s => 313 - s.1.2.1.toNat) ((), true) ?_ fu _ ⟨0, c1, o1, _, rfl, Nat.zero_le _, hc1, hR, by omega⟩ (by show 313 - (0 : Int).toNat < fu; omega)
    rintro s ⟨i, c, o, sent, rfl, hi, hc, hR, hP⟩
    have hpos := hR.pos.1
    have hi' : i < 313 := by omega
    have h313 : ((i : Int) < 313) := by omega
    simp only [endS, Cl.fl, Out.fl, h313, decide_true, cond_true]
    refine orK_loopP (P := Round EndI _ ((), true) _) (EndJ i) (fun s => 5 - s.1.2.1.toNat) (EndQ i) ⟨0, c, o, sent, rfl, Nat.zero_le _, hc, hR, hP⟩ (by show 5 - (0 : Int).toNat < fu; omega) ?_ ?_
    · rintro s ⟨k, c, o, sent, rfl, hk, hc, hR, hP⟩
      by_cases hkl : k < l.length
      · by_cases hk5 : k < 5
        · have hkl' : ((k : Int) < (l.length : Int)) := by omega
          have hk5' : ((k : Int) < 5) := by omega
          have hw : IntKind.wrap .i64 ((i : Int) + (k : Int)) = ((i + k : Nat) : Int) := by rw [i64_wrap (by omega) (by omega)]; omega
          have hl0 : ((l.length : Int) == 0) = false := beq_eq_false_iff_ne.2 (by omega)
          have hmod : Int.tmod ((i + k : Nat) : Int) (l.length : Int) = (((i + k) % l.length : Nat) : Int) := by
            rw [Int.tmod_eq_emod_of_nonneg (by omega)]; rfl
          have hlt : (i + k) % l.length < l.length := Nat.mod_lt _ (by omega)
          have hm : l.getD ((i + k) % l.length) (dflt T_api_Reply) ∈ l := by rw [getD_lt hlt]; exact List.getElem_mem _
          have hrr := hr _ hm
          have hlt' : ((((i + k) % l.length : Nat) : Int) < (l.length : Int)) := by omega
          generalize hre : l.getD ((i + k) % l.length) (dflt T_api_Reply) = re at hm hrr
          have e2 := p16_is (fu := fu) (n := 6 * i + 1 + k) (by omega) c hc 2 Ca.zero Ca.zero_ok { repOf re with id := c.number } hrr (by decide) hf
          have hc2 := Cl.step_ok hc 2 Ca.zero_ok (r := { repOf re with id := c.number }) hrr
          have hg := goes_reply hR { repOf re with id := c.number }
          have hst2 : c.step 2 Ca.zero { repOf re with id := c.number } = (c.replyS { repOf re with id := c.number }, 0) := by
            unfold Cl.step; rw [if_neg (by decide), if_pos rfl]
          rw [hst2] at e2 hc2
          generalize c.replyS { repOf re with id := c.number } = st at e2 hc2 hg
          obtain ⟨d, o'⟩ := st
          simp only at e2 hc2 hg
          simp only [Cl.fl, inFl, Out.fl, Ca.zero, Adm.zero] at e2
          simp only [endS, Cl.fl, Out.fl, hkl', hk5', decide_true, cond_true, hl0, Bool.not_false, hw, hmod, Int.natCast_nonneg, hlt', and_self, Int.toNat_natCast, hlt, hre, e2, bind_val, cnt_is o'.send hR.t0 hR.t1]
          rcases hg with ⟨g1, g2, g3⟩ | ⟨g1, g2, g3⟩
          · refine ⟨.inr (.inr (.inr ((), true))), ?_, .inr rfl⟩
            have : cntS o'.send sent ≤ 24 := by rw [g2]; exact hR.t1
            simp only [g1, g3, this, decide_true, cond_true, Bool.not_false, inrO_val]
          · refine ⟨.inl (endS (cntS o'.send sent) ((k + 1 : Nat) : Int) d o'), ?_, ⟨⟨k + 1, d, o', _, rfl, hk5, by rw [show 6 * i + 1 + (k + 1) = 6 * i + 1 + k + 1 by omega]; exact hc2, g2, by omega⟩, by simp only [Int.toNat_natCast]; omega⟩⟩
            simp only [endS, Cl.fl, Out.fl, g1, cond_false, i64_succ hk5 (show 5 ≤ 9223372036854775807 by decide)]
        · have hkl' : ((k : Int) < (l.length : Int)) := by omega
          have hk5' : ¬ ((k : Int) < 5) := by omega
          refine ⟨.inr (.inl ((sent, ()), (c.fl (), o.fl, ()))), ?_, .inl ⟨c, o, sent, rfl, Cl.ok_mono hc (by omega), hR, hP⟩⟩
          simp only [endS, Cl.fl, Out.fl, hkl', hk5', decide_true, decide_false, cond_true, cond_false, inrO_val]
      · have hkl' : ¬ ((k : Int) < (l.length : Int)) := by omega
        refine ⟨.inr (.inl ((sent, ()), (c.fl (), o.fl, ()))), ?_, .inl ⟨c, o, sent, rfl, Cl.ok_mono hc (by omega), hR, hP⟩⟩
        simp only [endS, Cl.fl, Out.fl, hkl', decide_true, decide_false, cond_true, cond_false, inrO_val]
    · rintro r (⟨c, o, sent, rfl, hc, hR, hP⟩ | rfl)
      · have e2 := p16_is (fu := fu) (n := 6 * i + 6) (by omega) c hc 3 Ca.zero Ca.zero_ok Rep.zero ⟨⟨Nat.zero_le _, fun _ h => (by cases h)⟩, ⟨Nat.zero_le _, fun _ h => (by cases h)⟩⟩ (by decide) hf
        have hc2 := Cl.step_ok hc 3 Ca.zero_ok (r := Rep.zero) ⟨⟨Nat.zero_le _, fun _ h => (by cases h)⟩, ⟨Nat.zero_le _, fun _ h => (by cases h)⟩⟩
        have hg := goes_tick hR
        have hst2 : c.step 3 Ca.zero Rep.zero = (c.tickS, 0) := by
          unfold Cl.step; rw [if_neg (by decide), if_neg (by decide), if_pos rfl]
        rw [hst2] at e2 hc2
        generalize c.tickS = st at e2 hc2 hg
        obtain ⟨d, o'⟩ := st
        simp only at e2 hc2 hg
        simp only [Cl.fl, inFl, Out.fl, Ca.zero, Adm.zero, Rep.zero] at e2
        simp only [orK_inl, Cl.fl, e2, bind_val, decide_true, cond_true, cnt_is o'.send hR.t0 hR.t1]
        rcases hg with ⟨g1, g2, g3⟩ | ⟨g1, g2, g3⟩
        · right
          have : cntS o'.send sent ≤ 24 := by rw [g2]; exact hR.t1
          simp only [g1, g3, this, decide_true, cond_true, Bool.not_false, inrO_val]
        · left
          refine ⟨endS (cntS o'.send sent) ((i + 1 : Nat) : Int) d o', ?_, ⟨i + 1, d, o', _, rfl, hi', by rw [show 6 * (i + 1) + 1 = 6 * i + 6 + 1 by omega]; exact hc2, g2, by omega⟩, by simp only [Int.toNat_natCast]; omega⟩
          simp only [endS, Cl.fl, Out.fl, g1, cond_false, i64_succ hi' (show 313 ≤ 9223372036854775807 by decide)]
      · exact .inr rfl
theorem bl_flip (a b : List UInt8) : (Op.bytesLess a b || a == b) = !Op.bytesLess b a := by
  induction a generalizing b with
  | nil => cases b <;> simp [Op.bytesLess]
  | cons x a ih =>
    cases b with
    | nil => simp [Op.bytesLess]
    | cons y b =>
      have := ih b
      simp only [Op.bytesLess] at this ⊢
      by_cases h : x = y
      · subst h
        simpa [UInt8.lt_irrefl] using this
      · have h' : ¬ y = x := fun e => h e.symm
        by_cases hlt : x < y
        · have : ¬ y < x := UInt8.lt_asymm hlt
          simp [h, h', hlt, this]
        · have : y < x := by
            have h1 := UInt8.not_lt.1 hlt
            exact UInt8.lt_of_le_of_ne h1 h'
          simp [h, h', hlt, this]
theorem p35_is (lo hi : ByteArray) : p35 fu ((lo, hi, ()), ()) = some ((), chkK lo hi) := by
  unfold p35 chkK abvK
  dsimp only
  rw [bl_flip hi.toList lo.toList, Bool.not_not]
  by_cases h1 : (lo.size : Int) > 32
  · have h1' : ¬ ((lo.size : Int) ≤ 32) := by omega
    simp only [h1, h1', decide_true, decide_false, cond_true, Bool.not_false]
  · have h1' : ((lo.size : Int) ≤ 32) := by omega
    simp only [h1, h1', decide_true, decide_false, cond_false, Bool.not_true]
    by_cases h2 : (hi.size : Int) > 32
    · have h2' : ¬ ((hi.size : Int) ≤ 32) := by omega
      simp only [h2, h2', decide_true, decide_false, cond_true, Bool.not_false]
    · have h2' : ((hi.size : Int) ≤ 32) := by omega
      simp only [h2, h2', decide_true, decide_false, cond_false, Bool.not_true]
      cases (hi.toList == (⟨#[]⟩ : ByteArray).toList) <;> cases Op.bytesLess lo.toList hi.toList <;> rfl
theorem p19_is (lo hi k : ByteArray) : p19 fu ((lo, hi, ()), k, ()) = some ((), hasK lo hi k) := by
  unfold p19 hasK abvK
  simp only [p35_is, bind_val]
  rw [bl_flip hi.toList k.toList, Bool.not_not]
  cases chkK lo hi == 0 <;> cases decide ((k.size : Int) ≤ 32) <;> cases Op.bytesLess k.toList lo.toList <;> cases (hi.toList == (⟨#[]⟩ : ByteArray).toList) <;> rfl
theorem p77_is (l : List D_api_Record) (h : l.length ≤ 4194304) (hf : 4194304 < fu) : p77 fu (l, l, ()) = some ((), true) := by
  unfold p77
  simp only [bneF rfl, cond_false]
  refine scanT_is l.length _ _ (fun i hi => ?_) ?_ (by omega)
  · simp only [Int.ofNat_lt, hi, decide_true, cond_true, Int.natCast_nonneg, true_and, and_self, Int.toNat_natCast, bneF rfl, cond_false, beq_self_eq_true, Bool.not_true, i64_succ hi (show l.length ≤ 9223372036854775807 by omega)]
  · simp only [Int.lt_irrefl, decide_false, cond_false, inrO_val]
theorem p20_is (r : Rep) (h : r.ok) (hf : 4194304 < fu) : p20 fu (r.fl (), r.fl (), ()) = some ((), true) := by
  have h1 := h.1.1
  unfold p20 p36 p57
  simp only [Rep.fl, p77_is r.recs (show r.recs.length ≤ 4194304 by omega) hf, p26_is r.shards h.2 hf, bind_val, cond_true, beq_self_eq_true]
def cA : Cl := Cl.new 4 [1, 2, 3] 9
theorem cA_ok : cA.ok 0 := Cl.new_ok 4 9 (by decide) (by decide)
/-- Behind the call; behind the shards were told. -/
def cB (x : Ca) : Cl := { (cA.calls x).nx with route := true, group := 0 }
def oB (x : Ca) : Out := ⟨true, 1, ⟨1, 6, 0, Part.zero, Adm.zero, x.topic⟩, false, Rep.zero⟩
def rB (l : List D_api_Shard) : Rep := { Rep.zero with id := 1, shards := l }
def cC (x : Ca) (l : List D_api_Shard) : Cl := (cB x).learn l
theorem first_step (x : Ca) (r : Rep) (hm : mayB x = true) (k5 : ¬ x.kind = 5) (k6 : ¬ x.kind = 6) : cA.step 1 x r = ((cB x, oB x), 0) := by
  unfold Cl.step
  rw [if_pos rfl]
  unfold Cl.callS
  rw [if_neg (show ¬ cA.busy = true from Bool.false_ne_true), if_neg (by rw [hm]; decide)]
  unfold Cl.send
  rw [if_neg (show ¬ 24 ≤ (cA.calls x).tries from (by decide : ¬ ((24 : Int) ≤ 0)))]
  have hq : (cA.calls x).nx.req = (true, ⟨0, 6, 0, Part.zero, Adm.zero, x.topic⟩, 1) := by
    unfold Cl.req
    rw [if_neg (show ¬ (cA.calls x).nx.call.kind = 5 from k5)]
    have hs : (cA.calls x).nx.shard? = none := rfl
    rw [hs]
    show ((x.kind != 6), _, _) = _
    rw [bneT k6]
    rfl
  rw [hq]
  rfl
theorem put_nil {α : Type} (x d : α) (p : α → Bool) : putL [] x d p = [x] := rfl
theorem cC_shard (x : Ca) (l : List D_api_Shard) : (cC x l).shard? = (shardN l x.key).map fun j => l.getD j (dflt T_api_Shard) := by
  have ht : (cC x l).topics = [(x.topic, l)] := rfl
  have hc : (cC x l).call = x := rfl
  unfold Cl.shard? Cl.topic?
  rw [ht, hc]
  have hf : firstN ([(x.topic, l)] : List D_api_Topic).length (fun i => (([(x.topic, l)] : List D_api_Topic).getD i (dflt T_api_Topic)).1.toList == x.topic.toList) = some 0 :=
    firstN_is (Nat.zero_lt_one) (by simp) (fun j hj => absurd hj (Nat.not_lt_zero _))
  rw [hf]
  show (match shardN l x.key with | none => none | some j => some (l.getD j (dflt T_api_Shard))) = _
  cases shardN l x.key <;> rfl
theorem second_step (x : Ca) (l : List D_api_Shard) : (cB x).step 2 Ca.zero (rB l) = (if (shardN l x.key).isSome then (cC x l).send else ((cC x l).nextS.later, Out.zero), 0) := by
  unfold Cl.step
  rw [if_neg (by decide), if_pos rfl]
  unfold Cl.replyS
  rw [if_neg (show ¬ (cB x).busy = false from fun h => by cases h), if_neg (show ¬ (cB x).again = true from Bool.false_ne_true), if_pos (show (rB l).id = (cB x).number from rfl), if_pos (show (rB l).err = 0 from rfl)]
  unfold Cl.answ
  have ht : (cB x).taught (rB l) = cC x l := by
    unfold Cl.taught
    rw [if_pos (.inl rfl)]
    rfl
  rw [ht, if_neg (show ¬ (cC x l).route = false from fun h => by cases h), cC_shard]
  cases shardN l x.key <;> rfl
/-- Behind the shard is asked. -/
def cDD (x : Ca) (l : List D_api_Shard) (s : D_api_Shard) : Cl := { (cC x l).nx with route := false, group := s.1 }
theorem third_send (x : Ca) (l : List D_api_Shard) (j : Nat) (hj : shardN l x.key = some j) (k5 : ¬ x.kind = 5) (k6 : ¬ x.kind = 6) :
    ∃ t q, (cC x l).send = (cDD x l (l.getD j (dflt T_api_Shard)), ⟨true, t, q, false, Rep.zero⟩) ∧ q.kind = x.kind ∧ q.group = (l.getD j (dflt T_api_Shard)).1 ∧ q.part.epoch = (l.getD j (dflt T_api_Shard)).2.2.1 := by
  unfold Cl.send
  rw [if_neg (show ¬ 24 ≤ (cC x l).tries from (by decide : ¬ ((24 : Int) ≤ 1)))]
  have hs : (cC x l).nx.shard? = some (l.getD j (dflt T_api_Shard)) := by
    show (cC x l).shard? = _
    rw [cC_shard, hj]; rfl
  have hq : (cC x l).nx.req = (false, ⟨0, x.kind, (l.getD j (dflt T_api_Shard)).1, (cC x l).nx.command (l.getD j (dflt T_api_Shard)).2.2.1, Adm.zero, ⟨#[]⟩⟩, (cC x l).nx.to (l.getD j (dflt T_api_Shard)).1) := by
    unfold Cl.req
    rw [if_neg (show ¬ (cC x l).nx.call.kind = 5 from k5), hs]
    show (if x.kind = 6 then _ else _) = _
    rw [if_neg k6]
    rfl
  rw [hq]
  refine ⟨_, _, rfl, rfl, rfl, ?_⟩
  show ((cC x l).nx.command (l.getD j (dflt T_api_Shard)).2.2.1).epoch = _
  unfold Cl.command
  repeat' split
  all_goals rfl
theorem fourth_step (x : Ca) (l : List D_api_Shard) (s : D_api_Shard) (r : Rep) (k6 : ¬ x.kind = 6) (hi : r.id = 2) (he : r.err = 0) : (cDD x l s).step 2 Ca.zero r = (((cDD x l s).fini, Out.told r), 0) := by
  unfold Cl.step
  rw [if_neg (by decide), if_pos rfl]
  unfold Cl.replyS
  rw [if_neg (show ¬ (cDD x l s).busy = false from fun h => by cases h), if_neg (show ¬ (cDD x l s).again = true from Bool.false_ne_true), if_pos (show r.id = (cDD x l s).number from hi), if_pos he]
  unfold Cl.answ
  have ht : (cDD x l s).taught r = cDD x l s := by
    unfold Cl.taught
    rw [if_neg (fun h => h.elim (fun h => by cases h) k6)]
  rw [ht, if_pos (show (cDD x l s).route = false from rfl)]
theorem p7head {R : Type} (a b c d e : Bool) (k : (Bool × Unit) × Unit → Option R) : orK (E := (Bool × Unit) × Unit) (bif a then some (.inl ((true, ()), ())) else bif b then some (.inl ((true, ()), ())) else bif c then some (.inl ((true, ()), ())) else bif d then some (.inl ((true, ()), ())) else some (.inl ((e, ()), ()))) k = k ((a || (b || (c || (d || e))), ()), ()) := by
  cases a <;> cases b <;> cases c <;> cases d <;> rfl
/-- The first place from one on. -/
def FindI (n : Nat) (p : Nat → Bool) (s : (Int × (Int × Unit)) × Unit) : Prop := ∃ (i : Nat) (a : Int), s = ((a, (i : Int) - 1, ()), ()) ∧ i ≤ n ∧
  ((a = -1 ∧ ∀ j, i ≤ j → j < n → p j = false) ∨ ∃ j : Nat, a = (j : Int) ∧ i ≤ j ∧ j < n ∧ p j = true ∧ ∀ k, i ≤ k → k < j → p k = false)
set_option maxRecDepth 100000 in
set_option maxHeartbeats 2000000 in
theorem p7_is (x : Ca) (l : List D_api_Shard) (r : Rep) (hx : x.ok) (ht : x.topic.size ≤ 140737488355328) (hl : shsOk l) (hr : r.ok) (hf : 140737488355330 < fu) : p7 fu (x.fl (), l, r.fl (), ()) = some ((), true) := by
  have hf' : 4194304 < fu := by omega
  have zok : Rep.zero.ok := ⟨⟨Nat.zero_le _, fun _ h => (by cases h)⟩, ⟨Nat.zero_le _, fun _ h => (by cases h)⟩⟩
  have hll := hl.1
  have e10 := p10_is (fu := fu) 4 [1, 2, 3] 9 (by decide) hf'
  rw [show newB 4 [1, 2, 3] 9 = true by decide] at e10
  have e1 := p16_is (fu := fu) (n := 0) (by omega) cA cA_ok 1 x hx Rep.zero zok ht hf
  have c1 := Cl.step_ok cA_ok 1 hx zok
  have hcA : cA = Cl.new 4 [1, 2, 3] 9 := rfl
  rw [← hcA] at e10
  simp only [cond_true, Cl.fl] at e10
  unfold p7
  by_cases hg : mayB x = true ∧ ¬ x.kind = 5 ∧ ¬ x.kind = 6
  rotate_left
  · generalize hst : cA.step 1 x Rep.zero = st at e1 c1
    obtain ⟨⟨d, o⟩, e⟩ := st
    simp only at e1
    simp only [Cl.fl, inFl, Out.fl, Rep.zero] at e1
    have hq : ((e != 0) || ((x.kind == 5) || (x.kind == 6))) = true := by
      by_cases k5 : x.kind = 5
      · simp [k5]
      · by_cases k6 : x.kind = 6
        · simp [k6]
        · have hm : mayB x = false := by
            cases h : mayB x with
            | false => rfl
            | true => exact absurd ⟨h, k5, k6⟩ hg
          have : e = 212 := by
            have h2 : (cA.step 1 x Rep.zero).2 = 212 := by
              unfold Cl.step Cl.callS
              rw [if_pos rfl, if_neg (show ¬ cA.busy = true from Bool.false_ne_true), if_pos hm]
            rw [hst] at h2; exact h2
          rw [this]; rfl
    simp only [Ca.fl, Rep.fl, p9_is hf, bind_val, e10, e1, decide_true, cond_true, p7head, Bool.not_true, bneF rfl, Bool.false_or, hq, beq_self_eq_true]
  · obtain ⟨hm, k5, k6⟩ := hg
    rw [first_step x Rep.zero hm k5 k6] at e1 c1
    have e2 := p16_is (fu := fu) (n := 1) (by omega) (cB x) c1 2 Ca.zero Ca.zero_ok (rB l) ⟨zok.1, hl⟩ (by decide) hf
    have c2 := Cl.step_ok c1 2 Ca.zero_ok (r := rB l) ⟨zok.1, hl⟩
    rw [second_step x l] at e2 c2
    generalize hcb : cB x = B at e1 e2
    have hBn : B.number = 1 := by rw [← hcb]; rfl
    simp only [Cl.fl, inFl, Out.fl, oB, Rep.zero, rB, Ca.zero, Adm.zero] at e1 e2
    simp only [Ca.fl, Rep.fl, p9_is hf, bind_val, e10, e1, decide_true, cond_true, p7head, Bool.not_true, bneF rfl, Bool.false_or, beqF k5, beqF k6, cond_false, beq_self_eq_true]
    rw [hBn] at e2 ⊢
    generalize hst : (if (shardN l x.key).isSome = true then (cC x l).send else ((cC x l).nextS.later, Out.zero)) = st at e2 c2
    obtain ⟨d, o⟩ := st
    simp only at e2 c2
    simp only [e2, bind_val]
    have hstart : IntKind.wrap .i64 ((l.length : Int) - 1) = (l.length : Int) - 1 := i64_wrap (by omega) (by omega)
    refine loopO_round (FindI l.length fun j => hasK (l.getD j (dflt T_api_Shard)).2.1.1 (l.getD j (dflt T_api_Shard)).2.1.2 x.key) (fun s => (s.1.2.1 + 1).toNat) ((), true) ?_ fu _ ⟨l.length, -1, by rw [hstart], Nat.le_refl _, .inl ⟨rfl, fun j h1 h2 => absurd h2 (by omega)⟩⟩ (by rw [hstart]; show ((l.length : Int) - 1 + 1).toNat < fu; omega)
    rintro s ⟨i, a, rfl, hi, ha⟩
    by_cases hi0 : i = 0
    · subst hi0
      right
      have h0 : ¬ (((0 : Nat) : Int) - 1 ≥ 0) := by omega
      simp only [h0, decide_false, cond_false]
      rcases ha with ⟨rfl, hn⟩ | ⟨j, rfl, _, hj, hp, hk⟩
      · have hs : shardN l x.key = none := firstN_isNone fun j hj => hn j (Nat.zero_le _) hj
        rw [hs] at hst
        simp only [Option.isSome_none, Bool.false_eq_true, if_false, Prod.mk.injEq] at hst
        obtain ⟨rfl, rfl⟩ := hst
        have b1 : (cC x l).nextS.later.busy = true := rfl
        have b2 : (cC x l).nextS.later.again = true := rfl
        have h1 : ((-1 : Int) < 0) := by decide
        simp only [Out.zero, h1, decide_true, cond_true, Bool.not_false, b1, b2, inrO_val]
      · have hs : shardN l x.key = some j := firstN_is hj hp fun k hk' => hk k (Nat.zero_le _) hk'
        rw [hs] at hst
        simp only [Option.isSome_some, if_true] at hst
        obtain ⟨t, q, hq, q1, q2, q3⟩ := third_send x l j hs k5 k6
        rw [hq] at hst
        simp only [Prod.mk.injEq] at hst
        obtain ⟨rfl, rfl⟩ := hst
        have h1 : ¬ ((j : Int) < 0) := by omega
        have e3 := p16_is (fu := fu) (n := 2) (by omega) (cDD x l (l.getD j (dflt T_api_Shard))) c2 2 Ca.zero Ca.zero_ok { r with id := 2, err := 0 } hr (by decide) hf
        rw [fourth_step x l _ { r with id := 2, err := 0 } k6 rfl rfl] at e3
        have e20 := p20_is (fu := fu) { r with id := 2, err := 0 } hr hf'
        have hn : (cDD x l (l.getD j (dflt T_api_Shard))).number = 2 := rfl
        have hfb : (cDD x l (l.getD j (dflt T_api_Shard))).fini.busy = false := rfl
        generalize (cDD x l (l.getD j (dflt T_api_Shard))).fini = F at e3 hfb
        generalize cDD x l (l.getD j (dflt T_api_Shard)) = D at e3 hn
        simp only [Cl.fl, inFl, Out.fl, Out.told, Rep.fl, Ca.zero, Adm.zero] at e3 e20
        rw [hn] at e3
        simp only [h1, decide_false, cond_false, Bool.not_true, q1, q2, q3, bneF rfl, Int.natCast_nonneg, Int.ofNat_lt, hj, and_self, decide_true, cond_true, Int.toNat_natCast, hn, e3, bind_val, hfb, Bool.not_false, e20, inrO_val]
    · left
      obtain ⟨i, rfl⟩ : ∃ k, i = k + 1 := ⟨i - 1, by omega⟩
      have hi1 : ((i + 1 : Nat) : Int) - 1 = (i : Int) := by omega
      have hil : i < l.length := hi
      have h0 : ((i : Int) ≥ 0) := by omega
      have hw : IntKind.wrap .i64 ((i : Int) - 1) = (i : Int) - 1 := i64_wrap (by omega) (by omega)
      cases hp : hasK (l.getD i (dflt T_api_Shard)).2.1.1 (l.getD i (dflt T_api_Shard)).2.1.2 x.key with
      | true =>
        refine ⟨(((i : Int), (i : Int) - 1, ()), ()), ?_, ⟨i, (i : Int), rfl, by omega, .inr ⟨i, rfl, Nat.le_refl _, hil, hp, fun k h1 h2 => absurd h2 (by omega)⟩⟩, by show ((i : Int) - 1 + 1).toNat < (((i + 1 : Nat) : Int) - 1 + 1).toNat; omega⟩
        simp only [hi1, h0, decide_true, cond_true, Int.natCast_nonneg, Int.ofNat_lt, hil, and_self, Int.toNat_natCast, p19_is, bind_val, hp, hw]
      | false =>
        refine ⟨((a, (i : Int) - 1, ()), ()), ?_, ⟨i, a, rfl, by omega, ?_⟩, by show ((i : Int) - 1 + 1).toNat < (((i + 1 : Nat) : Int) - 1 + 1).toNat; omega⟩
        · simp only [hi1, h0, decide_true, cond_true, Int.natCast_nonneg, Int.ofNat_lt, hil, and_self, Int.toNat_natCast, p19_is, bind_val, hp, cond_false, hw]
        · rcases ha with ⟨h1, h2⟩ | ⟨j, h1, h2, h3, h4, h5⟩
          · refine .inl ⟨h1, fun j hj hjn => ?_⟩
            by_cases e : j = i
            · subst e; exact hp
            · exact h2 j (by omega) hjn
          · refine .inr ⟨j, h1, by omega, h3, h4, fun k hk hkj => ?_⟩
            by_cases e : k = i
            · subst e; exact hp
            · exact h5 k (by omega) hkj
end Go.Proofs.Ytiiodikdbkpjjaa
