/-
  Layer 21: what a client does by a reply, a tick, a call; a new one; what is the same is told so.
-/
import Derived.Test.YtiiodikdbkpjjaaClA
namespace Go.Proofs.Ytiiodikdbkpjjaa
open Go.RowKit
variable {fu : Nat}
/-- A loop that keeps some. -/
theorem filt_is {α R : Type} (l : List α) (d : α) (f : (List α × Int × Unit) × Unit → Option (((List α × Int × Unit) × Unit) ⊕ R)) (p : α → Bool) (g : List α → R)
    (h1 : ∀ (i : Nat) (v : List α), i < l.length → v.length ≤ i → f ((v, (i : Int), ()), ()) = bif p (l.getD i d) then some (.inl ((v ++ [l.getD i d], ((i + 1 : Nat) : Int), ()), ())) else some (.inl ((v, ((i + 1 : Nat) : Int), ()), ())))
    (h2 : ∀ v : List α, f ((v, (l.length : Int), ()), ()) = some (.inr (g v))) (hf : l.length < fu) : loopO fu f (([], (0 : Int), ()), ()) = some (g (l.filter p)) := by
  refine loopO_eq (I := fun s => ∃ i : Nat, s = (((l.take i).filter p, (i : Int), ()), ()) ∧ i ≤ l.length) (m := fun s => l.length - s.1.2.1.toNat) (g := fun _ => g (l.filter p)) ?_ fu _ ⟨0, by simp, Nat.zero_le _⟩ (by simpa using hf)
  rintro s ⟨i, rfl, hi⟩
  have hlen : ((l.take i).filter p).length ≤ i := Nat.le_trans (List.length_filter_le _ _) (by simp; omega)
  by_cases hi' : i < l.length
  · left
    have e : (l.take (i + 1)).filter p = bif p (l.getD i d) then (l.take i).filter p ++ [l.getD i d] else (l.take i).filter p := by
      rw [take_snoc' hi' d, List.filter_append]
      cases hp : p (l.getD i d) with
      | true => simp only [List.filter_cons, hp, if_true, List.filter_nil, cond_true]
      | false => simp only [List.filter_cons, hp, Bool.false_eq_true, if_false, List.filter_nil, List.append_nil, cond_false]
    refine ⟨_, ?_, ⟨i + 1, rfl, hi'⟩, by simp only [Int.toNat_natCast]; omega, rfl⟩
    rw [h1 i _ hi' hlen, e]
    cases p (l.getD i d) <;> rfl
  · right
    obtain rfl : i = l.length := by omega
    rw [h2, List.take_length]
theorem p89_is (l : List D_api_Site) (g : Int) (hl : l.length ≤ 4194304) (hf : 4194304 < fu) : p89 fu (l, ((), ((g, ()), ())), ()) = some (((g, ()), ()), l.filter fun s => !(s.1 == g)) := by
  unfold p89
  dsimp only
  refine filt_is l (dflt T_api_Site) _ (fun s => !(s.1 == g)) (fun v => (((g, ()), ()), v)) (fun i v hi hv => ?_) (fun v => ?_) (by omega)
  · have h1 : v.length + 1 ≤ maxLen ∧ (v.length + 1) * 16 ≤ 140737488355328 := ⟨by unfold maxLen; omega, by omega⟩
    unfold p97
    simp only [Int.ofNat_lt, hi, decide_true, cond_true, Int.natCast_nonneg, true_and, and_self, Int.toNat_natCast, bind_val, i64_succ hi (show l.length ≤ 9223372036854775807 by omega), List.length_cons, List.length_nil, Nat.zero_add, h1]
  · simp only [Int.lt_irrefl, decide_false, cond_false, decide_true, cond_true, inrO_val]
theorem p88_is (l : List D_api_Topic) (g : ByteArray) (hl : l.length ≤ 4194304) (hf : 4194304 < fu) : p88 fu (l, ((), ((g, ()), ())), ()) = some (((g, ()), ()), l.filter fun s => !(s.1.toList == g.toList)) := by
  unfold p88
  dsimp only
  refine filt_is l (dflt T_api_Topic) _ (fun s => !(s.1.toList == g.toList)) (fun v => (((g, ()), ()), v)) (fun i v hi hv => ?_) (fun v => ?_) (by omega)
  · have h1 : v.length + 1 ≤ maxLen ∧ (v.length + 1) * 40 ≤ 140737488355328 := ⟨by unfold maxLen; omega, by omega⟩
    unfold p94
    simp only [Int.ofNat_lt, hi, decide_true, cond_true, Int.natCast_nonneg, true_and, and_self, Int.toNat_natCast, bind_val, i64_succ hi (show l.length ≤ 9223372036854775807 by omega), List.length_cons, List.length_nil, Nat.zero_add, h1]
  · simp only [Int.lt_irrefl, decide_false, cond_false, decide_true, cond_true, inrO_val]
/-- In the place of the first of which something is so, or behind all. -/
def putL {α : Type} (l : List α) (x d : α) (p : α → Bool) : List α := match firstN l.length (fun i => p (l.getD i d)) with
  | some i => l.set i x
  | none => l ++ [x]
theorem putL_len {α : Type} (l : List α) (x d : α) (p : α → Bool) : (putL l x d p).length ≤ l.length + 1 := by
  unfold putL
  split <;> simp
theorem putL_mem {α : Type} {l : List α} {x d : α} {p : α → Bool} {y : α} (h : y ∈ putL l x d p) : y ∈ l ∨ y = x := by
  unfold putL at h
  split at h
  · rcases List.mem_or_eq_of_mem_set h with h | h
    · exact .inl h
    · exact .inr h
  · simpa using h
theorem p85_is (l : List D_api_Site) (a b g : Int) (hl : l.length ≤ 4194304) (hf : 4194304 < fu) : p85 fu (l, (a, b, ()), ((), ((g, ()), ())), ()) = some (((), (g, ()), ()), putL l (a, b) (dflt T_api_Site) fun s => s.1 == g) := by
  unfold p85 putL
  simp only [p96_is l g hl hf, bind_val]
  cases hc : firstN l.length (fun i => (l.getD i (dflt T_api_Site)).1 == g) with
  | none =>
    have h1 : l.length + 1 ≤ maxLen ∧ (l.length + 1) * 16 ≤ 140737488355328 := ⟨by unfold maxLen; omega, by omega⟩
    have h0 : ¬ ((-1 : Int) ≥ 0) := by omega
    simp only [h0, decide_false, cond_false, List.length_cons, List.length_nil, Nat.zero_add, h1, and_self, decide_true, cond_true]
  | some i =>
    have hi := (firstN_some hc).1
    have h0 : ((i : Int) ≥ 0) := by omega
    simp only [h0, decide_true, cond_true, Int.natCast_nonneg, Int.ofNat_lt, hi, and_self, Int.toNat_natCast, List.length_set]
theorem p82_is (l : List D_api_Topic) (a : ByteArray) (b : List D_api_Shard) (g : ByteArray) (hl : l.length ≤ 4194304) (hf : 4194304 < fu) : p82 fu (l, (a, b, ()), ((), ((g, ()), ())), ()) = some (((), (g, ()), ()), putL l (a, b) (dflt T_api_Topic) fun s => s.1.toList == g.toList) := by
  unfold p82 putL
  simp only [p93_is l g hl hf, bind_val]
  cases hc : firstN l.length (fun i => (l.getD i (dflt T_api_Topic)).1.toList == g.toList) with
  | none =>
    have h1 : l.length + 1 ≤ maxLen ∧ (l.length + 1) * 40 ≤ 140737488355328 := ⟨by unfold maxLen; omega, by omega⟩
    have h0 : ¬ ((-1 : Int) ≥ 0) := by omega
    simp only [h0, decide_false, cond_false, List.length_cons, List.length_nil, Nat.zero_add, h1, and_self, decide_true, cond_true]
  | some i =>
    have hi := (firstN_some hc).1
    have h0 : ((i : Int) ≥ 0) := by omega
    simp only [h0, decide_true, cond_true, Int.natCast_nonneg, Int.ofNat_lt, hi, and_self, Int.toNat_natCast, List.length_set]
theorem p37_is (l : List Int) (g : Int) (hl : l.length ≤ 4194304) (hf : 4194304 < fu) : p37 fu (l, g, ()) = some ((), match firstN l.length (fun i => g == l.getD i 0) with | some i => (i : Int) | none => -1) := by
  unfold p37
  dsimp only
  rw [scan_is l.length _ (fun i => g == l.getD i 0) (fun i => ((), (i : Int))) ((), (-1 : Int)) (fun i hi => ?_) ?_ (by omega)]
  · cases firstN l.length (fun i => g == l.getD i 0) <;> rfl
  · simp only [Int.lt_irrefl, decide_false, cond_false, inrO_val]
  · simp only [Int.ofNat_lt, hi, decide_true, cond_true, Int.natCast_nonneg, true_and, and_self, Int.toNat_natCast, bind_val, inrO_val, i64_succ hi (show l.length ≤ 9223372036854775807 by omega)]
    rfl
theorem p22_is (l : List Int) (g : Int) (hl : l.length ≤ 4194304) (hf : 4194304 < fu) : p22 fu (l, g, ()) = some ((), decide (g ∈ l)) := by
  unfold p22
  simp only [p37_is l g hl hf, bind_val]
  cases hc : firstN l.length (fun i => g == l.getD i 0) with
  | none =>
    have h0 : ¬ ((-1 : Int) ≥ 0) := by omega
    have : g ∉ l := fun hm => by
      obtain ⟨i, hi, rfl⟩ := List.getElem_of_mem hm
      have := firstN_none hc i hi
      rw [getD_lt hi] at this
      simp at this
    simp only [h0, this, decide_false]
  | some i =>
    obtain ⟨hi, hp, _⟩ := firstN_some hc
    have h0 : ((i : Int) ≥ 0) := by omega
    have : g ∈ l := by
      rw [getD_lt hi] at hp
      rw [beq_iff_eq.1 hp]
      exact List.getElem_mem _
    simp only [h0, this, decide_true]
def Cl.nextS (c : Cl) : Cl := { c with at' := if c.at' + 1 = (c.servers.length : Int) then 0 else c.at' + 1 }
def Cl.later (c : Cl) : Cl := { c with waited := 0, again := true }
def Cl.forget (c : Cl) : Cl := { c with leaders := c.leaders.filter fun s => !(s.1 == c.group) }
def Cl.elsew (c : Cl) : Cl := c.forget.nextS.later
theorem Cl.nextS_ok {n : Nat} {c : Cl} (h : c.ok n) : c.nextS.ok n := by
  have h0 := h.at0
  have h1 := h.at1
  refine ⟨h.sv, ?_, ?_, h.top, h.ld, h.ca⟩
  · simp only [Cl.nextS]; split <;> omega
  · simp only [Cl.nextS]; split <;> omega
theorem Cl.later_ok {n : Nat} {c : Cl} (h : c.ok n) : c.later.ok n := ⟨h.sv, h.at0, h.at1, h.top, h.ld, h.ca⟩
theorem Cl.forget_ok {n : Nat} {c : Cl} (h : c.ok n) : c.forget.ok n := ⟨h.sv, h.at0, h.at1, h.top, Nat.le_trans (List.length_filter_le _ _) h.ld, h.ca⟩
theorem Cl.elsew_ok {n : Nat} {c : Cl} (h : c.ok n) : c.elsew.ok n := Cl.later_ok (Cl.nextS_ok (Cl.forget_ok h))
theorem Cl.fini_ok {n : Nat} {c : Cl} (h : c.ok n) : c.fini.ok n := ⟨h.sv, h.at0, h.at1, h.top, h.ld, Ca.zero_ok⟩
theorem Cl.send_ok {n : Nat} {c : Cl} (h : c.ok n) : c.send.1.ok n := by
  unfold Cl.send
  split
  · exact Cl.fini_ok h
  · exact ⟨h.sv, h.at0, h.at1, h.top, h.ld, h.ca⟩
theorem Cl.ok_mono {n m : Nat} {c : Cl} (h : c.ok n) (hm : n ≤ m) : c.ok m := ⟨h.sv, h.at0, h.at1, ⟨Nat.le_trans h.top.1 hm, h.top.2⟩, Nat.le_trans h.ld hm, h.ca⟩
theorem p75_is {n : Nat} (c : Cl) (h : c.ok n) : p75 fu (c.fl zN, ()) = some ((c.nextS.fl zN, (), (), (), (), (), ()), ()) := by
  have h0 := h.at0
  have h1 := h.at1
  have h2 := h.sv
  have e : IntKind.wrap .i64 (c.at' + 1) = c.at' + 1 := i64_wrap (by omega) (by omega)
  unfold p75 Cl.nextS
  simp only [Cl.fl, zN, e]
  by_cases k : c.at' + 1 = (c.servers.length : Int)
  · simp only [beqT k, if_pos k, cond_true, decide_true]
  · simp only [beqF k, if_neg k, cond_false, decide_true, cond_true]
theorem p73_is (c : Cl) : p73 fu (c.fl zN, ()) = some ((c.later.fl zN, (), (), (), (), (), ()), ()) := by
  unfold p73 Cl.later
  simp only [Cl.fl, zN, decide_true, cond_true]
theorem p74_is {n : Nat} (hn : n ≤ 4194304) (c : Cl) (h : c.ok n) (hf : 4194304 < fu) : p74 fu (c.fl zN, ()) = some ((c.forget.fl zN, (), (), (), (), (), ()), ()) := by
  have hl := h.ld
  unfold p74 p86 Cl.forget
  simp only [Cl.fl, zN, bind_val, decide_true, cond_true, p89_is c.leaders c.group (by omega) hf]
theorem p71_is {n : Nat} (hn : n ≤ 4194304) (c : Cl) (h : c.ok n) (hf : 4194304 < fu) : p71 fu (c.fl zN, ()) = some ((c.elsew.fl zN, (), (), (), (), (), ()), ()) := by
  have e1 := p74_is (fu := fu) hn c h hf
  have e2 := p75_is (fu := fu) c.forget (Cl.forget_ok h)
  have e3 := p73_is (fu := fu) c.forget.nextS
  simp only [Cl.fl, zN] at e1 e2 e3
  unfold p71
  simp only [Cl.fl, zN, decide_true, cond_true, e1, e2, e3, bind_val]
  rfl
def Cl.lead (c : Cl) (node : Int) : Cl := { c with leaders := putL c.leaders (c.group, node) (dflt T_api_Site) fun s => s.1 == c.group }
theorem Cl.lead_ok {n : Nat} {c : Cl} (h : c.ok n) (a : Int) : (c.lead a).ok (n + 1) := by
  have h1 := h.ld
  have h2 := putL_len c.leaders (c.group, a) (dflt T_api_Site) fun s => s.1 == c.group
  exact ⟨h.sv, h.at0, h.at1, ⟨Nat.le_succ_of_le h.top.1, h.top.2⟩, by show (putL c.leaders (c.group, a) (dflt T_api_Site) fun s => s.1 == c.group).length ≤ n + 1; omega, h.ca⟩
def Cl.toldL (c : Cl) (node : Int) : Cl × Out := if node ∈ c.servers then (c.lead node).send else (c.elsew, Out.zero)
theorem p68_is {n : Nat} (hn : n + 1 ≤ 4194304) (c : Cl) (h : c.ok n) (a : Int) (hf : 4194304 < fu) : p68 fu (c.fl zN, a, ()) = some (((c.toldL a).1.fl (c.toldL a).2.fl, (), (), (), (), (), ()), ()) := by
  have hl := h.ld
  have hs := h.sv
  have e1 := p66_is (fu := fu) hn (c.lead a) (Cl.lead_ok h a) hf
  have e2 := p71_is (fu := fu) (by omega) c h hf
  unfold p68 p86 Cl.toldL
  simp only [Cl.fl, zN, Cl.lead] at e1 e2
  simp only [Cl.fl, zN, bind_val, decide_true, cond_true, p22_is c.servers a (by omega) hf]
  by_cases k : a ∈ c.servers
  · simp only [k, decide_true, cond_true, if_true, p85_is c.leaders _ _ _ (show c.leaders.length ≤ 4194304 by omega) hf, bind_val, e1]
    rfl
  · simp only [k, decide_false, cond_false, if_false, e2, bind_val]
    rfl
def Cl.drop (c : Cl) : Cl := { c with topics := c.topics.filter fun t => !(t.1.toList == c.call.topic.toList) }
theorem Cl.drop_ok {n : Nat} {c : Cl} (h : c.ok n) : c.drop.ok n := ⟨h.sv, h.at0, h.at1, ⟨Nat.le_trans (List.length_filter_le _ _) h.top.1, fun t ht => h.top.2 t (List.mem_filter.1 ht).1⟩, h.ld, h.ca⟩
def Cl.anew (c : Cl) : Cl := c.drop.elsew
theorem p70_is {n : Nat} (hn : n ≤ 4194304) (c : Cl) (h : c.ok n) (hf : 4194304 < fu) : p70 fu (c.fl zN, ()) = some ((c.anew.fl zN, (), (), (), (), (), ()), ()) := by
  have ht := h.top.1
  have e1 := p71_is (fu := fu) hn c.drop (Cl.drop_ok h) hf
  simp only [Cl.fl, zN, Cl.drop] at e1
  unfold p70 p83
  simp only [Cl.fl, zN, bind_val, decide_true, cond_true, p88_is c.topics _ (show c.topics.length ≤ 4194304 by omega) hf, e1]
  rfl
def Cl.learn (c : Cl) (l : List D_api_Shard) : Cl := { c with topics := putL c.topics (c.call.topic, l) (dflt T_api_Topic) fun t => t.1.toList == c.call.topic.toList }
theorem Cl.learn_ok {n : Nat} {c : Cl} (h : c.ok n) {l : List D_api_Shard} (hl : shsOk l) : (c.learn l).ok (n + 1) := by
  have h1 := h.top.1
  have h2 := putL_len c.topics (c.call.topic, l) (dflt T_api_Topic) fun t => t.1.toList == c.call.topic.toList
  refine ⟨h.sv, h.at0, h.at1, ⟨by show (putL c.topics (c.call.topic, l) (dflt T_api_Topic) fun t => t.1.toList == c.call.topic.toList).length ≤ n + 1; omega, fun t ht => ?_⟩, Nat.le_succ_of_le h.ld, h.ca⟩
  rcases putL_mem (show t ∈ putL c.topics (c.call.topic, l) (dflt T_api_Topic) (fun t => t.1.toList == c.call.topic.toList) from ht) with h' | rfl
  · exact h.top.2 t h'
  · exact hl
def Cl.taught (c : Cl) (r : Rep) : Cl := if c.route = true ∨ c.call.kind = 6 then c.learn r.shards else c
theorem Cl.taught_ok {n : Nat} {c : Cl} (h : c.ok n) {r : Rep} (hr : r.ok) : (c.taught r).ok (n + 1) := by
  unfold Cl.taught
  split
  · exact Cl.learn_ok h hr.2
  · exact Cl.ok_mono h (Nat.le_succ _)
def Cl.answ (c : Cl) (r : Rep) : Cl × Out :=
  if (c.taught r).route = false then ((c.taught r).fini, Out.told r)
  else if (c.taught r).shard?.isSome then (c.taught r).send
  else ((c.taught r).nextS.later, Out.zero)
set_option maxRecDepth 100000 in
theorem p67_is {n : Nat} (hn : n + 1 ≤ 4194304) (c : Cl) (h : c.ok n) (r : Rep) (hr : r.ok) (hf : 4194304 < fu) : p67 fu (c.fl zN, r.fl (), ()) = some (((c.answ r).1.fl (c.answ r).2.fl, (), (), (), (), (), ()), ()) := by
  have ht := h.top.1
  have hl := hr.2.1
  have key : ∀ {R : Type} (k : Unit × (_ × Unit) → Option R), orK (E := Unit × (_ × Unit))
     (orK (E := (Bool × Unit) × Unit)
       (bif c.route then some (.inl ((true, ()), ())) else some (.inl ((c.call.kind == 6, ()), ())))
       fun x => bif x.1.1 then
         Option.bind (p61 fu (r.shards, ())) fun y =>
         Option.bind (p83 fu (c.call.topic, ())) fun z =>
         Option.bind (p82 fu (c.topics, (c.call.topic, y.2, ()), ((), ((z.2.2.1.1, ()), ())), ())) fun u =>
           some (.inl ((), (({ c with topics := u.2 } : Cl).fl zN, ())))
        else some (.inl ((), (c.fl zN, ())))) k = k ((), ((c.taught r).fl zN, ())) := fun k => by
    unfold Cl.taught p83
    by_cases hb : c.route = true
    · have hc : ∀ (α : Type) (x y : α), (bif c.route then x else y) = x := fun _ _ _ => by rw [hb]; rfl
      rw [if_pos (.inl hb)]
      simp only [hc, orK_inl, p61_is (fu := fu) r.shards hr.2 (by omega), bind_val, p82_is c.topics _ _ _ (show c.topics.length ≤ 4194304 by omega) hf, cond_true]
      rfl
    · have hc : ∀ (α : Type) (x y : α), (bif c.route then x else y) = y := fun _ _ _ => by rw [show c.route = false by simpa using hb]; rfl
      by_cases k6 : c.call.kind = 6
      · rw [if_pos (.inr k6)]
        simp only [hc, orK_inl, beqT k6, cond_true, p61_is (fu := fu) r.shards hr.2 (by omega), bind_val, p82_is c.topics _ _ _ (show c.topics.length ≤ 4194304 by omega) hf]
        rfl
      · rw [if_neg (fun h => h.elim hb k6)]
        simp only [hc, orK_inl, beqF k6, cond_false]
  have hk := Cl.taught_ok h hr
  have e69 := p69_is (fu := fu) (c.taught r) r hr hf
  have e84 := p84_is (fu := fu) hn (c.taught r) hk hf
  have e66 := p66_is (fu := fu) hn (c.taught r) hk hf
  have e75 := p75_is (fu := fu) (c.taught r) hk
  have e73 := p73_is (fu := fu) (c.taught r).nextS
  unfold p67
  simp only [Cl.fl, zN, Rep.fl, decide_true, cond_true]
  refine (key _).trans ?_
  simp only [Cl.fl, zN, Rep.fl, Cl.zE] at e69 e84 e66 e75 e73
  unfold Cl.answ
  generalize c.taught r = d at e69 e84 e66 e75 e73 ⊢
  cases hb : d.route with
  | false =>
    rw [hb] at e69
    simp only [hb, Bool.not_false, cond_true, e69, bind_val, if_true]
    rfl
  | true =>
    rw [hb] at e84 e66 e75
    simp only [hb, Bool.not_true, cond_false, e84, bind_val, Bool.true_eq_false, if_false]
    cases hs : d.shard?.isSome with
    | true =>
      simp only [cond_true, e66, bind_val, if_true]
    | false =>
      simp only [cond_false, e75, e73, bind_val, Bool.false_eq_true, if_false]
      rfl
@[reducible] def inFl {α : Type} (k : Int) (x : Ca) (c : Rep) (r : α) := (k, x.kind, x.topic, x.key, x.value, x.offset, x.most, x.name, x.adm.k, x.adm.p, x.adm.s, x.adm.t, x.adm.ns, x.adm.f, x.adm.g, x.adm.ky, x.adm.h, x.adm.i, x.adm.j, x.adm.l, c.id, c.err, c.leader, c.x3, c.x4, c.x5, c.recs, c.x7, c.shards, c.x9, c.x10, c.x11, r)
def routes (e : Int) : Prop := e = 162 ∨ e = 164 ∨ e = 163 ∨ e = 182
instance (e : Int) : Decidable (routes e) := inferInstanceAs (Decidable (_ ∨ _))
def Cl.replyS (c : Cl) (r : Rep) : Cl × Out :=
  if c.busy = false then (c, Out.zero) else if c.again = true then (c, Out.zero) else if r.id = c.number then
    (if r.err = 0 then c.answ r
    else if r.err = 201 then c.toldL r.leader
    else if routes r.err then (if c.call.kind = 5 then (c.fini, Out.told r) else (c.anew, Out.zero))
    else if r.err = 202 then (if c.call.kind = 5 then (c.elsew, Out.zero) else (c.anew, Out.zero))
    else if r.err = 203 then (if c.call.kind = 5 then (c.fini, Out.told Rep.time) else (c.later, Out.zero))
    else (c.fini, Out.told r))
  else (c, Out.zero)
theorem routes_is {R : Type} (e : Int) (k : (Bool × Unit) × Unit → Option R) : orK (E := (Bool × Unit) × Unit)
    (bif e == 162 then some (.inl ((true, ()), ())) else bif e == 164 then some (.inl ((true, ()), ())) else bif e == 163 then some (.inl ((true, ()), ())) else some (.inl (((e == 182), ()), ()))) k = k ((decide (routes e), ()), ()) := by
  unfold routes
  by_cases k1 : e = 162
  · simp [k1, orK]
  · by_cases k2 : e = 164
    · simp [k2, orK]
    · by_cases k3 : e = 163
      · simp [k3, orK]
      · by_cases k4 : e = 182
        · simp [k4, orK]
        · simp [k1, k2, k3, beqF k1, beqF k2, beqF k3, beqF k4, k4, orK]
theorem condF {α : Type} {b : Bool} (h : b = false) (x y : α) : cond b x y = y := by rw [h]; rfl
theorem condT {α : Type} {b : Bool} (h : b = true) (x y : α) : cond b x y = x := by rw [h]; rfl
set_option maxRecDepth 100000 in
theorem p43_is {n : Nat} (hn : n + 1 ≤ 4194304) (c : Cl) (h : c.ok n) (i : Int) (x : Ca) (r : Rep) (hr : r.ok) (hf : 4194304 < fu) :
    p43 fu (c.fl zN, inFl i x r (), ()) = some (((c.replyS r).1.fl (c.replyS r).2.fl, (), (), (), (), (), ()), 0) := by
  have e67 := p67_is (fu := fu) hn c h r hr hf
  have e68 := p68_is (fu := fu) hn c h r.leader hf
  have e69 := p69_is (fu := fu) c r hr hf
  have e70 := p70_is (fu := fu) (by omega) c h hf
  have e71 := p71_is (fu := fu) (by omega) c h hf
  have e72 := p72_is (fu := fu) c hf
  have e73 := p73_is (fu := fu) c
  simp only [Cl.fl, zN, Rep.fl, Cl.zE] at e67 e68 e69 e70 e71 e72 e73
  unfold p43 Cl.replyS
  simp only [Cl.fl, zN, inFl, decide_true, cond_true]
  by_cases b1 : c.busy = false
  · simp only [condT (show (!c.busy) = true by simp [b1]), if_pos b1]; rfl
  have b1' : (!c.busy) = false := by simpa using b1
  simp only [condF b1', if_neg b1]
  by_cases b2 : c.again = true
  · simp only [condT b2, if_pos b2]; rfl
  have b2' : c.again = false := by simpa using b2
  simp only [condF b2', if_neg b2]
  by_cases b3 : r.id = c.number
  rotate_left
  · simp only [condT (bneT b3), if_neg b3]; rfl
  simp only [condF (bneF b3), if_pos b3]
  by_cases c0 : r.err = 0
  · simp only [condT (beqT c0), if_pos c0, e67, bind_val]
  simp only [condF (beqF c0), if_neg c0]
  by_cases c1 : r.err = 201
  · simp only [condT (beqT c1), if_pos c1, e68, bind_val]
  simp only [condF (beqF c1), if_neg c1, routes_is]
  by_cases c2 : routes r.err
  · simp only [c2, decide_true, cond_true, if_true]
    by_cases k5 : c.call.kind = 5
    · simp only [condT (beqT k5), if_pos k5, e69, bind_val]; rfl
    · simp only [condF (beqF k5), if_neg k5, e70, bind_val]; rfl
  simp only [c2, decide_false, cond_false, if_false]
  by_cases c3 : r.err = 202
  · simp only [condT (beqT c3), if_pos c3]
    by_cases k5 : c.call.kind = 5
    · simp only [condT (beqT k5), if_pos k5, e71, bind_val]; rfl
    · simp only [condF (beqF k5), if_neg k5, e70, bind_val]; rfl
  simp only [condF (beqF c3), if_neg c3]
  by_cases c4 : r.err = 203
  · simp only [condT (beqT c4), if_pos c4]
    by_cases k5 : c.call.kind = 5
    · simp only [condT (beqT k5), if_pos k5, e72, bind_val]; rfl
    · simp only [condF (beqF k5), if_neg k5, e73, bind_val]; rfl
  simp only [condF (beqF c4), if_neg c4, e69, bind_val]
  rfl
/-- One tick more was waited. -/
def Cl.waits (c : Cl) : Cl := { c with waited := IntKind.wrap .i64 (c.waited + 1) }
def Cl.tickS (c : Cl) : Cl × Out :=
  if c.busy = false then (c, Out.zero) else if c.again = true then c.send
  else if 12 ≤ c.waits.waited then (if c.call.kind = 5 then (c.waits.forget.nextS.fini, Out.told Rep.time) else c.waits.forget.nextS.send)
  else (c.waits, Out.zero)
set_option maxRecDepth 100000 in
theorem p44_is {n : Nat} (hn : n ≤ 4194304) (c : Cl) (h : c.ok n) (i : Int) (x : Ca) (r : Rep) (hf : 4194304 < fu) :
    p44 fu (c.fl zN, inFl i x r (), ()) = some ((c.tickS.1.fl c.tickS.2.fl, (), (), (), (), (), ()), 0) := by
  have hw : c.waits.ok n := ⟨h.sv, h.at0, h.at1, h.top, h.ld, h.ca⟩
  have hw2 := Cl.nextS_ok (Cl.forget_ok hw)
  have e66 := p66_is (fu := fu) hn c h hf
  have e74 := p74_is (fu := fu) hn c.waits hw hf
  have e75 := p75_is (fu := fu) c.waits.forget (Cl.forget_ok hw)
  have e72 := p72_is (fu := fu) c.waits.forget.nextS hf
  have e66' := p66_is (fu := fu) hn c.waits.forget.nextS hw2 hf
  have hk : c.waits.forget.nextS.call.kind = c.call.kind := rfl
  have hx : c.waits.waited = IntKind.wrap .i64 (c.waited + 1) := rfl
  unfold p44 Cl.tickS
  simp only [Cl.fl, zN] at e66
  simp only [Cl.fl, zN, inFl, decide_true, cond_true]
  by_cases b1 : c.busy = false
  · simp only [condT (show (!c.busy) = true by simp [b1]), if_pos b1]; rfl
  have b1' : (!c.busy) = false := by simpa using b1
  simp only [condF b1', if_neg b1]
  by_cases b2 : c.again = true
  · simp only [condT b2, if_pos b2, e66, bind_val]
  have b2' : c.again = false := by simpa using b2
  simp only [condF b2', if_neg b2]
  by_cases b3 : 12 ≤ c.waits.waited
  · have b3' : IntKind.wrap .i64 (c.waited + 1) ≥ 12 := b3
    simp only [b3', decide_true, cond_true, if_pos b3]
    have e74' := e74
    simp only [Cl.fl, zN, Cl.waits] at e74'
    generalize hg : c.waits.forget = g at e74 e75 e72 e66' hk ⊢
    simp only [Cl.fl, zN, Cl.waits] at e74
    simp only [Cl.fl, zN] at e75
    simp only [e74, bind_val, e75]
    generalize g.nextS = g' at e72 e66' hk ⊢
    simp only [Cl.fl, zN, Cl.zE] at e72 e66'
    by_cases k5 : c.call.kind = 5
    · simp only [condT (beqT (hk.trans k5)), if_pos k5, e72, bind_val]; rfl
    · simp only [condF (beqF (fun e => k5 (hk.symm.trans e))), if_neg k5, e66', bind_val]
  · have b3' : ¬ (IntKind.wrap .i64 (c.waited + 1) ≥ 12) := b3
    simp only [b3', decide_false, cond_false, if_neg b3]
    rfl
/-- A byte that no name has. -/
def badB (b : Int) : Bool := (decide (b < 97) || decide (b > 122)) && ((decide (b < 48) || decide (b > 57)) && ((b != 45) && ((b != 95) && (b != 46))))
theorem nest7 {α : Type} (a b c d e f g : Bool) (x y : α) :
    (bif a then (bif c then (bif e then (bif f then (bif g then x else y) else y) else y) else (bif d then (bif e then (bif f then (bif g then x else y) else y) else y) else y))
      else (bif b then (bif c then (bif e then (bif f then (bif g then x else y) else y) else y) else (bif d then (bif e then (bif f then (bif g then x else y) else y) else y) else y)) else y)) =
    bif (a || b) && ((c || d) && (e && (f && g))) then x else y := by
  cases a <;> cases b <;> cases c <;> cases d <;> cases e <;> cases f <;> cases g <;> rfl
def nameB (s : ByteArray) : Bool := match firstN (numsOf s).length (fun i => badB ((numsOf s).getD i 0)) with
  | some _ => false
  | none => decide ((s.size : Int) ≥ 1) && decide ((s.size : Int) ≤ 32)
theorem p80_is (s : ByteArray) (hs : (numsOf s).length < fu) (h63 : (numsOf s).length ≤ 9223372036854775807) : p80 fu (s, ()) = some ((), nameB s) := by
  unfold p80
  dsimp only
  rw [scan_is (numsOf s).length _ (fun i => badB ((numsOf s).getD i 0)) (fun _ => ((), false)) ((), decide ((s.size : Int) ≥ 1) && decide ((s.size : Int) ≤ 32)) (fun i hi => ?_) ?_ hs]
  · unfold nameB
    cases firstN (numsOf s).length (fun i => badB ((numsOf s).getD i 0)) <;> rfl
  · simp only [Int.lt_irrefl, decide_false, cond_false]
    cases decide ((s.size : Int) ≥ 1) <;> rfl
  · have hw := i64_succ hi h63
    simp only [Int.ofNat_lt, hi, decide_true, cond_true, Int.natCast_nonneg, true_and, and_self, Int.toNat_natCast, hw]
    exact nest7 _ _ _ _ _ _ _ _ _
def mayB (x : Ca) : Bool := if x.kind = 5 then decide (x.adm.k ≥ 1) && decide (x.adm.k ≤ 4) else decide (x.kind ≥ 1) && (decide (x.kind ≤ 6) && nameB x.topic)
theorem p64_is (x : Ca) (hs : (numsOf x.topic).length < fu) (h63 : (numsOf x.topic).length ≤ 9223372036854775807) : p64 fu (x.fl (), ()) = some ((), mayB x) := by
  unfold p64 mayB
  simp only [Ca.fl, p80_is x.topic hs h63, bind_val]
  by_cases k : x.kind = 5
  · simp only [beqT k, cond_true, if_pos k]
    cases decide (x.adm.k ≥ 1) <;> rfl
  · simp only [beqF k, cond_false, if_neg k]
    cases decide (x.kind ≥ 1) <;> cases decide (x.kind ≤ 6) <;> rfl
def chB (k : Int) : Bool := k == 1 || (k == 3 || k == 5)
theorem p65_is (k : Int) : p65 fu (k, ()) = some ((), chB k) := by
  unfold p65 chB
  dsimp only
  cases k == 1 <;> cases k == 3 <;> rfl
def Cl.calls (c : Cl) (x : Ca) : Cl := { c with busy := true, call := x, seq := bif chB x.kind then IntKind.wrap .u64 (c.seq + 1) else c.seq }
def Cl.callS (c : Cl) (x : Ca) : (Cl × Out) × Int :=
  if c.busy = true then ((c, Out.zero), 211) else if mayB x = false then ((c, Out.zero), 212) else ((c.calls x).send, 0)
set_option maxRecDepth 100000 in
theorem p42_is {n : Nat} (hn : n ≤ 4194304) (c : Cl) (h : c.ok n) (i : Int) (x : Ca) (hx : x.ok) (r : Rep) (hs : (numsOf x.topic).length < fu) (h63 : (numsOf x.topic).length ≤ 9223372036854775807) (hf : 4194304 < fu) :
    p42 fu (c.fl zN, inFl i x r (), ()) = some (((c.callS x).1.1.fl (c.callS x).1.2.fl, (), (), (), (), (), ()), (c.callS x).2) := by
  have hc : (c.calls x).ok n := ⟨h.sv, h.at0, h.at1, h.top, h.ld, hx⟩
  have e66 := p66_is (fu := fu) hn (c.calls x) hc hf
  have e64 := p64_is (fu := fu) x hs h63
  have e41 := p41_is (fu := fu) x hx
  simp only [Ca.fl] at e64 e41
  unfold p42 Cl.callS
  simp only [Cl.fl, zN, inFl, decide_true, cond_true, e64, bind_val, e41, p65_is]
  by_cases b1 : c.busy = true
  · simp only [condT b1, if_pos b1]; rfl
  have b1' : c.busy = false := by simpa using b1
  simp only [condF b1', if_neg b1]
  cases b2 : mayB x with
  | false => simp only [Bool.not_false, cond_true, if_true]; rfl
  | true =>
    simp only [Bool.not_true, cond_false, Bool.true_eq_false, if_false]
    simp only [Cl.fl, zN, Cl.calls] at e66
    cases b3 : chB x.kind with
    | true =>
      simp only [b3, cond_true] at e66
      simp only [cond_true, e66, bind_val, Cl.calls, b3]
    | false =>
      simp only [b3, cond_false] at e66
      simp only [cond_false, e66, bind_val, Cl.calls, b3]
def Cl.step (c : Cl) (k : Int) (x : Ca) (r : Rep) : (Cl × Out) × Int :=
  if k = 1 then c.callS x else if k = 2 then (c.replyS r, 0) else if k = 3 then (c.tickS, 0) else ((c, Out.zero), 1)
theorem numsOf_len (s : ByteArray) : (numsOf s).length = s.size := by simp [numsOf]
theorem p28_is (k : Int) : p28 fu (k, ()) = some ((), (decide (k = 1), ((), ()), (decide (k = 2), ((), ()), (decide (k = 3), ((), ()), ())))) := by
  unfold p28
  dsimp only
  by_cases k1 : k = 1
  · subst k1; rfl
  · by_cases k2 : k = 2
    · subst k2; rfl
    · by_cases k3 : k = 3
      · subst k3; rfl
      · simp only [beqF k1, beqF k2, beqF k3, cond_false, k1, k2, k3, decide_false]
set_option maxRecDepth 100000 in
theorem p16_is {n : Nat} (hn : n + 1 ≤ 4194304) (c : Cl) (h : c.ok n) (k : Int) (x : Ca) (hx : x.ok) (r : Rep) (hr : r.ok) (hs : x.topic.size ≤ 140737488355328) (hf : 140737488355330 < fu) :
    p16 fu (c.fl (), inFl k x r (), ()) = some ((), ((c.step k x r).1.1.fl (), (c.step k x r).1.2.fl, (c.step k x r).2, ())) := by
  have hf' : 4194304 < fu := by omega
  have e27 := p27_is (fu := fu) (by omega) c h hf'
  have e42 := p42_is (fu := fu) (by omega) c h k x hx r (by rw [numsOf_len]; omega) (by rw [numsOf_len]; omega) hf'
  have e43 := p43_is (fu := fu) hn c h k x r hr hf'
  have e44 := p44_is (fu := fu) (by omega) c h k x r hf'
  simp only [Cl.fl, zN, inFl] at e27 e42 e43 e44
  unfold p16 Cl.step
  simp only [Cl.fl, inFl, e27, bind_val, p28_is]
  by_cases k1 : k = 1
  · simp only [k1, decide_true, cond_true, if_true] at e42 ⊢
    simp only [e42, bind_val]
    unfold Cl.callS
    by_cases b1 : c.busy = true
    · simp only [if_pos b1]; rfl
    · simp only [if_neg b1]
      by_cases b2 : mayB x = false
      · simp only [if_pos b2]; rfl
      · simp only [if_neg b2]; rfl
  · simp only [k1, decide_false, cond_false, if_false]
    by_cases k2 : k = 2
    · simp only [k2, decide_true, cond_true, if_true] at e43 ⊢
      simp only [e43, bind_val]; rfl
    · simp only [k2, decide_false, cond_false, if_false]
      by_cases k3 : k = 3
      · simp only [k3, decide_true, cond_true, if_true] at e44 ⊢
        simp only [e44, bind_val]; rfl
      · simp only [k3, decide_false, cond_false, if_false]; rfl
theorem Cl.step_ok {n : Nat} {c : Cl} (h : c.ok n) (k : Int) {x : Ca} (hx : x.ok) {r : Rep} (hr : r.ok) : (c.step k x r).1.1.ok (n + 1) := by
  have h1 := Cl.ok_mono h (Nat.le_succ n)
  unfold Cl.step
  split
  · unfold Cl.callS
    split
    · exact h1
    · split
      · exact h1
      · exact Cl.send_ok ⟨h1.sv, h1.at0, h1.at1, h1.top, h1.ld, hx⟩
  · split
    · unfold Cl.replyS Cl.answ Cl.toldL Cl.anew
      repeat' split
      all_goals first
        | exact h1
        | exact Cl.fini_ok (Cl.taught_ok h hr)
        | exact Cl.send_ok (Cl.taught_ok h hr)
        | exact Cl.later_ok (Cl.nextS_ok (Cl.taught_ok h hr))
        | exact Cl.send_ok (Cl.lead_ok h _)
        | exact Cl.elsew_ok h1
        | exact Cl.fini_ok h1
        | exact Cl.elsew_ok (Cl.drop_ok h1)
        | exact Cl.later_ok h1
    · split
      · unfold Cl.tickS
        have hw : c.waits.ok (n + 1) := ⟨h1.sv, h1.at0, h1.at1, h1.top, h1.ld, h1.ca⟩
        repeat' split
        all_goals first
          | exact h1
          | exact Cl.send_ok h1
          | exact Cl.fini_ok (Cl.nextS_ok (Cl.forget_ok hw))
          | exact Cl.send_ok (Cl.nextS_ok (Cl.forget_ok hw))
          | exact hw
      · exact h1
/-- A new client. -/
def Cl.new (id : Int) (l : List Int) (pr : Int) : Cl := ⟨id, l, pr, 0, [], [], false, Ca.zero, 0, false, 0, 0, 0, false, 0⟩
def Cl.none : Cl := Cl.new 0 [] 0
theorem Cl.new_ok (id : Int) {l : List Int} (pr : Int) (h : l.length ≤ 1048576) (h0 : 0 < l.length) : (Cl.new id l pr).ok 0 :=
  ⟨h, Int.le_refl _, by show (0 : Int) < (l.length : Int); omega, ⟨Nat.le_refl _, fun _ h => (by cases h)⟩, Nat.le_refl _, Ca.zero_ok⟩
def isN (n : Int) : Bool := decide (n ≥ 1) && decide (n ≤ 7)
theorem p21_is (n : Int) : p21 fu (n, ()) = some ((), isN n) := by
  unfold p21 isN
  dsimp only
  cases decide (n ≥ 1) <;> rfl
def newA (id : Int) (l : List Int) (pr : Int) : Bool := isN id && (pr != 0 && (decide ((l.length : Int) > 0) && !decide (id ∈ l)))
def newQ (l : List Int) (i : Nat) : Bool := isN (l.getD i 0) && !decide (l.getD i 0 ∈ l.take i)
def newB (id : Int) (l : List Int) (pr : Int) : Bool := newA id l pr && (List.range l.length).all (newQ l)
theorem may_is {R : Type} (id : Int) (l : List Int) (pr : Int) (hl : l.length ≤ 1048576) (hf : 4194304 < fu) (k : (Bool × Unit) × Unit → Option R) :
    orK (E := (Bool × Unit) × Unit) (Option.bind (p21 fu (id, ())) fun x => bif x.2 then (bif (pr != 0) then (bif decide ((l.length : Int) > 0) then Option.bind (p22 fu (l, id, ())) fun y => some (.inl ((!y.2, ()), ())) else some (.inl ((false, ()), ()))) else some (.inl ((false, ()), ()))) else some (.inl ((false, ()), ()))) k = k ((newA id l pr, ()), ()) := by
  simp only [p21_is, bind_val, p22_is l id (show l.length ≤ 4194304 by omega) hf]
  unfold newA
  cases isN id <;> cases (pr != 0) <;> cases decide ((l.length : Int) > 0) <;> rfl
theorem p10_is (id : Int) (l : List Int) (pr : Int) (hl : l.length ≤ 1048576) (hf : 4194304 < fu) :
    p10 fu (id, l, pr, ()) = some ((), bif newB id l pr then ((Cl.new id l pr).fl (), 0, ()) else (Cl.none.fl (), 1, ())) := by
  unfold p10
  refine (may_is id l pr hl hf _).trans ?_
  dsimp only
  refine loopO_eq (I := fun s => ∃ i : Nat, s = ((newA id l pr && (List.range i).all (newQ l), (i : Int), ()), ()) ∧ i ≤ l.length) (m := fun s => l.length - s.1.2.1.toNat) (g := fun _ => ((), bif newB id l pr then ((Cl.new id l pr).fl (), 0, ()) else (Cl.none.fl (), 1, ()))) ?_ fu _ ⟨0, by simp, Nat.zero_le _⟩ (by simp; omega)
  rintro s ⟨i, rfl, hi⟩
  by_cases hi' : i < l.length
  · left
    refine ⟨((newA id l pr && (List.range (i + 1)).all (newQ l), ((i + 1 : Nat) : Int), ()), ()), ?_, ⟨i + 1, rfl, hi'⟩, by simp only [Int.toNat_natCast]; omega, rfl⟩
    have e2 : (0 ≤ i ∧ i ≤ l.length) := ⟨Nat.zero_le _, hi⟩
    have e3 : (newA id l pr && (List.range (i + 1)).all (newQ l)) = ((newA id l pr && (List.range i).all (newQ l)) && newQ l i) := by
      rw [List.range_succ, List.all_append]; simp [Bool.and_assoc]
    have e22 := p22_is (fu := fu) (l.take i) (l.getD i 0) (by simp; omega) hf
    rw [e3]
    unfold newQ
    cases (newA id l pr && (List.range i).all (fun i => isN (l.getD i 0) && !decide (l.getD i 0 ∈ l.take i))) with
    | false => simp only [Int.ofNat_lt, hi', decide_true, cond_true, Int.natCast_nonneg, true_and, and_self, Int.toNat_natCast, cond_false, Bool.false_and, i64_succ hi' (show l.length ≤ 9223372036854775807 by omega)]
    | true =>
      have ed : l.getD i (dflt (.int .i64)) = l.getD i 0 := rfl
      simp only [Int.ofNat_lt, hi', decide_true, cond_true, Int.natCast_nonneg, true_and, and_self, Int.toNat_natCast, Bool.true_and, i64_succ hi' (show l.length ≤ 9223372036854775807 by omega), ed, p21_is, bind_val, e22, e2]
      cases isN (l.getD i 0) <;> rfl
  · right
    obtain rfl : i = l.length := by omega
    simp only [Int.lt_irrefl, decide_false, cond_false]
    have e4 : (newA id l pr && (List.range l.length).all (newQ l)) = newB id l pr := rfl
    rw [e4]
    cases newB id l pr with
    | false => rfl
    | true =>
      simp only [Bool.not_true, cond_false, cond_true, p23_is l (show l.length * 8 ≤ 140737488355328 by omega), bind_val, decide_true]
      rfl
theorem newB_pos {id : Int} {l : List Int} {pr : Int} (h : newB id l pr = true) : 0 < l.length := by
  unfold newB newA at h
  simp only [Bool.and_eq_true, decide_eq_true_eq] at h
  have := h.1.2.2.1
  omega
/-- A LIVE QUESTION, ANSWERED. -/
theorem p9_is (hf : 140737488355330 < fu) : p9 fu () = some ((), true) := by
  have hf' : 4194304 < fu := by omega
  have e10 := p10_is (fu := fu) 4 [1, 2, 3] 4 (by decide) hf'
  have hb : newB 4 [1, 2, 3] 4 = true := by decide
  have e16 := p16_is (fu := fu) (n := 0) (by omega) (Cl.new 4 [1, 2, 3] 4) (Cl.new_ok 4 4 (by decide) (by decide)) 1 ⟨1, ⟨#[116]⟩, ⟨#[107]⟩, [], 0, 0, ⟨#[]⟩, Adm.zero⟩ ⟨Nat.zero_le _, Nat.zero_le _⟩ Rep.zero ⟨⟨Nat.zero_le _, fun _ h => (by cases h)⟩, ⟨Nat.zero_le _, fun _ h => (by cases h)⟩⟩ (by decide) hf
  rw [hb] at e10
  simp only [Cl.fl, inFl, Cl.new, cond_true, Rep.zero, Adm.zero, Ca.zero] at e10 e16
  unfold p9
  simp only [e10, bind_val, decide_true, cond_true, e16]
  decide +kernel
theorem scanT_is {R : Type} (n : Nat) (f : (Int × Unit) × Unit → Option (((Int × Unit) × Unit) ⊕ R)) (rF : R)
    (h1 : ∀ i : Nat, i < n → f (((i : Int), ()), ()) = some (.inl ((((i + 1 : Nat) : Int), ()), ())))
    (h2 : f (((n : Int), ()), ()) = some (.inr rF)) (hf : n < fu) : loopO fu f (((0 : Int), ()), ()) = some rF := by
  rw [scan_is n f (fun _ => false) (fun _ => rF) rF (fun i hi => by rw [h1 i hi]; rfl) h2 hf]
  rw [firstN_isNone (fun _ _ => rfl)]
theorem p25_is (l : List Int) (h : l.length ≤ 4194304) (hf : 4194304 < fu) : p25 fu (l, l, ()) = some ((), true) := by
  unfold p25
  simp only [bneF rfl, cond_false]
  refine scanT_is l.length _ _ (fun i hi => ?_) ?_ (by omega)
  · simp only [Int.ofNat_lt, hi, decide_true, cond_true, Int.natCast_nonneg, true_and, and_self, Int.toNat_natCast, bneF rfl, cond_false, i64_succ hi (show l.length ≤ 9223372036854775807 by omega)]
  · simp only [Int.lt_irrefl, decide_false, cond_false, inrO_val]
theorem p58_is (a : Adm) (h : a.ns.length ≤ 1048576) (hf : 4194304 < fu) : p58 fu (a.fl (), a.fl (), ()) = some ((), true) := by
  unfold p58
  simp only [Adm.fl, p25_is a.ns (show a.ns.length ≤ 4194304 by omega) hf, bind_val, cond_true, beq_self_eq_true]
theorem p24_is (c : Ca) (h : c.ok) (hf : 4194304 < fu) : p24 fu (c.fl (), c.fl (), ()) = some ((), true) := by
  have e := p58_is (fu := fu) c.adm h.2 hf
  simp only [Adm.fl] at e
  unfold p24 p38
  simp only [Ca.fl, e, bind_val, cond_true, beq_self_eq_true]
theorem ba_self (x : ByteArray) : (x == x) = true := by
  obtain ⟨d⟩ := x
  show (d == d) = true
  simp
theorem p26_is (l : List D_api_Shard) (h : shsOk l) (hf : 4194304 < fu) : p26 fu (l, l, ()) = some ((), true) := by
  have h1 := h.1
  unfold p26
  simp only [bneF rfl, cond_false]
  refine scanT_is l.length _ _ (fun i hi => ?_) ?_ (by omega)
  · have hm : l.getD i (dflt T_api_Shard) ∈ l := by rw [getD_lt hi]; exact List.getElem_mem _
    have hq := h.2 _ hm
    have q1 := hq.1
    have q2 := hq.2
    simp only [Int.ofNat_lt, hi, decide_true, cond_true, Int.natCast_nonneg, true_and, and_self, Int.toNat_natCast, p25_is _ (show (l.getD i (dflt T_api_Shard)).2.2.2.1.length ≤ 4194304 by omega) hf, p25_is _ (show (l.getD i (dflt T_api_Shard)).2.2.2.2.1.length ≤ 4194304 by omega) hf, bind_val, Bool.not_true, bneF rfl, cond_false, ba_self, Bool.and_self, i64_succ hi (show l.length ≤ 9223372036854775807 by omega)]
  · simp only [Int.lt_irrefl, decide_false, cond_false, inrO_val]
theorem p12_is {n : Nat} (hn : n ≤ 4194304) (c : Cl) (h : topOk n c.topics ∧ c.leaders.length ≤ n ∧ c.servers.length ≤ 1048576 ∧ c.call.ok) (hf : 4194304 < fu) : p12 fu (c.fl (), c.fl (), ()) = some ((), true) := by
  obtain ⟨ht, hl, hs, hc⟩ := h
  have ht1 := ht.1
  have e := p24_is (fu := fu) c.call hc hf
  simp only [Ca.fl] at e
  unfold p12
  simp only [Cl.fl, e, bind_val, p25_is c.servers (show c.servers.length ≤ 4194304 by omega) hf, Bool.not_true, bneF rfl, cond_false]
  refine scanT_is c.topics.length _ _ (fun i hi => ?_) ?_ (by omega)
  · have hm : c.topics.getD i (dflt T_api_Topic) ∈ c.topics := by rw [getD_lt hi]; exact List.getElem_mem _
    simp only [Int.ofNat_lt, hi, decide_true, cond_true, Int.natCast_nonneg, true_and, and_self, Int.toNat_natCast, p26_is _ (ht.2 _ hm) hf, bind_val, Bool.not_true, cond_false, beq_self_eq_true, i64_succ hi (show c.topics.length ≤ 9223372036854775807 by omega)]
  · simp only [Int.lt_irrefl, decide_false, cond_false]
    rw [scanT_is c.leaders.length _ ((), true) (fun i hi => ?_) ?_ (by omega)]
    · rfl
    · simp only [Int.lt_irrefl, decide_false, cond_false, beq_self_eq_true, cond_true, inrO_val]
    · simp only [Int.ofNat_lt, hi, decide_true, cond_true, Int.natCast_nonneg, true_and, and_self, Int.toNat_natCast, Bool.not_true, cond_false, beq_self_eq_true, i64_succ hi (show c.leaders.length ≤ 9223372036854775807 by omega)]
      rfl
end Go.Proofs.Ytiiodikdbkpjjaa
