/-
  Layer 21: loops; copies are what was copied; who leads, which shard; what is asked.
-/
import Derived.Test.YtiiodikdbkpjjaaPt
import Derived.Test.YtiiodikdbkpjjaaDaP
namespace Go.Proofs.Ytiiodikdbkpjjaa
open Go.RowKit
variable {fu : Nat}
theorem take_snoc' {α : Type} {l : List α} {i : Nat} (h : i < l.length) (d : α) : l.take (i + 1) = l.take i ++ [l.getD i d] := by
  rw [List.take_add_one, List.getD_eq_getElem?_getD, List.getElem?_eq_getElem h]; rfl
/-- A loop that writes a list's elements, one by one, into a new one. -/
theorem each_is {α R : Type} (l : List α) (d z : α) (f : (List α × Int × Unit) × Unit → Option (((List α × Int × Unit) × Unit) ⊕ R)) (g : List α → R)
    (h1 : ∀ (i : Nat) (v : List α), i < l.length → v.length = l.length → f ((v, (i : Int), ()), ()) = some (.inl ((v.set i (l.getD i d), ((i + 1 : Nat) : Int), ()), ())))
    (h2 : ∀ v : List α, v.length = l.length → f ((v, (l.length : Int), ()), ()) = some (.inr (g v))) (hf : l.length < fu) : loopO fu f ((List.replicate l.length z, (0 : Int), ()), ()) = some (g l) := by
  refine loopO_eq (I := fun s => ∃ i : Nat, s = ((l.take i ++ List.replicate (l.length - i) z, (i : Int), ()), ()) ∧ i ≤ l.length) (m := fun s => l.length - s.1.2.1.toNat) (g := fun _ => g l) ?_ fu _ ⟨0, by simp, Nat.zero_le _⟩ (by simpa using hf)
  rintro s ⟨i, rfl, hi⟩
  have hlen : (l.take i ++ List.replicate (l.length - i) z).length = l.length := by simp; omega
  by_cases hi' : i < l.length
  · left
    refine ⟨_, h1 i _ hi' hlen, ⟨i + 1, ?_, hi'⟩, by simp only [Int.toNat_natCast]; omega, rfl⟩
    have ht : (l.take i).length = i := by simp; omega
    rw [List.set_append_right _ _ (by omega), ht, Nat.sub_self, show l.length - i = (l.length - (i + 1)) + 1 by omega, List.replicate_succ, List.set_cons_zero, take_snoc' hi' d]
    simp
  · right
    obtain rfl : i = l.length := by omega
    rw [h2 _ hlen]
    simp
/-- The first number below n of which something is so. -/
def firstN (n : Nat) (p : Nat → Bool) : Option Nat := (List.range n).find? p
theorem firstN_some {n i : Nat} {p : Nat → Bool} (h : firstN n p = some i) : i < n ∧ p i = true ∧ ∀ j, j < i → p j = false := by
  unfold firstN at h
  have h' := List.find?_range_eq_some.1 h
  refine ⟨List.mem_range.1 h'.2.1, h'.1, fun j hj => ?_⟩
  simpa using h'.2.2 j hj
theorem firstN_none {n : Nat} {p : Nat → Bool} (h : firstN n p = none) : ∀ j, j < n → p j = false := fun j hj => by
  unfold firstN at h
  simpa using List.find?_range_eq_none.1 h j hj
theorem firstN_is {n i : Nat} {p : Nat → Bool} (h1 : i < n) (h2 : p i = true) (h3 : ∀ j, j < i → p j = false) : firstN n p = some i := by
  unfold firstN
  exact List.find?_range_eq_some.2 ⟨h2, List.mem_range.2 h1, fun j hj => by simpa using h3 j hj⟩
theorem firstN_isNone {n : Nat} {p : Nat → Bool} (h3 : ∀ j, j < n → p j = false) : firstN n p = none := by
  unfold firstN
  exact List.find?_range_eq_none.2 fun j hj => by simpa using h3 j hj
/-- A loop that looks for the first place of which something is so. -/
theorem scan_is {R : Type} (n : Nat) (f : (Int × Unit) × Unit → Option (((Int × Unit) × Unit) ⊕ R)) (p : Nat → Bool) (rT : Nat → R) (rF : R)
    (h1 : ∀ i : Nat, i < n → f (((i : Int), ()), ()) = bif p i then some (.inr (rT i)) else some (.inl ((((i + 1 : Nat) : Int), ()), ())))
    (h2 : f (((n : Int), ()), ()) = some (.inr rF)) (hf : n < fu) : loopO fu f (((0 : Int), ()), ()) = some (match firstN n p with | some i => rT i | none => rF) := by
  refine loopO_eq (I := fun s => ∃ i : Nat, s = (((i : Int), ()), ()) ∧ i ≤ n ∧ ∀ j, j < i → p j = false) (m := fun s => n - s.1.1.toNat) (g := fun _ => match firstN n p with | some i => rT i | none => rF) ?_ fu _ ⟨0, rfl, Nat.zero_le _, fun j hj => absurd hj (Nat.not_lt_zero _)⟩ (by simpa using hf)
  rintro s ⟨i, rfl, hi, hp⟩
  by_cases hi' : i < n
  · cases hpi : p i with
    | true => right; rw [h1 i hi', hpi, firstN_is hi' hpi hp]; rfl
    | false =>
      left
      refine ⟨_, by rw [h1 i hi', hpi]; rfl, ⟨i + 1, rfl, hi', fun j hj => ?_⟩, by simp only [Int.toNat_natCast]; omega, rfl⟩
      rcases Nat.lt_succ_iff_lt_or_eq.1 hj with h | rfl
      · exact hp j h
      · exact hpi
  · right
    obtain rfl : i = n := by omega
    rw [h2, firstN_isNone hp]
theorem copyL_all {α : Type} (l : List α) (d : α) : copyL (List.replicate l.length d) 0 l.length l = l := by
  simp [copyL]
theorem p23_is (l : List Int) (h : l.length * 8 ≤ 140737488355328) : p23 fu (l, ()) = some ((), l) := by
  unfold p23
  cases l with
  | nil => rfl
  | cons a l =>
    have h0 : (((a :: l).length : Int) == 0) = false := by simp; omega
    have h1 : (0 : Int) ≤ ((a :: l).length : Int) ∧ ((a :: l).length : Int) ≤ ((a :: l).length : Int) ∧ ((a :: l).length : Int) ≤ 9223372036854775807 ∧ (8 : Int) * ((a :: l).length : Int) ≤ 140737488355328 := by omega
    simp only [h0, cond_false, h1, and_self, decide_true, cond_true, Int.toNat_natCast, List.length_replicate, copyL_all]
theorem p62_is (l : List Int) (h : l.length ≤ 140737488355328) : p62 fu (l, ()) = some ((), l) := by
  unfold p62
  cases l with
  | nil => rfl
  | cons a l =>
    have h0 : (((a :: l).length : Int) == 0) = false := by simp; omega
    have h1 : (0 : Int) ≤ ((a :: l).length : Int) ∧ ((a :: l).length : Int) ≤ ((a :: l).length : Int) ∧ ((a :: l).length : Int) ≤ 9223372036854775807 ∧ (1 : Int) * ((a :: l).length : Int) ≤ 140737488355328 := by omega
    simp only [h0, cond_false, h1, and_self, decide_true, cond_true, Int.toNat_natCast, List.length_replicate, copyL_all]
theorem p40_is (l : List D_api_Site) (h : l.length * 16 ≤ 140737488355328) : p40 fu (l, ()) = some ((), l) := by
  unfold p40
  cases l with
  | nil => rfl
  | cons a l =>
    have h0 : (((a :: l).length : Int) == 0) = false := by simp; omega
    have h1 : (0 : Int) ≤ ((a :: l).length : Int) ∧ ((a :: l).length : Int) ≤ ((a :: l).length : Int) ∧ ((a :: l).length : Int) ≤ 9223372036854775807 ∧ (16 : Int) * ((a :: l).length : Int) ≤ 140737488355328 := by omega
    simp only [h0, cond_false, h1, and_self, decide_true, cond_true, Int.toNat_natCast, List.length_replicate, copyL_all]
/-- Shards of small bulk. -/
def shOk (s : D_api_Shard) : Prop := s.2.2.2.1.length ≤ 1048576 ∧ s.2.2.2.2.1.length ≤ 1048576
def shsOk (l : List D_api_Shard) : Prop := l.length ≤ 1048576 ∧ ∀ s ∈ l, shOk s
theorem p79_is (s : D_api_Shard) (h : shOk s) : p79 fu ((s.1, s.2.1.1, s.2.1.2, s.2.2.1, s.2.2.2.1, s.2.2.2.2.1, s.2.2.2.2.2, ()), ()) = some ((), (s.1, s.2.1.1, s.2.1.2, s.2.2.1, s.2.2.2.1, s.2.2.2.2.1, s.2.2.2.2.2, ())) := by
  unfold p79
  have h1 := h.1
  have h2 := h.2
  simp only [p23_is _ (show s.2.2.2.1.length * 8 ≤ 140737488355328 by omega), p23_is _ (show s.2.2.2.2.1.length * 8 ≤ 140737488355328 by omega), bind_val, decide_true, cond_true]
theorem p78_is (l : List D_api_Shard) (h : shsOk l) (hf : l.length < fu) : p78 fu (l, ((), ()), ()) = some ((), l) := by
  unfold p78
  obtain ⟨h1, h3⟩ := h
  cases hl0 : l with
  | nil => rfl
  | cons a0 l0 =>
    rw [← hl0]
    have h0 : ((l.length : Int) == 0) = false := by rw [hl0]; simp; omega
    have h4 : (0 : Int) ≤ (l.length : Int) ∧ (l.length : Int) ≤ (l.length : Int) ∧ (l.length : Int) ≤ 9223372036854775807 ∧ (104 : Int) * (l.length : Int) ≤ 140737488355328 := by omega
    simp only [h0, cond_false, h4, and_self, decide_true, cond_true, Int.toNat_natCast, List.length_replicate]
    refine each_is l (dflt T_api_Shard) _ _ (fun v => ((), v)) (fun i v hi hv => ?_) (fun v hv => ?_) hf
    · have hm : l.getD i (dflt T_api_Shard) ∈ l := by rw [getD_lt hi]; exact List.getElem_mem _
      have e := p79_is (fu := fu) (l.getD i (dflt T_api_Shard)) (h3 _ hm)
      simp only [Int.ofNat_lt, hi, decide_true, cond_true, Int.natCast_nonneg, true_and, and_self, Int.toNat_natCast, e, bind_val, hv, List.length_set, i64_succ hi (show l.length ≤ 9223372036854775807 by omega)]
    · simp only [Int.lt_irrefl, decide_false, cond_false, decide_true, cond_true, inrO_val]
theorem p61_is (l : List D_api_Shard) (h : shsOk l) (hf : l.length < fu) : p61 fu (l, ()) = some ((), l) := by
  unfold p61
  simp only [p78_is l h hf, bind_val, decide_true, cond_true]
theorem p60_is (a : ByteArray) (l : List D_api_Shard) (h : shsOk l) (hf : l.length < fu) : p60 fu ((a, l, ()), ()) = some ((), (a, l, ())) := by
  unfold p60
  simp only [p61_is l h hf, bind_val, decide_true, cond_true]
def topOk (n : Nat) (l : List D_api_Topic) : Prop := l.length ≤ n ∧ ∀ t ∈ l, shsOk t.2
theorem p59_is {n : Nat} (hn : n ≤ 4194304) (l : List D_api_Topic) (h : topOk n l) (hf : 4194304 < fu) : p59 fu (l, ((), ()), ()) = some ((), l) := by
  unfold p59
  obtain ⟨h1, h3⟩ := h
  cases hl0 : l with
  | nil => rfl
  | cons a0 l0 =>
    rw [← hl0]
    have h0 : ((l.length : Int) == 0) = false := by rw [hl0]; simp; omega
    have h4 : (0 : Int) ≤ (l.length : Int) ∧ (l.length : Int) ≤ (l.length : Int) ∧ (l.length : Int) ≤ 9223372036854775807 ∧ (40 : Int) * (l.length : Int) ≤ 140737488355328 := by omega
    simp only [h0, cond_false, h4, and_self, decide_true, cond_true, Int.toNat_natCast, List.length_replicate]
    refine each_is l (dflt T_api_Topic) _ _ (fun v => ((), v)) (fun i v hi hv => ?_) (fun v hv => ?_) (by omega)
    · have hm : l.getD i (dflt T_api_Topic) ∈ l := by rw [getD_lt hi]; exact List.getElem_mem _
      have hq := h3 _ hm
      have e := p60_is (fu := fu) (l.getD i (dflt T_api_Topic)).1 (l.getD i (dflt T_api_Topic)).2 hq (by have := hq.1; omega)
      simp only [Int.ofNat_lt, hi, decide_true, cond_true, Int.natCast_nonneg, true_and, and_self, Int.toNat_natCast, e, bind_val, hv, List.length_set, i64_succ hi (show l.length ≤ 9223372036854775807 by omega)]
    · simp only [Int.lt_irrefl, decide_false, cond_false, decide_true, cond_true, inrO_val]
theorem p39_is {n : Nat} (hn : n ≤ 4194304) (l : List D_api_Topic) (h : topOk n l) (hf : 4194304 < fu) : p39 fu (l, ()) = some ((), l) := by
  unfold p39
  simp only [p59_is hn l h hf, bind_val, decide_true, cond_true]
/-- An administrator's command; a call; a client. -/
structure Adm where
  (k p s : Int) (t : ByteArray) (ns : List Int) (f g : Int) (ky : ByteArray) (h i j l : Int)
@[reducible] def Adm.fl {α : Type} (a : Adm) (r : α) := (a.k, a.p, a.s, a.t, a.ns, a.f, a.g, a.ky, a.h, a.i, a.j, a.l, r)
structure Ca where
  (kind : Int) (topic key : ByteArray) (value : List Int) (offset most : Int) (name : ByteArray) (adm : Adm)
@[reducible] def Ca.fl {α : Type} (c : Ca) (r : α) := (c.kind, c.topic, c.key, c.value, c.offset, c.most, c.name, c.adm.k, c.adm.p, c.adm.s, c.adm.t, c.adm.ns, c.adm.f, c.adm.g, c.adm.ky, c.adm.h, c.adm.i, c.adm.j, c.adm.l, r)
def Adm.zero : Adm := ⟨0, 0, 0, ⟨#[]⟩, [], 0, 0, ⟨#[]⟩, 0, 0, 0, 0⟩
def Ca.zero : Ca := ⟨0, ⟨#[]⟩, ⟨#[]⟩, [], 0, 0, ⟨#[]⟩, Adm.zero⟩
structure Cl where
  (id : Int) (servers : List Int) (producer seq : Int) (topics : List D_api_Topic) (leaders : List D_api_Site) (busy : Bool) (call : Ca) (number : Int) (route : Bool) (group tries waited : Int) (again : Bool) (at' : Int)
@[reducible] def Cl.fl {α : Type} (c : Cl) (r : α) := (c.id, c.servers, c.producer, c.seq, c.topics, c.leaders, c.busy, c.call.kind, c.call.topic, c.call.key, c.call.value, c.call.offset, c.call.most, c.call.name, c.call.adm.k, c.call.adm.p, c.call.adm.s, c.call.adm.t, c.call.adm.ns, c.call.adm.f, c.call.adm.g, c.call.adm.ky, c.call.adm.h, c.call.adm.i, c.call.adm.j, c.call.adm.l, c.number, c.route, c.group, c.tries, c.waited, c.again, c.at', r)
def Ca.ok (c : Ca) : Prop := c.value.length ≤ 1048576 ∧ c.adm.ns.length ≤ 1048576
theorem Ca.zero_ok : Ca.zero.ok := ⟨Nat.zero_le _, Nat.zero_le _⟩
theorem p63_is (a : Adm) (h : a.ns.length ≤ 1048576) : p63 fu (a.fl (), ()) = some ((), a.fl ()) := by
  unfold p63
  simp only [Adm.fl, p23_is _ (show a.ns.length * 8 ≤ 140737488355328 by omega), bind_val, decide_true, cond_true]
theorem p41_is (c : Ca) (h : c.ok) : p41 fu (c.fl (), ()) = some ((), c.fl ()) := by
  have e := p63_is (fu := fu) c.adm h.2
  have h1 := h.1
  simp only [Adm.fl] at e
  unfold p41
  simp only [Ca.fl, p62_is _ (show c.value.length ≤ 140737488355328 by omega), e, bind_val, decide_true, cond_true]
structure Cl.ok (n : Nat) (c : Cl) : Prop where
  sv : c.servers.length ≤ 1048576
  at0 : 0 ≤ c.at'
  at1 : c.at' < (c.servers.length : Int)
  top : topOk n c.topics
  ld : c.leaders.length ≤ n
  ca : c.call.ok
theorem p27_is {n : Nat} (hn : n ≤ 4194304) (c : Cl) (h : c.ok n) (hf : 4194304 < fu) : p27 fu (c.fl (), ()) = some ((), c.fl ()) := by
  have e := p41_is (fu := fu) c.call h.ca
  have h1 := h.sv
  have h2 := h.ld
  simp only [Ca.fl] at e
  unfold p27
  simp only [Cl.fl, p23_is _ (show c.servers.length * 8 ≤ 140737488355328 by omega), p39_is hn _ h.top hf, p40_is _ (show c.leaders.length * 16 ≤ 140737488355328 by omega), e, bind_val, decide_true, cond_true]
/-- The bytes of records. -/
def vals (l : List D_api_Record) : List Int := l.flatMap fun x => x.2.2.1
theorem vals_app (a b : List D_api_Record) : vals (a ++ b) = vals a ++ vals b := List.flatMap_append
theorem vals_snoc (l : List D_api_Record) (x : D_api_Record) : vals (l ++ [x]) = vals l ++ x.2.2.1 := by simp [vals]
theorem vals_take {l : List D_api_Record} {i : Nat} (h : i < l.length) : (vals (l.take i)).length + (l.getD i (dflt T_api_Record)).2.2.1.length ≤ (vals l).length := by
  have h1 := congrArg vals (take_snoc' h (dflt T_api_Record))
  rw [vals_snoc] at h1
  have h2 : vals l = vals (l.take (i + 1)) ++ vals (l.drop (i + 1)) := by rw [← vals_app, List.take_append_drop]
  rw [h2, h1]
  simp only [List.length_append]
  omega
def recOk (l : List D_api_Record) : Prop := l.length ≤ 1048576 ∧ ∀ x ∈ l, x.2.2.1.length ≤ 1048576
theorem vals_le : ∀ (l : List D_api_Record), (∀ x ∈ l, x.2.2.1.length ≤ 1048576) → (vals l).length ≤ l.length * 1048576
  | [], _ => by simp [vals]
  | x :: l, h => by
    have h1 := vals_le l fun y hy => h y (List.mem_cons_of_mem _ hy)
    have h2 := h x (List.mem_cons_self ..)
    have e : vals (x :: l) = x.2.2.1 ++ vals l := by simp [vals]
    rw [e, List.length_append, List.length_cons, Nat.add_mul]
    omega
theorem p106_is (a b : List Int) (h : a.length + b.length ≤ 140737488355328) : p106 fu ((a, ()), b, ()) = some (((a ++ b, ()), (), ()), b) := by
  unfold p106
  cases b with
  | nil => simp
  | cons c b =>
    have h0 : (((c :: b).length : Int) == 0) = false := by simp; omega
    have h1 : a.length + (c :: b).length ≤ maxLen ∧ (a.length + (c :: b).length) * 1 ≤ 140737488355328 := ⟨by unfold maxLen; omega, by omega⟩
    have h2 : slice' (a ++ c :: b) a.length (some (a ++ c :: b).length) = c :: b := by
      cases a with
      | nil => simp [slice']
      | cons x a => simp [slice']
    have h3 : a.length ≤ (a ++ c :: b).length ∧ (a ++ c :: b).length ≤ (a ++ c :: b).length ∧ (a ++ c :: b).length ≤ (a ++ c :: b).length ∧ 0 + (a ++ c :: b).length ≤ (a ++ c :: b).length := by simp
    simp only [h0, cond_false, h1, and_self, decide_true, cond_true, Int.natCast_nonneg, Int.toNat_natCast, h3, h2]
theorem p105_is (x : D_api_Record) (r : List Int) (hd : r.length + x.2.2.1.length ≤ 140737488355328) :
    p105 fu ((x.1, x.2.1, x.2.2.1, x.2.2.2.1, x.2.2.2.2, ()), ((r, ()), ()), ()) = some ((((), ()), (r ++ x.2.2.1, ()), (), ()), (x.1, x.2.1, x.2.2.1, x.2.2.2.1, x.2.2.2.2, ())) := by
  unfold p105
  simp only [p106_is _ _ hd, bind_val, decide_true, cond_true]
theorem p104_is (l : List D_api_Record) (h : recOk l) (hf : 4194304 < fu) : p104 fu (l, ((), (((([] : List Int), ()), ()), ())), ()) = some ((((), ()), (vals l, ()), (), ()), l) := by
  unfold p104
  obtain ⟨h1, h3⟩ := h
  have h2 := vals_le l h3
  cases hl0 : l with
  | nil => rfl
  | cons a0 l0 =>
    rw [← hl0]
    have h0 : ((l.length : Int) == 0) = false := by rw [hl0]; simp; omega
    have h4 : (0 : Int) ≤ (l.length : Int) ∧ (l.length : Int) ≤ (l.length : Int) ∧ (l.length : Int) ≤ 9223372036854775807 ∧ (64 : Int) * (l.length : Int) ≤ 140737488355328 := by omega
    simp only [h0, cond_false, h4, and_self, decide_true, cond_true, Int.toNat_natCast, List.length_replicate]
    refine loopO_eq (I := fun s => ∃ i : Nat, s = ((l.take i ++ List.replicate (l.length - i) (dflt T_api_Record), (i : Int), ()), (((), ()), (vals (l.take i), ()), ())) ∧ i ≤ l.length)
      (m := fun s => l.length - s.1.2.1.toNat) (g := fun _ => ((((), ()), (vals l, ()), (), ()), l)) ?_ fu _ ⟨0, by simp only [List.take_zero, List.nil_append, Nat.sub_zero, vals, List.flatMap_nil]; rfl, Nat.zero_le _⟩ (by simp; omega)
    rintro s ⟨i, rfl, hi⟩
    by_cases hi' : i < l.length
    · left
      have hx := vals_take hi'
      have hm : l.getD i (dflt T_api_Record) ∈ l := by rw [getD_lt hi']; exact List.getElem_mem _
      have e := p105_is (fu := fu) (l.getD i (dflt T_api_Record)) (vals (l.take i)) (by omega)
      have hlen : (l.take i ++ List.replicate (l.length - i) (dflt T_api_Record)).length = l.length := by simp; omega
      refine ⟨((l.take (i + 1) ++ List.replicate (l.length - (i + 1)) (dflt T_api_Record), ((i + 1 : Nat) : Int), ()), (((), ()), (vals (l.take (i + 1)), ()), ())), ?_, ⟨i + 1, rfl, hi'⟩, by simp only [Int.toNat_natCast]; omega, rfl⟩
      have hs : (l.take i ++ List.replicate (l.length - i) (dflt T_api_Record)).set i (l.getD i (dflt T_api_Record)) = l.take (i + 1) ++ List.replicate (l.length - (i + 1)) (dflt T_api_Record) := by
        have ht : (l.take i).length = i := by simp; omega
        rw [List.set_append_right _ _ (by omega), ht, Nat.sub_self, show l.length - i = (l.length - (i + 1)) + 1 by omega, List.replicate_succ, List.set_cons_zero, take_snoc' hi' (dflt T_api_Record)]
        simp
      rw [take_snoc' hi' (dflt T_api_Record), vals_snoc, ← take_snoc' hi' (dflt T_api_Record), ← hs]
      simp only [Int.ofNat_lt, hi', decide_true, cond_true, Int.natCast_nonneg, true_and, and_self, Int.toNat_natCast, e, bind_val, hlen, List.length_set, i64_succ hi' (show l.length ≤ 9223372036854775807 by omega)]
    · right
      obtain rfl : i = l.length := by omega
      simp [inrO]
theorem p103_is (n : Nat) (h : n ≤ 140737488355328) : p103 fu ((n : Int), ()) = some ((), ([], ())) := by
  unfold p103
  have h1 : (0 : Int) ≤ 0 ∧ (0 : Int) ≤ (n : Int) ∧ (n : Int) ≤ 9223372036854775807 ∧ (1 : Int) * (n : Int) ≤ 140737488355328 := by omega
  simp only [h1, and_self, decide_true, cond_true]; rfl
theorem p98_is (l : List D_api_Record) (h : recOk l) (hf : 4194304 < fu) : p98 fu (l, ()) = some ((), l) := by
  unfold p98
  have h1 := h.1
  have h2 := vals_le l h.2
  refine loopO_eq (I := fun s => ∃ i : Nat, s = ((((vals (l.take i)).length : Int), (i : Int), ()), ()) ∧ i ≤ l.length) (m := fun s => l.length - s.1.2.1.toNat) (g := fun _ => ((), l)) ?_ fu _ ⟨0, by simp [vals], Nat.zero_le _⟩ (by simp; omega)
  rintro s ⟨i, rfl, hi⟩
  by_cases hi' : i < l.length
  · left
    have hx := vals_take hi'
    refine ⟨((((vals (l.take (i + 1))).length : Int), ((i + 1 : Nat) : Int), ()), ()), ?_, ⟨i + 1, rfl, hi'⟩, by simp only [Int.toNat_natCast]; omega, rfl⟩
    have hw : IntKind.wrap .i64 (((vals (l.take i)).length : Int) + ((l.getD i (dflt T_api_Record)).2.2.1.length : Int)) = ((vals (l.take (i + 1))).length : Int) := by
      rw [take_snoc' hi' (dflt T_api_Record), vals_snoc, i64_wrap (by omega) (by omega), List.length_append]; omega
    simp only [Int.ofNat_lt, hi', decide_true, cond_true, Int.natCast_nonneg, true_and, and_self, Int.toNat_natCast, hw, i64_succ hi' (show l.length ≤ 9223372036854775807 by omega)]
  · right
    obtain rfl : i = l.length := by omega
    rw [List.take_length]
    simp only [Int.lt_irrefl, decide_false, cond_false, p103_is (fu := fu) _ (show (vals l).length ≤ 140737488355328 by omega), bind_val, decide_true, cond_true, p104_is l h hf, inrO_val]
structure Rep where
  (id err leader x3 x4 : Int) (x5 : Bool) (recs : List D_api_Record) (x7 : Int) (shards : List D_api_Shard) (x9 x10 x11 : Int)
@[reducible] def Rep.fl {α : Type} (c : Rep) (r : α) := (c.id, c.err, c.leader, c.x3, c.x4, c.x5, c.recs, c.x7, c.shards, c.x9, c.x10, c.x11, r)
def Rep.ok (r : Rep) : Prop := recOk r.recs ∧ shsOk r.shards
def Rep.zero : Rep := ⟨0, 0, 0, 0, 0, false, [], 0, [], 0, 0, 0⟩
theorem p87_is (r : Rep) (h : r.ok) (hf : 4194304 < fu) : p87 fu (r.fl (), ()) = some ((), r.fl ()) := by
  have h1 := h.2.1
  unfold p87
  simp only [Rep.fl, p98_is _ h.1 hf, p61_is (fu := fu) _ h.2 (by omega), bind_val, decide_true, cond_true]
structure Part where
  (kind epoch producer seq : Int) (key : ByteArray) (value : List Int) (offset most : Int) (name : ByteArray) (plan : Int)
def Part.zero : Part := ⟨0, 0, 0, 0, ⟨#[]⟩, [], 0, 0, ⟨#[]⟩, 0⟩
@[reducible] def Part.fl {α : Type} (p : Part) (r : α) := (p.kind, p.epoch, p.producer, p.seq, p.key, p.value, p.offset, p.most, p.name, p.plan, r)
structure Req where
  (id kind group : Int) (part : Part) (adm : Adm) (topic : ByteArray)
def Req.zero : Req := ⟨0, 0, 0, Part.zero, Adm.zero, ⟨#[]⟩⟩
@[reducible] def Req.fl {α : Type} (q : Req) (r : α) := (q.id, q.kind, q.group, q.part.kind, q.part.epoch, q.part.producer, q.part.seq, q.part.key, q.part.value, q.part.offset, q.part.most, q.part.name, q.part.plan, q.adm.k, q.adm.p, q.adm.s, q.adm.t, q.adm.ns, q.adm.f, q.adm.g, q.adm.ky, q.adm.h, q.adm.i, q.adm.j, q.adm.l, q.topic, r)
structure Out where
  (send : Bool) (to : Int) (req : Req) (done : Bool) (rep : Rep)
def Out.zero : Out := ⟨false, 0, Req.zero, false, Rep.zero⟩
@[reducible] def Out.fl (o : Out) := (o.send, o.to, o.req.id, o.req.kind, o.req.group, o.req.part.kind, o.req.part.epoch, o.req.part.producer, o.req.part.seq, o.req.part.key, o.req.part.value, o.req.part.offset, o.req.part.most, o.req.part.name, o.req.part.plan, o.req.adm.k, o.req.adm.p, o.req.adm.s, o.req.adm.t, o.req.adm.ns, o.req.adm.f, o.req.adm.g, o.req.adm.ky, o.req.adm.h, o.req.adm.i, o.req.adm.j, o.req.adm.l, o.req.topic, o.done, o.rep.id, o.rep.err, o.rep.leader, o.rep.x3, o.rep.x4, o.rep.x5, o.rep.recs, o.rep.x7, o.rep.shards, o.rep.x9, o.rep.x10, o.rep.x11, ())
/-- Nothing is done so far; with nils told as such. -/
@[reducible] def zN := (false, (0 : Int), (0 : Int), (0 : Int), (0 : Int), (0 : Int), (0 : Int), (0 : Int), (0 : Int), (⟨#[]⟩ : ByteArray), (), (0 : Int), (0 : Int), (⟨#[]⟩ : ByteArray), (0 : Int), (0 : Int), (0 : Int), (0 : Int), (⟨#[]⟩ : ByteArray), (), (0 : Int), (0 : Int), (⟨#[]⟩ : ByteArray), (0 : Int), (0 : Int), (0 : Int), (0 : Int), (⟨#[]⟩ : ByteArray), false, (0 : Int), (0 : Int), (0 : Int), (0 : Int), (0 : Int), false, (), (0 : Int), (), (0 : Int), (0 : Int), (0 : Int), ())
@[reducible] def zL := (false, (0 : Int), (0 : Int), (0 : Int), (0 : Int), (0 : Int), (0 : Int), (0 : Int), (0 : Int), (⟨#[]⟩ : ByteArray), ([] : List Int), (0 : Int), (0 : Int), (⟨#[]⟩ : ByteArray), (0 : Int), (0 : Int), (0 : Int), (0 : Int), (⟨#[]⟩ : ByteArray), ([] : List Int), (0 : Int), (0 : Int), (⟨#[]⟩ : ByteArray), (0 : Int), (0 : Int), (0 : Int), (0 : Int), (⟨#[]⟩ : ByteArray), false, (0 : Int), (0 : Int), (0 : Int), (0 : Int), (0 : Int), false, ([] : List D_api_Record), (0 : Int), ([] : List D_api_Shard), (0 : Int), (0 : Int), (0 : Int), ())
theorem zl_is : zL = Out.zero.fl := rfl
theorem p96_is (l : List D_api_Site) (g : Int) (hl : l.length ≤ 4194304) (hf : 4194304 < fu) : p96 fu (l, ((), ((g, ()), ())), ()) = some (((g, ()), ()), match firstN l.length (fun i => (l.getD i (dflt T_api_Site)).1 == g) with | some i => (i : Int) | none => -1) := by
  unfold p96
  dsimp only
  rw [scan_is l.length _ (fun i => (l.getD i (dflt T_api_Site)).1 == g) (fun i => (((g, ()), ()), (i : Int))) (((g, ()), ()), (-1 : Int)) (fun i hi => ?_) ?_ (by omega)]
  · cases firstN l.length (fun i => (l.getD i (dflt T_api_Site)).1 == g) <;> rfl
  · simp only [Int.lt_irrefl, decide_false, cond_false, inrO_val]
  · unfold p97
    simp only [Int.ofNat_lt, hi, decide_true, cond_true, Int.natCast_nonneg, true_and, and_self, Int.toNat_natCast, bind_val, inrO_val, i64_succ hi (show l.length ≤ 9223372036854775807 by omega)]
theorem p93_is (l : List D_api_Topic) (g : ByteArray) (hl : l.length ≤ 4194304) (hf : 4194304 < fu) : p93 fu (l, ((), ((g, ()), ())), ()) = some (((g, ()), ()), match firstN l.length (fun i => (l.getD i (dflt T_api_Topic)).1.toList == g.toList) with | some i => (i : Int) | none => -1) := by
  unfold p93
  dsimp only
  rw [scan_is l.length _ (fun i => (l.getD i (dflt T_api_Topic)).1.toList == g.toList) (fun i => (((g, ()), ()), (i : Int))) (((g, ()), ()), (-1 : Int)) (fun i hi => ?_) ?_ (by omega)]
  · cases firstN l.length (fun i => (l.getD i (dflt T_api_Topic)).1.toList == g.toList) <;> rfl
  · simp only [Int.lt_irrefl, decide_false, cond_false, inrO_val]
  · unfold p94
    simp only [Int.ofNat_lt, hi, decide_true, cond_true, Int.natCast_nonneg, true_and, and_self, Int.toNat_natCast, bind_val, inrO_val, i64_succ hi (show l.length ≤ 9223372036854775807 by omega)]
/-- Who is asked where no leader is known. -/
def Cl.server (c : Cl) : Int := c.servers.getD c.at'.toNat 0
theorem p91_is {n : Nat} (c : Cl) (h : c.ok n) : p91 fu (c.fl zL, ()) = some ((), c.server) := by
  have h1 := h.sv
  have h2 := h.at0
  have h3 := h.at1
  have e0 : ((c.servers.length : Int) == 0) = false := beq_eq_false_iff_ne.2 (by omega)
  have e1 : Int.tmod c.at' (c.servers.length : Int) = c.at' := Int.tmod_eq_of_lt h2 h3
  have e2 : IntKind.wrap .i64 (c.at' + (c.servers.length : Int)) = c.at' + (c.servers.length : Int) := i64_wrap (by omega) (by omega)
  have e3 : Int.tmod (c.at' + (c.servers.length : Int)) (c.servers.length : Int) = c.at' := by
    rw [Int.tmod_eq_emod_of_nonneg (by omega), Int.add_emod_right, Int.emod_eq_of_lt h2 h3]
  have e4 : c.at'.toNat < c.servers.length := by omega
  unfold p91
  simp only [Cl.fl, zL, e0, cond_false, Bool.not_false, cond_true, e1, e2, e3, h2, h3, and_self, decide_true, e4]
  rfl
/-- Who is asked for a group. -/
def Cl.to (c : Cl) (g : Int) : Int := match firstN c.leaders.length (fun i => (c.leaders.getD i (dflt T_api_Site)).1 == g) with
  | some i => (c.leaders.getD i (dflt T_api_Site)).2
  | none => c.server
theorem p90_is {n : Nat} (hn : n ≤ 4194304) (c : Cl) (h : c.ok n) (g : Int) (hf : 4194304 < fu) : p90 fu (c.fl zL, g, ()) = some ((), c.to g) := by
  have hl := h.ld
  have e := p91_is (fu := fu) c h
  simp only [Cl.fl, zL] at e
  unfold p90 p86
  simp only [Cl.fl, zL, bind_val, p96_is c.leaders g (by omega) hf, e]
  unfold Cl.to
  cases hc : firstN c.leaders.length (fun i => (c.leaders.getD i (dflt T_api_Site)).1 == g) with
  | none => rfl
  | some i =>
    have hi := (firstN_some hc).1
    have h0 : ((i : Int) ≥ 0) := by omega
    simp only [h0, decide_true, cond_true, Int.natCast_nonneg, Int.ofNat_lt, hi, and_self, Int.toNat_natCast]
def abvK (hi k : ByteArray) : Bool := (hi.toList == (⟨#[]⟩ : ByteArray).toList) || !(Op.bytesLess hi.toList k.toList || hi.toList == k.toList)
def chkK (lo hi : ByteArray) : Int := bif !(decide ((lo.size : Int) ≤ 32)) then 131 else bif !(decide ((hi.size : Int) ≤ 32)) then 131 else bif !(abvK hi lo) then 132 else 0
def hasK (lo hi k : ByteArray) : Bool := (chkK lo hi == 0) && (decide ((k.size : Int) ≤ 32) && (!Op.bytesLess k.toList lo.toList && abvK hi k))
theorem p102_is (hi k : ByteArray) : p102 fu ((hi, hi.toList == (⟨#[]⟩ : ByteArray).toList, ()), k, ()) = some ((), abvK hi k) := by
  unfold p102 abvK
  dsimp only
  cases hi.toList == (⟨#[]⟩ : ByteArray).toList <;> rfl
theorem p99_is (lo hi : ByteArray) : p99 fu ((lo, hi, ()), ()) = some ((), chkK lo hi) := by
  unfold p99 p100 p101 chkK
  simp only [bind_val, p102_is]
  cases decide ((lo.size : Int) ≤ 32) <;> cases decide ((hi.size : Int) ≤ 32) <;> cases abvK hi lo <;> rfl
theorem p95_is (lo hi k : ByteArray) : p95 fu ((lo, hi, ()), k, ()) = some ((), hasK lo hi k) := by
  unfold p95 p100 p101 hasK
  simp only [bind_val, p99_is, p102_is]
  cases chkK lo hi == 0 <;> cases decide ((k.size : Int) ≤ 32) <;> cases Op.bytesLess k.toList lo.toList <;> cases abvK hi k <;> rfl
def Cl.topic? (c : Cl) : Option Nat := firstN c.topics.length (fun i => (c.topics.getD i (dflt T_api_Topic)).1.toList == c.call.topic.toList)
def shardN (l : List D_api_Shard) (k : ByteArray) : Option Nat := firstN l.length fun j => hasK (l.getD j (dflt T_api_Shard)).2.1.1 (l.getD j (dflt T_api_Shard)).2.1.2 k
def Cl.shard? (c : Cl) : Option D_api_Shard := match c.topic? with
  | none => none
  | some i => match shardN (c.topics.getD i (dflt T_api_Topic)).2 c.call.key with
    | none => none
    | some j => some ((c.topics.getD i (dflt T_api_Topic)).2.getD j (dflt T_api_Shard))
@[reducible] def shF {α : Type} (s : D_api_Shard) (r : α) := (s.1, s.2.1.1, s.2.1.2, s.2.2.1, s.2.2.2.1, s.2.2.2.2.1, s.2.2.2.2.2, r)
theorem p84_is {n : Nat} (hn : n ≤ 4194304) (c : Cl) (h : c.ok n) (hf : 4194304 < fu) : p84_1 fu (c.fl zN, ()) = some ((c.fl zN, (), (), (), (), (), ()), (shF (c.shard?.getD (dflt T_api_Shard)) (), c.shard?.isSome, ())) := by
  have ht := h.top.1
  unfold p84_1 p83 Cl.shard? Cl.topic?
  simp only [Cl.fl, zN, bind_val, p93_is c.topics c.call.topic (by omega) hf]
  cases hc : firstN c.topics.length (fun i => (c.topics.getD i (dflt T_api_Topic)).1.toList == c.call.topic.toList) with
  | none => rfl
  | some i =>
    have hi := (firstN_some hc).1
    have h0 : ¬ ((i : Int) < 0) := by omega
    have hm : c.topics.getD i (dflt T_api_Topic) ∈ c.topics := by rw [getD_lt hi]; exact List.getElem_mem _
    have hs := (h.top.2 _ hm).1
    simp only [h0, decide_false, cond_false, decide_true, cond_true, Int.natCast_nonneg, Int.ofNat_lt, hi, and_self, Int.toNat_natCast]
    rw [scan_is (c.topics.getD i (dflt T_api_Topic)).2.length _ (fun j => hasK ((c.topics.getD i (dflt T_api_Topic)).2.getD j (dflt T_api_Shard)).2.1.1 ((c.topics.getD i (dflt T_api_Topic)).2.getD j (dflt T_api_Shard)).2.1.2 c.call.key)
      (fun j => ((c.fl zN, (), (), (), (), (), ()), (shF ((c.topics.getD i (dflt T_api_Topic)).2.getD j (dflt T_api_Shard)) (), true, ()))) ((c.fl zN, (), (), (), (), (), ()), (shF (dflt T_api_Shard) (), false, ())) (fun j hj => ?_) ?_ (by omega)]
    · unfold shardN
      cases firstN (c.topics.getD i (dflt T_api_Topic)).2.length (fun j => hasK ((c.topics.getD i (dflt T_api_Topic)).2.getD j (dflt T_api_Shard)).2.1.1 ((c.topics.getD i (dflt T_api_Topic)).2.getD j (dflt T_api_Shard)).2.1.2 c.call.key) <;> rfl
    · simp only [Int.lt_irrefl, decide_false, cond_false, cond_true, decide_true, inrO_val]; rfl
    · simp only [Int.ofNat_lt, hj, decide_true, cond_true, Int.natCast_nonneg, true_and, and_self, Int.toNat_natCast, p95_is, bind_val, inrO_val, i64_succ hj (show (c.topics.getD i (dflt T_api_Topic)).2.length ≤ 9223372036854775807 by omega)]
/-- The call's command of a shard's epoch. -/
def Cl.command (c : Cl) (e : Int) : Part :=
  if c.call.kind = 1 then ⟨1, e, c.producer, c.seq, c.call.key, c.call.value, 0, 0, ⟨#[]⟩, 0⟩
  else if c.call.kind = 2 then ⟨2, e, 0, 0, ⟨#[]⟩, [], c.call.offset, c.call.most, ⟨#[]⟩, 0⟩
  else if c.call.kind = 3 then ⟨3, e, c.producer, c.seq, ⟨#[]⟩, [], c.call.offset, 0, c.call.name, 0⟩
  else ⟨4, e, 0, 0, ⟨#[]⟩, [], 0, 0, c.call.name, 0⟩
theorem beqT {a b : Int} (h : a = b) : (a == b) = true := beq_iff_eq.2 h
theorem beqF {a b : Int} (h : ¬ a = b) : (a == b) = false := beq_eq_false_iff_ne.2 h
theorem bneT {a b : Int} (h : ¬ a = b) : (a != b) = true := bne_iff_ne.2 h
theorem bneF {a b : Int} (h : a = b) : (a != b) = false := by subst h; simp
theorem p92_is (c : Cl) (h : c.call.ok) (e : Int) : p92 fu (c.fl zL, e, ()) = some ((), (c.command e).fl ()) := by
  have h1 := h.1
  unfold p92 Cl.command
  simp only [Cl.fl, zL]
  by_cases k1 : c.call.kind = 1
  · simp only [beqT k1, cond_true, p62_is _ (show c.call.value.length ≤ 140737488355328 by omega), bind_val, decide_true, if_pos k1]
  · simp only [beqF k1, cond_false, if_neg k1]
    by_cases k2 : c.call.kind = 2
    · simp only [beqT k2, cond_true, if_pos k2]
    · simp only [beqF k2, cond_false, if_neg k2]
      by_cases k3 : c.call.kind = 3
      · simp only [beqT k3, cond_true, if_pos k3]
      · simp only [beqF k3, cond_false, if_neg k3]
/-- What is asked: is it for a route ahead of the call; the request; whom. -/
def Cl.req (c : Cl) : Bool × Req × Int :=
  if c.call.kind = 5 then (false, ⟨0, 5, 0, Part.zero, { c.call.adm with p := c.producer, s := c.seq }, ⟨#[]⟩⟩, c.to 0)
  else match c.shard? with
    | none => (c.call.kind != 6, ⟨0, 6, 0, Part.zero, Adm.zero, c.call.topic⟩, c.server)
    | some s => if c.call.kind = 6 then (false, ⟨0, 6, 0, Part.zero, Adm.zero, c.call.topic⟩, c.server)
      else (false, ⟨0, c.call.kind, s.1, c.command s.2.2.1, Adm.zero, ⟨#[]⟩⟩, c.to s.1)
theorem p81_is {n : Nat} (hn : n ≤ 4194304) (c : Cl) (h : c.ok n) (hf : 4194304 < fu) :
    p81 fu (c.fl zN, ()) = some (({ c with route := c.req.1 }.fl zN, (), (), (), (), (), ()), (c.req.2.1.fl (), c.req.2.2, ())) := by
  have hr : ∀ b, ({ c with route := b } : Cl).ok n := fun b => ⟨h.sv, h.at0, h.at1, h.top, h.ld, h.ca⟩
  have e63 := p63_is (fu := fu) c.call.adm h.ca.2
  have e90 := fun b g => p90_is (fu := fu) hn { c with route := b } (hr b) g hf
  have e91 := fun b => p91_is (fu := fu) { c with route := b } (hr b)
  have e84 := p84_is (fu := fu) hn { c with route := false } (hr false) hf
  have e92 := fun b e => p92_is (fu := fu) { c with route := b } h.ca e
  simp only [Adm.fl] at e63
  simp only [Cl.fl, zL, zN] at e90 e91 e84 e92
  unfold p81
  simp only [Cl.fl, zN]
  by_cases k5 : c.call.kind = 5
  · have hq : c.req = (false, ⟨0, 5, 0, Part.zero, { c.call.adm with p := c.producer, s := c.seq }, ⟨#[]⟩⟩, c.to 0) := by unfold Cl.req; rw [if_pos k5]
    rw [hq]
    simp only [beqT k5, cond_true, e63, bind_val, e90, decide_true]
    rfl
  · simp only [beqF k5, cond_false, e84, bind_val, decide_true, cond_true]
    have hs : ({ c with route := false } : Cl).shard? = c.shard? := rfl
    rw [hs]
    cases hc : c.shard? with
    | none =>
      have hq : c.req = (c.call.kind != 6, ⟨0, 6, 0, Part.zero, Adm.zero, c.call.topic⟩, c.server) := by unfold Cl.req; rw [if_neg k5, hc]
      rw [hq]
      by_cases k6 : c.call.kind = 6
      · simp only [beqT k6, cond_true, orK_inl, e91, bind_val, decide_true]; rfl
      · simp only [beqF k6, cond_false, Option.isSome_none, Bool.not_false, cond_true, orK_inl, e91, bind_val, decide_true]; rfl
    | some s =>
      by_cases k6 : c.call.kind = 6
      · have hq : c.req = (false, ⟨0, 6, 0, Part.zero, Adm.zero, c.call.topic⟩, c.server) := by unfold Cl.req; rw [if_neg k5, hc]; simp only [if_pos k6]
        rw [hq]
        simp only [beqT k6, bneF k6, cond_true, orK_inl, e91, bind_val, decide_true]; rfl
      · have hq : c.req = (false, ⟨0, c.call.kind, s.1, c.command s.2.2.1, Adm.zero, ⟨#[]⟩⟩, c.to s.1) := by unfold Cl.req; rw [if_neg k5, hc]; simp only [if_neg k6]
        rw [hq]
        simp only [beqF k6, cond_false, Option.isSome_some, Bool.not_true, orK_inl, e92, bind_val, e90, decide_true, cond_true]; rfl
/-- A call ends. -/
def Cl.fini (c : Cl) : Cl := { c with busy := false, call := Ca.zero, route := false, group := 0, tries := 0, waited := 0, again := false }
@[reducible] def Cl.zE (c : Cl) (r : Rep) := (c.id, c.servers, c.producer, c.seq, c.topics, c.leaders, false, (0 : Int), (⟨#[]⟩ : ByteArray), (⟨#[]⟩ : ByteArray), (), (0 : Int), (0 : Int), (⟨#[]⟩ : ByteArray), (0 : Int), (0 : Int), (0 : Int), (⟨#[]⟩ : ByteArray), (), (0 : Int), (0 : Int), (⟨#[]⟩ : ByteArray), (0 : Int), (0 : Int), (0 : Int), (0 : Int), c.number, false, (0 : Int), (0 : Int), (0 : Int), false, c.at',
  false, (0 : Int), (0 : Int), (0 : Int), (0 : Int), (0 : Int), (0 : Int), (0 : Int), (0 : Int), (⟨#[]⟩ : ByteArray), (), (0 : Int), (0 : Int), (⟨#[]⟩ : ByteArray), (0 : Int), (0 : Int), (0 : Int), (0 : Int), (⟨#[]⟩ : ByteArray), (), (0 : Int), (0 : Int), (⟨#[]⟩ : ByteArray), (0 : Int), (0 : Int), (0 : Int), (0 : Int), (⟨#[]⟩ : ByteArray), true, r.id, r.err, r.leader, r.x3, r.x4, r.x5, r.recs, r.x7, r.shards, r.x9, r.x10, r.x11, ())
theorem p69_is (c : Cl) (r : Rep) (h : r.ok) (hf : 4194304 < fu) : p69 fu (c.fl zN, r.fl (), ()) = some ((c.zE r, (), (), (), (), (), ()), ()) := by
  have e := p87_is (fu := fu) r h hf
  simp only [Rep.fl] at e
  unfold p69
  simp only [Cl.fl, zN, Rep.fl, e, bind_val, decide_true, cond_true]
def Rep.time : Rep := ⟨0, 213, 0, 0, 0, false, [], 0, [], 0, 0, 0⟩
theorem Rep.time_ok : Rep.time.ok := ⟨⟨Nat.zero_le _, fun _ h => (by cases h)⟩, ⟨Nat.zero_le _, fun _ h => (by cases h)⟩⟩
theorem p72_is (c : Cl) (hf : 4194304 < fu) : p72 fu (c.fl zN, ()) = some ((c.zE Rep.time, (), (), (), (), (), ()), ()) := by
  have e := p69_is (fu := fu) c Rep.time Rep.time_ok hf
  simp only [Cl.fl, zN, Rep.fl, Rep.time] at e
  unfold p72
  simp only [Cl.fl, zN, decide_true, cond_true, e, bind_val]
  rfl
def Out.told (r : Rep) : Out := ⟨false, 0, Req.zero, true, r⟩
/-- It asks; or gives up. -/
def Cl.nx (c : Cl) : Cl := { c with number := IntKind.wrap .u64 (c.number + 1), tries := IntKind.wrap .i64 (c.tries + 1), waited := 0, again := false }
def Cl.send (c : Cl) : Cl × Out :=
  if 24 ≤ c.tries then (c.fini, Out.told Rep.time)
  else ({ c.nx with route := c.nx.req.1, group := c.nx.req.2.1.group }, ⟨true, c.nx.req.2.2, { c.nx.req.2.1 with id := c.nx.number }, false, Rep.zero⟩)
theorem p66_is {n : Nat} (hn : n ≤ 4194304) (c : Cl) (h : c.ok n) (hf : 4194304 < fu) :
    p66 fu (c.fl zN, ()) = some ((c.send.1.fl c.send.2.fl, (), (), (), (), (), ()), ()) := by
  have e72 := p72_is (fu := fu) c hf
  have hx : c.nx.ok n := ⟨h.sv, h.at0, h.at1, h.top, h.ld, h.ca⟩
  have e81 := p81_is (fu := fu) hn c.nx hx hf
  simp only [Cl.fl, zN, Cl.zE] at e72
  unfold p66 Cl.send
  by_cases k : 24 ≤ c.tries
  · have k' : c.tries ≥ 24 := k
    simp only [Cl.fl, zN, k', decide_true, cond_true, e72, bind_val, if_pos]
    rfl
  · have k' : ¬ (c.tries ≥ 24) := k
    simp only [if_neg k]
    generalize hq : c.nx.req = q at e81
    obtain ⟨b, q, t⟩ := q
    simp only [Cl.fl, zN, Cl.nx, Req.fl] at e81
    simp only [Cl.fl, zN, k', decide_false, cond_false, decide_true, cond_true, e81, bind_val]
    rfl
end Go.Proofs.Ytiiodikdbkpjjaa
