/-
  Entries, by the list of those that they call. General; nothing of this program.
-/
import Derived.Test.YtlmnhbobgfpanaaDaK
namespace Go.Proofs.Ytlmnhbobgfpanaa
open Go.RowKit

def Hint.ents : Hint → List Ent
  | .ent e => [e]
  | .either a b => a.ents ++ b.ents
  | _ => []
def DC.ents : DC → List Ent
  | .region rs _ _ => rs.flatMap fun q => q.2.ents
  | .scr rs _ => rs.flatMap fun q => q.2.ents
  | .seq x y => x.ents ++ y.ents
  | .join _ x y => x.ents ++ y.ents
  | .zone _ _ x y => x.ents ++ y.ents
  | .age _ x y => x.ents ++ y.ents
  | .cond _ x y => x.ents ++ y.ents
  | .block _ x => x.ents
  | .loop _ x => x.ents
  | _ => []
def Hint.spos : Hint → List Spo
  | .spo s => [s]
  | _ => []
def DC.spos : DC → List Spo
  | .scr rs _ => rs.flatMap fun q => q.2.spos
  | .seq x y => x.spos ++ y.spos
  | .join _ x y => x.spos ++ y.spos
  | .zone _ _ x y => x.spos ++ y.spos
  | .age _ x y => x.spos ++ y.spos
  | .cond _ x y => x.spos ++ y.spos
  | .block _ x => x.spos
  | .loop _ x => x.spos
  | _ => []
def AllSpo (P : Program) : List Spo → Prop
  | [] => True
  | s :: l => s.Good P ∧ AllSpo P l
theorem AllSpo.mem {P : Program} : ∀ {l : List Spo}, AllSpo P l → ∀ e ∈ l, e.Good P
  | [], _, e, h => by cases h
  | x :: l, ⟨h1, h2⟩, e, h => by
    rcases List.mem_cons.1 h with rfl | h
    · exact h1
    · exact AllSpo.mem h2 e h
def AllGood (P : Program) : List Ent → Prop
  | [] => True
  | e :: l => e.Good P ∧ AllGood P l
theorem AllGood.mem {P : Program} : ∀ {l : List Ent}, AllGood P l → ∀ e ∈ l, e.Good P
  | [], _, e, h => by cases h
  | x :: l, ⟨h1, h2⟩, e, h => by
    rcases List.mem_cons.1 h with rfl | h
    · exact h1
    · exact AllGood.mem h2 e h
theorem Hint.good_of {P : Program} : ∀ {h : Hint}, (∀ e ∈ h.ents, e.Good P) → h.Good P := by
  intro h
  induction h with
  | ent e => intro h; exact h e (List.mem_singleton.2 rfl)
  | either a b ih1 ih2 => intro h; exact ⟨ih1 fun e he => h e (List.mem_append_left _ he), ih2 fun e he => h e (List.mem_append_right _ he)⟩
  | _ => intro _; trivial
theorem Hint.goodS_of {P : Program} {h : Hint} (k : ∀ e ∈ h.spos, e.Good P) : h.GoodS P := by
  cases h with
  | spo s => exact k s (List.mem_singleton.2 rfl)
  | _ => trivial
theorem DC.calm_spos : ∀ {c : DC}, c.calm = true → c.spos = [] := by
  intro c
  induction c with
  | scr rs deps => intro h; cases h
  | zone _ a x y => intro h; cases h
  | age _ x y => intro h; cases h
  | seq x y ih1 ih2 => intro h; simp only [DC.calm, Bool.and_eq_true] at h; simp only [DC.spos, ih1 h.1, ih2 h.2]; rfl
  | join a x y ih1 ih2 => intro h; simp only [DC.calm, Bool.and_eq_true] at h; simp only [DC.spos, ih1 h.1, ih2 h.2]; rfl
  | cond c x y ih1 ih2 => intro h; simp only [DC.calm, Bool.and_eq_true] at h; simp only [DC.spos, ih1 h.1, ih2 h.2]; rfl
  | block id x ih => intro h; exact ih h
  | loop a x ih => intro h; exact ih h
  | _ => intro _; rfl
theorem DC.good_of {P : Program} {z : Bool} : ∀ {c : DC}, (z = true ∨ c.calm = true) → (∀ e ∈ c.ents, e.Good P) → (∀ e ∈ c.spos, e.Good P) → c.Good P z := by
  intro c
  have two : ∀ {A B : Type} {l m : List A} {p : A → Prop}, (∀ e ∈ l ++ m, p e) → (∀ e ∈ l, p e) ∧ ∀ e ∈ m, p e := fun h => ⟨fun e he => h e (List.mem_append_left _ he), fun e he => h e (List.mem_append_right _ he)⟩
  have zz : ∀ {x y : DC} {b : Bool}, (z = true ∨ b = true) → (b = (x.calm && y.calm)) → (z = true ∨ x.calm = true) ∧ (z = true ∨ y.calm = true) := by
    intro x y b hz hb
    rcases hz with hz | hz
    · exact ⟨.inl hz, .inl hz⟩
    · rw [hb] at hz
      simp only [Bool.and_eq_true] at hz
      exact ⟨.inr hz.1, .inr hz.2⟩
  induction c with
  | region rs deps draw =>
    intro _ h k q hq
    exact Hint.good_of fun e he => h e (List.mem_flatMap.2 ⟨q, hq, he⟩)
  | scr rs deps =>
    intro hz h k
    refine ⟨?_, fun q hq => ⟨Hint.good_of fun e he => h e (List.mem_flatMap.2 ⟨q, hq, he⟩), Hint.goodS_of fun e he => k e (List.mem_flatMap.2 ⟨q, hq, he⟩)⟩⟩
    rcases hz with hz | hz
    · exact hz
    · cases hz
  | seq x y ih1 ih2 =>
    intro hz h k
    exact ⟨ih1 (zz hz rfl).1 (two (B := Unit) h).1 (two (B := Unit) k).1, ih2 (zz hz rfl).2 (two (B := Unit) h).2 (two (B := Unit) k).2⟩
  | join a x y ih1 ih2 =>
    intro hz h k
    exact ⟨ih1 (zz hz rfl).1 (two (B := Unit) h).1 (two (B := Unit) k).1, ih2 (zz hz rfl).2 (two (B := Unit) h).2 (two (B := Unit) k).2⟩
  | cond c x y ih1 ih2 =>
    intro hz h k
    exact ⟨ih1 (zz hz rfl).1 (two (B := Unit) h).1 (two (B := Unit) k).1, ih2 (zz hz rfl).2 (two (B := Unit) h).2 (two (B := Unit) k).2⟩
  | block id x ih => intro hz h k; exact ih hz h k
  | loop a x ih => intro hz h k; exact ih hz h k
  | age _ x y ih1 ih2 =>
    intro hz h k
    have hz : z = true := by
      rcases hz with hz | hz
      · exact hz
      · cases hz
    exact ⟨hz, ih1 (.inl hz) (two (B := Unit) h).1 (two (B := Unit) k).1, ih2 (.inl hz) (two (B := Unit) h).2 (two (B := Unit) k).2⟩
  | zone _ a x y ih1 ih2 =>
    intro hz h k
    have hz : z = true := by
      rcases hz with hz | hz
      · exact hz
      · cases hz
    exact ⟨hz, ih1 (.inl hz) (two (B := Unit) h).1 (two (B := Unit) k).1, ih2 (.inl hz) (two (B := Unit) h).2 (two (B := Unit) k).2⟩
  | _ => intro _ _ _; trivial
theorem good_by {P : Program} (hm : P.follows .mixedOrders = true) {fu : Nat} {en : Ent} {c : DC} {rs : List RVx} {N : Nat} {l : List Ent} (hb : BodyD P en.f N c.erase rs) (he : c.ents = l) (hz : c.calm = true) (hl : AllGood P l)
    (hw : en.wfD N = true) (hv : evF fu c rs N en.ash en.osh en.vsh = en.p) : en.Good P :=
  good_of hm hb (DC.good_of (.inr hz) (by rw [he]; exact hl.mem) (by rw [DC.calm_spos hz]; exact fun _ h => nomatch h)) hz hw hv
/-! Short words for code. -/
/-! Code with its hints, made of the program's own code. -/
def decR {β : Type} : List RO → Nat → List (Nat × Hint) → (List (RO × Hint) → Nat → List (Nat × Hint) → β) → β
  | [], o, hs, k => k [] o hs
  | r :: rs, o, [], k => decR rs (o + 1) [] fun l o' hs' => k ((r, .none) :: l) o' hs'
  | r :: rs, o, (j, h) :: t, k => cond (Nat.beq j o) (decR rs (o + 1) t fun l o' hs' => k ((r, h) :: l) o' hs') (decR rs (o + 1) ((j, h) :: t) fun l o' hs' => k ((r, .none) :: l) o' hs')
def dec : AC → Nat → List (Nat × Hint) → Nat → List (Nat × Ann) → (DC → Nat → List (Nat × Hint) → Nat → List (Nat × Ann) → Option DC) → Option DC
  | .skip, o, hs, n, as, k => k .skip o hs n as
  | .region ros deps draw, o, hs, n, as, k => decR ros o hs fun l o hs => k (.region l deps draw) o hs n as
  | .seq x y, o, hs, n, [], k => dec x o hs (n + 1) [] fun cx o hs n as => dec y o hs n as fun cy o hs n as => k (.seq cx cy) o hs n as
  | .seq x y, o, hs, n, (j, a) :: t, k => cond (Nat.beq j n) (dec x o hs (n + 1) t fun cx o hs n as => dec y o hs n as fun cy o hs n as => k (.join a cx cy) o hs n as)
      (dec x o hs (n + 1) ((j, a) :: t) fun cx o hs n as => dec y o hs n as fun cy o hs n as => k (.seq cx cy) o hs n as)
  | .cond c x y, o, hs, n, as, k => dec x o hs n as fun cx o hs n as => dec y o hs n as fun cy o hs n as => k (.cond c cx cy) o hs n as
  | .block id x, o, hs, n, as, k => dec x o hs n as fun cx o hs n as => k (.block id cx) o hs n as
  | .loop x, o, hs, n, (_, a) :: t, k => dec x o hs (n + 1) t fun cx o hs n as => k (.loop a cx) o hs n as
  | .loop _, _, _, _, [], _ => none
  | .exit id, o, hs, n, as, k => k (.exit id) o hs n as
  | .ret, o, hs, n, as, k => k .ret o hs n as
  | .join _, _, _, _, _, _ => none
theorem decR_eq {β : Type} {v : β} : ∀ (rs : List RO) (o : Nat) (hs : List (Nat × Hint)) (k : List (RO × Hint) → Nat → List (Nat × Hint) → β), decR rs o hs k = v → ∃ l o' hs', l.map (·.1) = rs ∧ k l o' hs' = v
  | [], o, hs, k, h => ⟨[], o, hs, rfl, h⟩
  | r :: rs, o, [], k, h => by
    obtain ⟨l, o', hs', h1, h2⟩ := decR_eq rs (o + 1) [] _ h
    exact ⟨_, o', hs', by simp [h1], h2⟩
  | r :: rs, o, (j, x) :: t, k, h => by
    unfold decR at h
    cases hb : Nat.beq j o with
    | true =>
      rw [hb] at h
      obtain ⟨l, o', hs', h1, h2⟩ := decR_eq rs (o + 1) t _ h
      exact ⟨_, o', hs', by simp [h1], h2⟩
    | false =>
      rw [hb] at h
      obtain ⟨l, o', hs', h1, h2⟩ := decR_eq rs (o + 1) ((j, x) :: t) _ h
      exact ⟨_, o', hs', by simp [h1], h2⟩
theorem dec_eq {v : DC} : ∀ (ac : AC) (o : Nat) (hs : List (Nat × Hint)) (n : Nat) (as : List (Nat × Ann)) (k : DC → Nat → List (Nat × Hint) → Nat → List (Nat × Ann) → Option DC), dec ac o hs n as k = some v →
    ∃ c o' hs' n' as', (c.erase = ac ∧ c.calm = true) ∧ k c o' hs' n' as' = some v := by
  intro ac
  induction ac with
  | skip => intro o hs n as k h; exact ⟨_, o, hs, n, as, ⟨rfl, rfl⟩, h⟩
  | region ros deps draw =>
    intro o hs n as k h
    obtain ⟨l, o', hs', h1, h2⟩ := decR_eq ros o hs _ h
    exact ⟨_, o', hs', n, as, ⟨by simp [DC.erase, h1], rfl⟩, h2⟩
  | seq x y ihx ihy =>
    intro o hs n as k h
    cases as with
    | nil =>
      obtain ⟨cx, o1, hs1, n1, as1, ⟨e1, g1⟩, h1⟩ := ihx _ _ _ _ _ h
      obtain ⟨cy, o2, hs2, n2, as2, ⟨e2, g2⟩, h2⟩ := ihy _ _ _ _ _ h1
      exact ⟨_, o2, hs2, n2, as2, ⟨by simp [DC.erase, e1, e2], by simp [DC.calm, g1, g2]⟩, h2⟩
    | cons q t =>
      obtain ⟨j, a⟩ := q
      unfold dec at h
      cases hb : Nat.beq j n with
      | true =>
        rw [hb] at h
        obtain ⟨cx, o1, hs1, n1, as1, ⟨e1, g1⟩, h1⟩ := ihx _ _ _ _ _ h
        obtain ⟨cy, o2, hs2, n2, as2, ⟨e2, g2⟩, h2⟩ := ihy _ _ _ _ _ h1
        exact ⟨_, o2, hs2, n2, as2, ⟨by simp [DC.erase, e1, e2], by simp [DC.calm, g1, g2]⟩, h2⟩
      | false =>
        rw [hb] at h
        obtain ⟨cx, o1, hs1, n1, as1, ⟨e1, g1⟩, h1⟩ := ihx _ _ _ _ _ h
        obtain ⟨cy, o2, hs2, n2, as2, ⟨e2, g2⟩, h2⟩ := ihy _ _ _ _ _ h1
        exact ⟨_, o2, hs2, n2, as2, ⟨by simp [DC.erase, e1, e2], by simp [DC.calm, g1, g2]⟩, h2⟩
  | cond c x y ihx ihy =>
    intro o hs n as k h
    obtain ⟨cx, o1, hs1, n1, as1, ⟨e1, g1⟩, h1⟩ := ihx _ _ _ _ _ h
    obtain ⟨cy, o2, hs2, n2, as2, ⟨e2, g2⟩, h2⟩ := ihy _ _ _ _ _ h1
    exact ⟨_, o2, hs2, n2, as2, ⟨by simp [DC.erase, e1, e2], by simp [DC.calm, g1, g2]⟩, h2⟩
  | block id x ih =>
    intro o hs n as k h
    obtain ⟨cx, o1, hs1, n1, as1, ⟨e1, g1⟩, h1⟩ := ih _ _ _ _ _ h
    exact ⟨_, o1, hs1, n1, as1, ⟨by simp [DC.erase, e1], by simp [DC.calm, g1]⟩, h1⟩
  | loop x ih =>
    intro o hs n as k h
    cases as with
    | nil => cases h
    | cons q t =>
      obtain ⟨j, a⟩ := q
      obtain ⟨cx, o1, hs1, n1, as1, ⟨e1, g1⟩, h1⟩ := ih _ _ _ _ _ h
      exact ⟨_, o1, hs1, n1, as1, ⟨by simp [DC.erase, e1], by simp [DC.calm, g1]⟩, h1⟩
  | exit id => intro o hs n as k h; exact ⟨_, o, hs, n, as, ⟨rfl, rfl⟩, h⟩
  | ret => intro o hs n as k h; exact ⟨_, o, hs, n, as, ⟨rfl, rfl⟩, h⟩
  | join x ih => intro o hs n as k h; cases h
def decF (P : Program) (fn : Func) (N : Nat) (hs : List (Nat × Hint)) (as : List (Nat × Ann)) : Option DC :=
  (fn.body.bind fun code => compC P false N code).bind fun ac => dec ac 0 hs 0 as fun c _ _ _ _ => some c
theorem good_fx {P : Program} (hm : P.follows .mixedOrders = true) {en : Ent} {fn : Func} (h1 : P.funcs[en.f]? = some fn) (fu : Nat) (hs : List (Nat × Hint)) (as : List (Nat × Ann)) (rs : List RVx) (N : Nat) {l : List Ent} (hl : AllGood P l)
    (h2 : (fn.name == "runtime.NumGoroutine") = false := by kernel_rfl) (h3 : fn.ntmps = N := by kernel_rfl) (h5 : compRes P fn.results.toList = some rs := by kernel_rfl)
    (he : (decF P fn N hs as).map DC.ents = some l := by kernel_rfl) (hw : en.wfD N = true := by kernel_rfl) (hv : (decF P fn N hs as).map (fun c => evF fu c rs N en.ash en.osh en.vsh) = some en.p := by kernel_rfl) : en.Good P := by
  cases hc : decF P fn N hs as with
  | none => rw [hc] at he; cases he
  | some c =>
    rw [hc] at he hv
    unfold decF at hc
    cases ha : (fn.body.bind fun code => compC P false N code) with
    | none => rw [ha] at hc; cases hc
    | some ac =>
      rw [ha] at hc
      obtain ⟨c', o, hs', n, as', ⟨e1, e3⟩, e2⟩ := dec_eq ac 0 hs 0 as _ hc
      obtain rfl : c' = c := Option.some.inj e2
      exact good_by hm (bodyD_mk h1 h2 h3 (by rw [ha, e1]) h5) (Option.some.inj he) e3 hl hw (Option.some.inj hv)
/-! A law's code, of which pieces begin anew, or write over what is new. -/
inductive ZK where
  | zone
  | age
  | clo
  | shut
abbrev KZ := DC → Nat → List (Nat × Hint) → Nat → List (Nat × Ann) → List (Nat × ZK) → Option DC
def zkOf (n : Nat) : List (Nat × ZK) → Option ZK
  | (j, z) :: _ => cond (Nat.beq j n) (some z) none
  | [] => none
def anOf (n : Nat) : List (Nat × Ann) → Option Ann
  | (j, a) :: _ => cond (Nat.beq j n) (some a) none
  | [] => none
def decZ : AC → Nat → List (Nat × Hint) → Nat → List (Nat × Ann) → List (Nat × ZK) → KZ → Option DC
  | .skip, o, hs, n, as, zs, k => k .skip o hs n as zs
  | .region ros deps draw, o, hs, n, as, zs, k => decR ros o hs fun l o hs => k (cond draw (.region l deps draw) (.scr l deps)) o hs n as zs
  | .seq x y, o, hs, n, as, zs, k => match zkOf n zs with
    | some .age => decZ x o hs (n + 1) as zs.tail fun cx o hs n as zs => decZ y o hs n as zs fun cy o hs n as zs => k (.age false cx cy) o hs n as zs
    | some .clo => decZ x o hs (n + 1) as zs.tail fun cx o hs n as zs => decZ y o hs n as zs fun cy o hs n as zs => k (.age true cx cy) o hs n as zs
    | some .zone => match anOf n as with
      | some a => decZ x o hs (n + 1) as.tail zs.tail fun cx o hs n as zs => decZ y o hs n as zs fun cy o hs n as zs => k (.zone false a cx cy) o hs n as zs
      | none => none
    | some .shut => match anOf n as with
      | some a => decZ x o hs (n + 1) as.tail zs.tail fun cx o hs n as zs => decZ y o hs n as zs fun cy o hs n as zs => k (.zone true a cx cy) o hs n as zs
      | none => none
    | none => match anOf n as with
      | some a => decZ x o hs (n + 1) as.tail zs fun cx o hs n as zs => decZ y o hs n as zs fun cy o hs n as zs => k (.join a cx cy) o hs n as zs
      | none => decZ x o hs (n + 1) as zs fun cx o hs n as zs => decZ y o hs n as zs fun cy o hs n as zs => k (.seq cx cy) o hs n as zs
  | .cond c x y, o, hs, n, as, zs, k => decZ x o hs n as zs fun cx o hs n as zs => decZ y o hs n as zs fun cy o hs n as zs => k (.cond c cx cy) o hs n as zs
  | .block id x, o, hs, n, as, zs, k => decZ x o hs n as zs fun cx o hs n as zs => k (.block id cx) o hs n as zs
  | .loop x, o, hs, n, (_, a) :: t, zs, k => decZ x o hs (n + 1) t zs fun cx o hs n as zs => k (.loop a cx) o hs n as zs
  | .loop _, _, _, _, [], _, _ => none
  | .exit id, o, hs, n, as, zs, k => k (.exit id) o hs n as zs
  | .ret, o, hs, n, as, zs, k => k .ret o hs n as zs
  | .join _, _, _, _, _, _, _ => none
theorem decZ_eq {v : DC} : ∀ (ac : AC) (o : Nat) (hs : List (Nat × Hint)) (n : Nat) (as : List (Nat × Ann)) (zs : List (Nat × ZK)) (k : KZ), decZ ac o hs n as zs k = some v →
    ∃ c o' hs' n' as' zs', c.erase = ac ∧ k c o' hs' n' as' zs' = some v := by
  intro ac
  induction ac with
  | skip => intro o hs n as zs k h; exact ⟨_, o, hs, n, as, zs, rfl, h⟩
  | exit id => intro o hs n as zs k h; exact ⟨_, o, hs, n, as, zs, rfl, h⟩
  | ret => intro o hs n as zs k h; exact ⟨_, o, hs, n, as, zs, rfl, h⟩
  | join x ih => intro o hs n as zs k h; cases h
  | region ros deps draw =>
    intro o hs n as zs k h
    obtain ⟨l, o', hs', h1, h2⟩ := decR_eq ros o hs _ h
    exact ⟨_, o', hs', n, as, zs, by cases draw <;> simp [DC.erase, h1], h2⟩
  | seq x y ihx ihy =>
    intro o hs n as zs k h
    unfold decZ at h
    split at h
    · obtain ⟨cx, o1, hs1, n1, as1, zs1, e1, h1⟩ := ihx _ _ _ _ _ _ h
      obtain ⟨cy, o2, hs2, n2, as2, zs2, e2, h2⟩ := ihy _ _ _ _ _ _ h1
      exact ⟨_, o2, hs2, n2, as2, zs2, by simp [DC.erase, e1, e2], h2⟩
    · obtain ⟨cx, o1, hs1, n1, as1, zs1, e1, h1⟩ := ihx _ _ _ _ _ _ h
      obtain ⟨cy, o2, hs2, n2, as2, zs2, e2, h2⟩ := ihy _ _ _ _ _ _ h1
      exact ⟨_, o2, hs2, n2, as2, zs2, by simp [DC.erase, e1, e2], h2⟩
    · split at h
      · obtain ⟨cx, o1, hs1, n1, as1, zs1, e1, h1⟩ := ihx _ _ _ _ _ _ h
        obtain ⟨cy, o2, hs2, n2, as2, zs2, e2, h2⟩ := ihy _ _ _ _ _ _ h1
        exact ⟨_, o2, hs2, n2, as2, zs2, by simp [DC.erase, e1, e2], h2⟩
      · cases h
    · split at h
      · obtain ⟨cx, o1, hs1, n1, as1, zs1, e1, h1⟩ := ihx _ _ _ _ _ _ h
        obtain ⟨cy, o2, hs2, n2, as2, zs2, e2, h2⟩ := ihy _ _ _ _ _ _ h1
        exact ⟨_, o2, hs2, n2, as2, zs2, by simp [DC.erase, e1, e2], h2⟩
      · cases h
    · split at h
      · obtain ⟨cx, o1, hs1, n1, as1, zs1, e1, h1⟩ := ihx _ _ _ _ _ _ h
        obtain ⟨cy, o2, hs2, n2, as2, zs2, e2, h2⟩ := ihy _ _ _ _ _ _ h1
        exact ⟨_, o2, hs2, n2, as2, zs2, by simp [DC.erase, e1, e2], h2⟩
      · obtain ⟨cx, o1, hs1, n1, as1, zs1, e1, h1⟩ := ihx _ _ _ _ _ _ h
        obtain ⟨cy, o2, hs2, n2, as2, zs2, e2, h2⟩ := ihy _ _ _ _ _ _ h1
        exact ⟨_, o2, hs2, n2, as2, zs2, by simp [DC.erase, e1, e2], h2⟩
  | cond c x y ihx ihy =>
    intro o hs n as zs k h
    obtain ⟨cx, o1, hs1, n1, as1, zs1, e1, h1⟩ := ihx _ _ _ _ _ _ h
    obtain ⟨cy, o2, hs2, n2, as2, zs2, e2, h2⟩ := ihy _ _ _ _ _ _ h1
    exact ⟨_, o2, hs2, n2, as2, zs2, by simp [DC.erase, e1, e2], h2⟩
  | block id x ih =>
    intro o hs n as zs k h
    obtain ⟨cx, o1, hs1, n1, as1, zs1, e1, h1⟩ := ih _ _ _ _ _ _ h
    exact ⟨_, o1, hs1, n1, as1, zs1, by simp [DC.erase, e1], h1⟩
  | loop x ih =>
    intro o hs n as zs k h
    cases as with
    | nil => cases h
    | cons q t =>
      obtain ⟨j, a⟩ := q
      obtain ⟨cx, o1, hs1, n1, as1, zs1, e1, h1⟩ := ih _ _ _ _ _ _ h
      exact ⟨_, o1, hs1, n1, as1, zs1, by simp [DC.erase, e1], h1⟩
def decFZ (P : Program) (fn : Func) (N : Nat) (hs : List (Nat × Hint)) (as : List (Nat × Ann)) (zs : List (Nat × ZK)) : Option DC :=
  (fn.body.bind fun code => compC P false N code).bind fun ac => decZ ac 0 hs 0 as zs fun c _ _ _ _ _ => some c
theorem good_fz {P : Program} (hm : P.follows .mixedOrders = true) {f : FuncId} {ash : Sh} {p : den ash.ty → Option (den Sh.nil.ty × den (Sh.hole .bool).ty)} {fn : Func} (h1 : P.funcs[f]? = some fn) (fu : Nat) (hs : List (Nat × Hint)) (as : List (Nat × Ann)) (zs : List (Nat × ZK)) (rs : List RVx) (N : Nat) {l : List Ent} (hl : AllGood P l)
    {ls : List Spo} (hs0 : AllSpo P ls)
    (h2 : (fn.name == "runtime.NumGoroutine") = false := by kernel_rfl) (h3 : fn.ntmps = N := by kernel_rfl) (h5 : compRes P fn.results.toList = some rs := by kernel_rfl)
    (hq : (decFZ P fn N hs as zs).map DC.spos = some ls := by kernel_rfl)
    (he : (decFZ P fn N hs as zs).map DC.ents = some l := by kernel_rfl) (hw : (⟨f, ash, .nil, .hole .bool, p⟩ : Ent).wfD N = true := by kernel_rfl) (hmild : ash.mild = true := by kernel_rfl) (hv : (decFZ P fn N hs as zs).map (fun c => evF fu c rs N ash .nil (.hole .bool)) = some p := by kernel_rfl) : (⟨f, ash, .nil, .hole .bool, p⟩ : Ent).Good P := by
  cases hc : decFZ P fn N hs as zs with
  | none => rw [hc] at he; cases he
  | some c =>
    rw [hc] at he hv hq
    unfold decFZ at hc
    cases ha : (fn.body.bind fun code => compC P false N code) with
    | none => rw [ha] at hc; cases hc
    | some ac =>
      rw [ha] at hc
      obtain ⟨c', o, hs', n, as', zs', e1, e2⟩ := decZ_eq ac 0 hs 0 as zs _ hc
      obtain rfl : c' = c := Option.some.inj e2
      exact good_ofz hm (bodyD_mk h1 h2 h3 (by rw [ha, e1]) h5) (DC.good_of (.inl rfl) (by rw [Option.some.inj he]; exact hl.mem) (by rw [Option.some.inj hq]; exact hs0.mem)) hw hmild (Option.some.inj hv)
end Go.Proofs.Ytlmnhbobgfpanaa
