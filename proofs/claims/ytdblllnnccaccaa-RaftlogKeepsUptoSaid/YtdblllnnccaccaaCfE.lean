/-
  raftlog.Conf: its entry.
-/
import Derived.Test.YtdblllnnccaccaaBwB
import Derived.Test.YtdblllnnccaccaaPtB
import Derived.Test.YtdblllnnccaccaaTrY
namespace Go.Proofs.Ytdblllnnccaccaa
open Go.RowKit
abbrev cfT : Tp := Bq.T_api_Entry
abbrev En : Type := Int × Int × Int × List Int × List Int × List Int
def dfE : En := (0, 0, 0, [], [], [])
theorem getD_lt' {α : Type} {l : List α} {i : Nat} {d : α} (h : i < l.length) : l.getD i d = l[i] := by
  rw [List.getD_eq_getElem?_getD, List.getElem?_eq_getElem h]; rfl
def lastC (es : List En) : Option Nat := (List.range es.length).reverse.find? fun i => (es.getD i dfE).2.2.1 == 3
theorem lastC_some {es : List En} {j : Nat} (hj : j < es.length) (h : (es.getD j dfE).2.2.1 = 3) (ha : ∀ k, j < k → k < es.length → (es.getD k dfE).2.2.1 ≠ 3) : lastC es = some j := by
  unfold lastC
  rw [List.find?_eq_some_iff_append]
  refine ⟨by simpa using h, ((List.range es.length).drop (j + 1)).reverse, ((List.range es.length).take j).reverse, ?_, fun a ha' => ?_⟩
  · have : List.range es.length = (List.range es.length).take j ++ j :: (List.range es.length).drop (j + 1) := by
      have h2 := List.drop_eq_getElem_cons (l := List.range es.length) (i := j) (by simpa using hj)
      rw [List.getElem_range] at h2
      rw [← h2, List.take_append_drop]
    rw [this]
    simp only [List.reverse_append, List.reverse_cons, List.append_assoc, List.singleton_append]
    rw [← this]
  · rw [List.mem_reverse] at ha'
    obtain ⟨i, hi, rfl⟩ := List.mem_iff_getElem.1 ha'
    rw [List.getElem_drop, List.getElem_range]
    have hi' : i < es.length - (j + 1) := by simpa using hi
    have := ha (j + 1 + i) (by omega) (by omega)
    simpa using this
theorem lastC_none {es : List En} (ha : ∀ k, k < es.length → (es.getD k dfE).2.2.1 ≠ 3) : lastC es = none := by
  unfold lastC
  rw [List.find?_eq_none]
  intro i hi
  have := ha i (by simpa using hi)
  simpa using this
def cfOf (v l : List Int) (es : List En) : Option Nat → List Int × List Int
  | none => (v, l)
  | some j => ((es.getD j dfE).2.2.2.2.1, (es.getD j dfE).2.2.2.2.2)
def ixOf (es : List En) : Option Nat → Int
  | none => 0
  | some j => (es.getD j dfE).1
def copyOK (fu : Nat) (c : List Int × List Int) : Bool := (Bq.p45 fu ((c.1, c.2, ()), ())).isSome
def pRCf (fu : Nat) : (Int × (Int × (List Int × (List Int × (List Int × (List En × Unit)))))) × Unit → Option (Unit × ((List Int × (List Int × Unit)) × (Int × Unit))) := fun x =>
  bif decide (x.1.2.2.2.2.2.1.length ≤ 1048576) && x.1.2.2.2.2.2.1.all (fun e => copyOK fu (e.2.2.2.2.1, e.2.2.2.2.2)) then
    (Bq.p45 fu (((cfOf x.1.2.2.1 x.1.2.2.2.1 x.1.2.2.2.2.2.1 (lastC x.1.2.2.2.2.2.1)).1, (cfOf x.1.2.2.1 x.1.2.2.2.1 x.1.2.2.2.2.2.1 (lastC x.1.2.2.2.2.2.1)).2, ()), ())).bind fun y => some ((), y.2, ixOf x.1.2.2.2.2.2.1 (lastC x.1.2.2.2.2.2.1), ())
  else none
abbrev cfI : TypeId := 3
def eRCf (fu : Nat) : Ent := ⟨23, .cons (.agg 6 (.cons (.hole (.int .u64)) (.cons (.hole (.int .u64)) (.cons (.hole (.sl .any (.int .i64))) (.cons (.hole (.sl .any (.int .i64))) (.cons (.hole (.sl .any (.int .u8))) (.cons (.hole (.sl .any cfT)) .nil))))))) .nil, .nil,
  .tup 2 (.cons (.agg 2 (.cons (.own .own cfI (.int .i64)) (.cons (.own .own cfI (.int .i64)) .nil))) (.cons (.hole (.int .u64)) .nil)), pRCf fu⟩
def Row1 (base : Nat) (W : World) (l : List Int) (x : Value) (p : Option Nat) : Prop := (p = none ∧ x = .slice none 0 0 ∧ l.length = 0) ∨
  ∃ g cs cap, p = some g ∧ x = .slice (some ⟨g, 0, none⟩) l.length cap ∧ base ≤ g ∧ W.heap[g]? = some (.cells cs cfI (0, 0)) ∧ l.length ≤ cap ∧ cap ≤ maxLen ∧ cs.size = cap * 1 ∧ ∀ i, i < l.length → cs.getD i undef = .int .i64 (l.getD i 0)
def Rows2 (base : Nat) (W : World) (a b : List Int) (x y : Value) : Prop := ∃ p q, Row1 base W a x p ∧ Row1 base W b y q ∧ ∀ g, p = some g → q ≠ some g
theorem Row1.cells {n base : Nat} {A B : World} {l : List Int} {x : Value} {p : Option Nat} (h : Row1 base A l x p) (hn : n ≤ base) (hc : CellsFrom n A B) : Row1 base B l x p := by
  rcases h with h | ⟨g, cs, cap, h1, h2, h3, h4, h5⟩
  · exact .inl h
  · exact .inr ⟨g, cs, cap, h1, h2, h3, hc g _ (by omega) h4 rfl, h5⟩
theorem Rows2.cells {n base : Nat} {A B : World} {a b : List Int} {x y : Value} (h : Rows2 base A a b x y) (hn : n ≤ base) (hc : CellsFrom n A B) : Rows2 base B a b x y := by
  obtain ⟨p, q, h1, h2, h3⟩ := h
  exact ⟨p, q, h1.cells hn hc, h2.cells hn hc, h3⟩
theorem Row1.base {m n : Nat} {A : World} {l : List Int} {x : Value} {p : Option Nat} (h : Row1 n A l x p) (hm : m ≤ n) : Row1 m A l x p := by
  rcases h with h | ⟨g, cs, cap, h1, h2, h3, h4⟩
  · exact .inl h
  · exact .inr ⟨g, cs, cap, h1, h2, Nat.le_trans hm h3, h4⟩
theorem glb_no {b : Sees} {ρ : Pl} {O : Ow} {w : World} : Glb b ρ O w := ⟨fun p hp => (by cases hp), fun p hp => (by cases hp)⟩
theorem fc_at2 {P : Program} {f : FuncId} {args : List V} {new : List Ob} {v : V} (h : FC P f [] args ⟨[], new, v⟩) (W : World) (vs : Array Value) (hs : vs.size = args.length)
    (hv : ∀ (j : Nat) (u : V), args[j]? = some u → u.rel (fun _ b _ => b < W.heap.size) (fun _ => none) (lol []) W (vs.getD j undef)) (hgl : Glb (fun _ b _ => b < W.heap.size) (fun _ => none) (lol []) W) :
    Calls P f vs W fun e w' => ∃ ρ' x, e = .returned x ∧ Below W.heap.size W w' ∧ v.rel (Env.b ⟨W, fun _ => none, lol [], fun _ b _ => b < W.heap.size, nobody⟩) ρ' (lol new) w' x ∧ (∀ k o, lol new k = some o → o.rel (Env.b ⟨W, fun _ => none, lol [], fun _ b _ => b < W.heap.size, nobody⟩) ρ' (lol new) w' (ρ' k)) ∧
      (∀ k o g, lol new k = some o → o.live = true → ρ' k = some g → W.heap.size ≤ g ∧ g < w'.heap.size) ∧
      (∀ k k' o o' g, lol new k = some o → lol new k' = some o' → o.live = true → o'.live = true → ρ' k = some g → ρ' k' = some g → k = k') := by
  refine (h.2 (fun _ b _ => b < W.heap.size) (fun _ => none) W vs (fun _ _ _ h => h) hgl (fun k o hk => by simp [lol] at hk) (fun k o g hk => by simp [lol] at hk) (fun k k' o o' g hk => by simp [lol] at hk) hs hv).mono ?_
  rintro e w' ⟨ρ', x, rfl, _, hx, hob, hhi, hds, hE, hz, h1, h2, h3⟩
  have no : ∀ g, ¬ own (fun _ => none) (lol []) g := fun g ⟨id, o, ho, _⟩ => by simp [lol] at ho
  refine ⟨ρ', x, rfl, ⟨h1, h2, h3, hz, fun k hk => (hE.keep k hk (no k)).1⟩, hx, hob, fun k o g hk hl hg => ?_, hds⟩
  obtain ⟨h4, h5⟩ := hhi k o g hk hl hg
  rcases h4 with h4 | h4
  · exact ⟨h4, h5⟩
  · exact absurd h4 (no g)
abbrev allB (w : World) : Sees := fun _ b _ => b < w.heap.size
theorem okb_all (w : World) {q : Qc} {g k : Nat} (h : g < w.heap.size) : okb (allB w) (fun _ => none) (lol []) q g k := ⟨h, fun ⟨id, o, ho, _⟩ => by simp [lol] at ho⟩
theorem seeT {w : World} {τ : T} {x : Value} (h : τ.rel (allB w) w x) : τ.rel (okb (allB w) (fun _ => none) (lol [])) w x := T.rel_mono (fun _ _ _ hg _ => ⟨rfl, okb_all w hg⟩) h
theorem row1_of {b : Sees} {ρ' : Pl} {O : Ow} {W' : World} {base id : Nat} {l : List Int} {x : Value} (hx : (V.buf id 0 0 l.length).rel b ρ' O W' x) (hO : O id = some (DOb.arr .own cfI (.int .i64) 0 l).toOb)
    (hob : (DOb.arr .own cfI (.int .i64) 0 l).toOb.rel b ρ' O W' (ρ' id)) (hge : ∀ g, ρ' id = some g → base ≤ g) : ∃ a n c, x = .slice a n c ∧ Row1 base W' l x (ρ' id) := by
  obtain ⟨A', c', o, rfl, hlc, ho, hv, hk⟩ := hx
  have ho1 : o = .arr .own cfI 1 0 l.length (rowsT (.int .i64) l) := (Option.some.inj (ho.symm.trans hO))
  subst ho1
  obtain ⟨zz, e, size, n', f, h1, h2, h3⟩ := hk rfl
  cases h1
  refine ⟨_, _, _, rfl, ?_⟩
  rcases hob with ⟨r1, r2⟩ | ⟨g', cs', cap, r1, r2, r3, r4, r5, r6⟩
  · rcases h3 with ⟨q1, q2, q3, q4⟩ | ⟨g, cs, q1, q2, q3, q4⟩
    · refine .inl ⟨r1, ?_, r2⟩
      rw [q2, q3, show l.length = 0 from r2]
    · rw [r1] at q1; cases q1
  · rcases h3 with ⟨q1, q2, q3, q4⟩ | ⟨g, cs, q1, q2, q3, q4⟩
    · rw [r1] at q1; cases q1
    · rw [r1] at q1; cases q1
      rw [q3] at r2; cases r2
      have r3' : cs'.size = cap * 1 := r3
      refine .inr ⟨g', cs', cap, r1, ?_, hge _ r1, q3, r4, r5.1, r3, fun i hi => ?_⟩
      · rw [q2 (.inr rfl)]
        have : c' = cap := by have := q4; omega
        rw [this, Nat.zero_mul]
      · obtain ⟨s1, s2⟩ := r6 i 0 hi Nat.zero_lt_one
        have e : i * 1 + 0 = i := by omega
        have s3 : cs'.getD (i * 1 + 0) undef = .int .i64 (l.getD i 0) := s2
        rw [e] at s3
        exact s3
theorem cf_call {fu : Nat} {a b : List Int} {z : List Int × List Int × Unit} (hz : Bq.p45 fu ((a, b, ()), ()) = some ((), z)) (W : World) (x1 x2 : Value)
    (h1 : (T.sl .any 1 a.length (rowsT (.int .i64) a)).rel (allB W) W x1) (h2 : (T.sl .any 1 b.length (rowsT (.int .i64) b)).rel (allB W) W x2) :
    Calls Try.prog 45 #[.agg #[x1, x2]] W fun e W' => ∃ xa xn xc ya yn yc, e = .returned (.agg #[.slice xa xn xc, .slice ya yn yc]) ∧ Below W.heap.size W W' ∧ Rows2 W.heap.size W' z.1 z.2.1 (.slice xa xn xc) (.slice ya yn yc) := by
  obtain ⟨l', m', ⟨⟩⟩ := z
  have hg := Bq.g45 fu ((a, b, ()), ()) () (l', m', ()) hz
  obtain ⟨A1, c1, e1, i1⟩ := h1
  obtain ⟨A2, c2, e2, i2⟩ := h2
  refine (fc_at2 hg W #[.agg #[x1, x2]] rfl (fun j u hu => ?_) glb_no).mono ?_
  · rcases j with _ | j
    · cases hu
      refine ⟨_, rfl, rfl, fun j hj => ?_⟩
      rcases j with _ | _ | j
      · exact ⟨by rw [show (#[x1, x2] : Array Value).getD 0 undef = x1 from rfl, e1]; rfl, seeT ⟨A1, c1, e1, i1⟩⟩
      · exact ⟨by rw [show (#[x1, x2] : Array Value).getD 1 undef = x2 from rfl, e2]; rfl, seeT ⟨A2, c2, e2, i2⟩⟩
      · omega
    · cases hu
  · rintro e' w' ⟨ρ', y, rfl, hb, hx, hob, hhi, hds⟩
    obtain ⟨cs, rfl, hsz, hc⟩ := hx
    have hsz : cs.size = 2 := hsz
    obtain ⟨o0, q0⟩ := hc 0 (by decide)
    obtain ⟨o1, q1⟩ := hc 1 (by decide)
    obtain ⟨a0, n0, m0, f0, R0⟩ := row1_of (base := W.heap.size) (id := 0) (l := l') q0 rfl (hob 0 _ rfl) (fun g h => (hhi 0 _ g rfl rfl h).1)
    obtain ⟨a1, n1, m1, f1, R1⟩ := row1_of (base := W.heap.size) (id := 1) (l := m') q1 rfl (hob 1 _ rfl) (fun g h => (hhi 1 _ g rfl rfl h).1)
    have hcs : cs = #[.slice a0 n0 m0, .slice a1 n1 m1] := by
      rw [← f0, ← f1]
      apply Array.ext
      · simpa using hsz
      · intro i hi1 hi2
        have : i = 0 ∨ i = 1 := by simp at hi2; omega
        rcases this with rfl | rfl <;> simp [Array.getD_eq_getD_getElem?, hi1]
    rw [f0] at R0
    rw [f1] at R1
    exact ⟨a0, n0, m0, a1, n1, m1, by rw [hcs], hb, _, _, R0, R1, fun g h h' => absurd (hds 0 1 _ _ g rfl rfl rfl rfl h h') (by decide)⟩
theorem buf_of {b : Sees} {ρ' : Pl} {O : Ow} {W' : World} {base id : Nat} {l : List Int} {x : Value} {p : Option Nat} (h : Row1 base W' l x p) (hO : O id = some (DOb.arr .own cfI (.int .i64) 0 l).toOb) (hp : ρ' id = p) :
    x.oneCell' = true ∧ (V.buf id 0 0 l.length).rel b ρ' O W' x := by
  rcases h with ⟨q1, q2, q3⟩ | ⟨g, cs, cap, q1, q2, q3, q4, q5, q6, q7, q8⟩
  · exact ⟨by rw [q2]; rfl, none, 0, _, by rw [q2, q3], by rw [q3]; exact Nat.le_refl _, hO, Nat.le_refl _, fun _ => ⟨_, _, _, _, _, rfl, by rw [q3]; exact Nat.zero_le _, .inl ⟨hp.trans q1, rfl, rfl, rfl⟩⟩⟩
  · exact ⟨by rw [q2]; rfl, _, cap, _, q2, q5, hO, Nat.le_refl _, fun _ => ⟨_, _, _, _, _, rfl, by rw [Nat.zero_add]; exact Nat.le_refl _, .inr ⟨g, cs, hp.trans q1, fun _ => by rw [Nat.zero_mul], q4, by rw [Nat.zero_add]; exact q7.symm⟩⟩⟩
theorem obj_of {b : Sees} {ρ' : Pl} {O : Ow} {W' : World} {base : Nat} {l : List Int} {x : Value} {p : Option Nat} (h : Row1 base W' l x p) : (DOb.arr .own cfI (.int .i64) 0 l).toOb.rel b ρ' O W' p := by
  rcases h with ⟨q1, q2, q3⟩ | ⟨g, cs, cap, q1, q2, q3, q4, q5, q6, q7, q8⟩
  · exact .inl ⟨q1, q3⟩
  · refine .inr ⟨g, cs, cap, q1, q4, q7, q5, ⟨q6, fun h => by cases h⟩, fun i j hi hj => ?_⟩
    obtain rfl : j = 0 := Nat.lt_one_iff.1 hj
    have hi : i < l.length := hi
    show (cs.getD (i * 1 + 0) undef).oneCell' = true ∧ cs.getD (i * 1 + 0) undef = .int .i64 (l.getD i 0)
    have e : i * 1 + 0 = i := by omega
    rw [e, q8 i hi]
    exact ⟨rfl, rfl⟩
theorem row_lt {W' : World} {base : Nat} {l : List Int} {x : Value} {p : Option Nat} (h : Row1 base W' l x p) {g : Nat} (hg : p = some g) : base ≤ g ∧ g < W'.heap.size := by
  rcases h with ⟨q1, q2, q3⟩ | ⟨g', cs, cap, q1, q2, q3, q4, q5⟩
  · rw [q1] at hg; cases hg
  · rw [q1] at hg; cases hg
    exact ⟨q3, (Array.getElem?_eq_some_iff.1 q4).1⟩
theorem rc_enters : Enters Try.prog 23 := ⟨_, Try.func23, by kernel_rfl, by kernel_rfl⟩
theorem rc_args {vs : Array Value} (h : vs.size = 1) : vs = #[vs.getD 0 undef] := by
  apply Array.ext
  · simpa using h
  · intro i hi1 hi2
    have hi : i = 0 := by simp at hi2; omega
    subst hi
    simp [Array.getD_eq_getD_getElem?, hi1]
theorem arr6 {cs : Array Value} (h : cs.size = 6) : cs = #[cs.getD 0 undef, cs.getD 1 undef, cs.getD 2 undef, cs.getD 3 undef, cs.getD 4 undef, cs.getD 5 undef] := by
  apply Array.ext
  · simpa using h
  · intro i hi1 hi2
    have hi : i < 6 := by omega
    rcases i with _ | _ | _ | _ | _ | _ | i
    all_goals first | omega | simp [Array.getD_eq_getD_getElem?, hi1]
def csOf (A : Option Addr) (w : World) (i k : Nat) : Value := ((A.bind fun ad => w.cell? ⟨ad.block, ad.off + i * 6 + k, none⟩)).getD undef
theorem cs_at {ok : Sees} {w : World} {es : List En} {A : Option Addr}
    (hf : ∀ i j, i < es.length → j < 6 → ∃ ad u, A = some ad ∧ Okw ok w .any ad.block (ad.off + (i * 6 + j)) ∧ w.cell? (ad.add (i * 6 + j)) = some u ∧ u.oneCell' = true ∧ (rowsT cfT es i j).rel ok w u) (i k : Nat) (hi : i < es.length) (hk : k < 6) :
    ∃ b off, A = some ⟨b, off, none⟩ ∧ b < w.heap.size ∧ w.cell? ⟨b, off + i * 6 + k, none⟩ = some (csOf A w i k) ∧ (rowsT cfT es i k).rel ok w (csOf A w i k) := by
  obtain ⟨ad, u, hA, -, hc, -, hr⟩ := hf i k hi hk
  have e := cell_addr hc
  rw [block_add, off_add] at e
  have ea : ad = ⟨ad.block, ad.off, none⟩ := by
    obtain ⟨ad', u', hA', -, hc', -, -⟩ := hf 0 0 (by omega) (by decide)
    rw [hA] at hA'
    cases hA'
    have e0 := cell_addr hc'
    rw [block_add, off_add] at e0
    exact e0
  have hc2 : w.cell? ⟨ad.block, ad.off + i * 6 + k, none⟩ = some u := by rw [e] at hc; rw [Nat.add_assoc]; exact hc
  have hu : csOf A w i k = u := by unfold csOf; rw [hA]; simp [hc2]
  rw [hu]
  exact ⟨_, _, by rw [hA]; exact congrArg some ea, World.block_lt_of_cell? w _ hc2, hc2, hr⟩
theorem see_below {w W : World} (h : Below w.heap.size w W) {τ : T} {x : Value} (hx : τ.rel (allB w) w x) : τ.rel (allB W) W x :=
  T.rel_mono (fun _ g _ hg _ => ⟨look_of_block (h.block g hg), Nat.lt_of_lt_of_le hg h.size⟩) hx
set_option maxRecDepth 100000 in
theorem gRCf (fu : Nat) : (eRCf fu).Good Try.prog := by
  rintro ⟨⟨(bi : Int), (bt : Int), (v : List Int), (l : List Int), (d : List Int), (es : List En), ⟨⟩⟩, ⟨⟩⟩ y z hp
  have hp : pRCf fu ((bi, bt, v, l, d, es, ()), ()) = some (y, z) := hp
  unfold pRCf at hp
  dsimp only at hp
  cases hc : (decide (es.length ≤ 1048576) && es.all fun e => copyOK fu (e.2.2.2.2.1, e.2.2.2.2.2)) with
  | false => rw [hc] at hp; cases hp
  | true =>
  rw [hc, cond_true] at hp
  cases hq : Bq.p45 fu (((cfOf v l es (lastC es)).1, (cfOf v l es (lastC es)).2, ()), ()) with
  | none => rw [hq] at hp; cases hp
  | some q =>
  obtain ⟨⟨⟩, (a' : List Int), (b' : List Int), ⟨⟩⟩ := q
  rw [hq] at hp
  obtain ⟨rfl, rfl⟩ := Prod.mk.inj (Option.some.inj hp)
  clear hp
  rw [Bool.and_eq_true, decide_eq_true_eq] at hc
  obtain ⟨hlen, hall⟩ := hc
  refine ⟨rc_enters, fun ok ρ w vs hmo hgl h1 h2 h3 h4 h5 => ?_⟩
  obtain ⟨cs, e0, hsz, hcl⟩ := h5 0 _ rfl
  have hsz : cs.size = 6 := hsz
  have see : ∀ {τ : T} {x : Value}, τ.rel (okb ok ρ (lol [])) w x → τ.rel (allB w) w x := fun h => T.rel_mono (fun _ g k hg _ => ⟨rfl, hg⟩) h
  have t2 : (T.sl .any 1 v.length (rowsT (.int .i64) v)).rel (allB w) w (cs.getD 2 undef) := see (hcl 2 (by decide)).2
  have t3 : (T.sl .any 1 l.length (rowsT (.int .i64) l)).rel (allB w) w (cs.getD 3 undef) := see (hcl 3 (by decide)).2
  have t5 : (T.sl .any 6 es.length (rowsT cfT es)).rel (allB w) w (cs.getD 5 undef) := see (hcl 5 (by decide)).2
  obtain ⟨A, c, e5, hn, hf⟩ := t5
  have key := cs_at hf
  rw [rc_args h4, e0, arr6 hsz, e5]
  generalize cs.getD 0 undef = c0 at *
  generalize cs.getD 1 undef = c1 at *
  generalize cs.getD 2 undef = c2 at *
  generalize cs.getD 3 undef = c3 at *
  generalize cs.getD 4 undef = c4 at *
  have hI : BwS w.heap.size w (.slice A es.length c) es.length (csOf A w) := by
    rcases Nat.eq_zero_or_pos es.length with h | h
    · exact .inl ⟨⟨A, c, by rw [h]⟩, h⟩
    · obtain ⟨b, off, hA, hb, -, -⟩ := key 0 0 h (by decide)
      refine .inr ⟨b, off, c, by rw [hA], hb, fun j hj k hk => ?_⟩
      obtain ⟨b', off', hA', -, hc', -⟩ := key j k hj hk
      rw [hA] at hA'
      cases hA'
      exact hc'
  have hg : ∀ {j : Nat} (hj : j < es.length), es.getD j dfE = es[j] := fun hj => getD_lt' hj
  refine (cf_walk (fun j W => Below w.heap.size w W ∧ (j = none → ∀ k, k < es.length → (es.getD k dfE).2.2.1 ≠ 3)) (fun j W x y W' => ∃ z, Bq.p45 fu (((cfOf v l es j).1, (cfOf v l es j).2, ()), ()) = some ((), z) ∧ Rows2 W.heap.size W' z.1 z.2.1 x y)
    c0 c1 c2 c3 c4 (.slice A es.length c) es.length (csOf A w) (fun j => (es.getD j dfE).2.2.1) (fun j => (es.getD j dfE).1) (by omega) w hI ?hk ?hx ?hsh ?hC0 ?hCj ?hok ?hokj).mono ?_
  case hk => intro j hj; obtain ⟨_, _, _, _, _, r⟩ := key j 2 hj (by decide); exact r
  case hx => intro j hj; obtain ⟨_, _, _, _, _, r⟩ := key j 0 hj (by decide); exact r
  case hsh =>
    intro j hj
    obtain ⟨_, _, _, _, _, r1⟩ := key j 1 hj (by decide)
    obtain ⟨_, _, _, _, _, r3⟩ := key j 3 hj (by decide)
    obtain ⟨_, _, _, _, _, r4⟩ := key j 4 hj (by decide)
    obtain ⟨_, _, _, _, _, r5⟩ := key j 5 hj (by decide)
    obtain ⟨A3, n3, r3, -⟩ := r3
    obtain ⟨A4, n4, r4, -⟩ := r4
    obtain ⟨A5, n5, r5, -⟩ := r5
    exact ⟨_, _, _, _, _, _, _, _, _, _, r1, r3, r4, r5⟩
  case hC0 =>
    intro W hW
    have hl : lastC es = none := lastC_none (hW.2 rfl)
    rw [hl] at hq
    refine (cf_call hq W c2 c3 (see_below hW.1 t2) (see_below hW.1 t3)).mono ?_
    rintro e' w' ⟨xa, xn, xc, ya, yn, yc, rfl, hb, hR⟩
    exact ⟨_, _, _, _, _, _, rfl, hb, _, hq, hR⟩
  case hCj =>
    intro j W hj hW
    obtain ⟨_, _, _, _, _, r4⟩ := key j 4 hj (by decide)
    obtain ⟨_, _, _, _, _, r5⟩ := key j 5 hj (by decide)
    have hcp := List.all_eq_true.1 hall _ (List.getElem_mem hj)
    obtain ⟨⟨⟨⟩, zz⟩, hz⟩ := Option.isSome_iff_exists.1 hcp
    have hz : Bq.p45 fu (((cfOf v l es (some j)).1, (cfOf v l es (some j)).2, ()), ()) = some ((), zz) := by
      show Bq.p45 fu (((es.getD j dfE).2.2.2.2.1, (es.getD j dfE).2.2.2.2.2, ()), ()) = _
      rw [hg hj]
      exact hz
    refine (cf_call hz W _ _ (see_below hW.1 ?_) (see_below hW.1 ?_)).mono ?_
    · exact r4
    · exact r5
    rintro e' w' ⟨xa, xn, xc, ya, yn, yc, rfl, hb, hR⟩
    exact ⟨_, _, _, _, _, _, rfl, hb, _, hz, hR⟩
  case hok => exact fun h W hW => ⟨hW, fun _ => h⟩
  case hokj => exact fun j hj _ W hW => ⟨hW, fun h => by cases h⟩
  rintro e' w' ⟨W1, W2, x, y, i, jo, rfl, hb1, ⟨z', hz', hR⟩, hb2, hcf, hbl, hcase⟩
  obtain ⟨hjo, hi⟩ : lastC es = jo ∧ i = ixOf es jo := by
    rcases hcase with ⟨j, hj, h3', rfl, rfl, hlast⟩ | ⟨rfl, rfl, hnone⟩
    · exact ⟨lastC_some hj h3' hlast, rfl⟩
    · exact ⟨lastC_none hnone, rfl⟩
  subst hjo hi
  rw [hq] at hz'
  cases hz'
  obtain ⟨p, q, R1, R2, hpq⟩ := hR.cells (Nat.le_refl _) hcf
  have R1 := R1.base hb1.size
  have R2 := R2.base hb1.size
  clear hcase hcf hb2 hq
  let o1 : Ob := (DOb.arr .own cfI (.int .i64) 0 a').toOb
  let o2 : Ob := (DOb.arr .own cfI (.int .i64) 0 b').toOb
  let ρ' : Pl := fun k => if k = 0 then p else if k = 1 then q else ρ k
  have hin : ∀ {k : Nat} {o : Ob}, lol [o1, o2] k = some o → (k = 0 ∧ o = o1) ∨ (k = 1 ∧ o = o2) := fun {k o} h => by
    rcases k with _ | _ | k
    · exact .inl ⟨rfl, (Option.some.inj h).symm⟩
    · exact .inr ⟨rfl, (Option.some.inj h).symm⟩
    · simp [lol] at h
  have hown : ∀ {g : Nat}, own ρ' (lol [o1, o2]) g → w.heap.size ≤ g ∧ g < w'.heap.size := fun {g} ⟨id, o, a1, a2, a3⟩ => by
    rcases hin a1 with ⟨rfl, rfl⟩ | ⟨rfl, rfl⟩
    · exact row_lt R1 a3
    · exact row_lt R2 a3
  show ∃ ρ' x', Ending.returned (Value.tuple #[Value.agg #[x, y], Value.int IntKind.u64 (ixOf es (lastC es))]) = .returned x' ∧ ([] : List Ob).length = ([] : List Ob).length ∧
    (((eRCf fu).val ((bi, bt, v, l, d, es, ()), ()) () ((a', b', ()), ixOf es (lastC es), ())).toV).rel (Env.b ⟨w, ρ, lol [], ok, nobody⟩) ρ' (lol [o1, o2]) w' x' ∧
    (∀ k o, lol [o1, o2] k = some o → o.rel (Env.b ⟨w, ρ, lol [], ok, nobody⟩) ρ' (lol [o1, o2]) w' (ρ' k)) ∧
    (∀ k o g, lol [o1, o2] k = some o → o.live = true → ρ' k = some g → (w.heap.size ≤ g ∨ own ρ (lol []) g) ∧ g < w'.heap.size) ∧
    (∀ k k' o o' g, lol [o1, o2] k = some o → lol [o1, o2] k' = some o' → o.live = true → o'.live = true → ρ' k = some g → ρ' k' = some g → k = k') ∧
    Ext ρ (lol []) w ρ' (lol [o1, o2]) w' ∧ w.heap.size ≤ w'.heap.size ∧ w'.os = w.os ∧ w'.tape = w.tape ∧ w'.output = w.output
  refine ⟨ρ', _, rfl, rfl, ?_, fun k o hk => ?_, fun k o g hk hl' hg => ?_, fun k k' o o' g hk hk' _ _ hg hg' => ?_, ⟨fun g hg _ => ⟨hbl.block g hg, fun q => by have := (hown q).1; omega⟩, fun g k hg _ => ⟨look_of_block (hbl.block g hg), fun q => by have := (hown (own_of_ownc q)).1; omega⟩, fun id o hid => by simp [lol] at hid⟩, hbl.size, hbl.os, hbl.tape, hbl.output⟩
  · refine ⟨_, rfl, rfl, fun j hj => ?_⟩
    rcases j with _ | _ | j
    · refine ⟨_, rfl, rfl, fun j hj => ?_⟩
      rcases j with _ | _ | j
      · exact buf_of R1 rfl rfl
      · exact buf_of R2 rfl rfl
      · omega
    · exact (rfl : Value.int .u64 (ixOf es (lastC es)) = _)
    · omega
  · rcases hin hk with ⟨rfl, rfl⟩ | ⟨rfl, rfl⟩
    · exact obj_of R1
    · exact obj_of R2
  · rcases hin hk with ⟨rfl, rfl⟩ | ⟨rfl, rfl⟩
    · exact ⟨.inl (row_lt R1 hg).1, (row_lt R1 hg).2⟩
    · exact ⟨.inl (row_lt R2 hg).1, (row_lt R2 hg).2⟩
  · rcases hin hk with ⟨rfl, rfl⟩ | ⟨rfl, rfl⟩ <;> rcases hin hk' with ⟨rfl, rfl⟩ | ⟨rfl, rfl⟩
    · rfl
    · exact absurd hg' (hpq g hg)
    · exact absurd hg (hpq g hg')
    · rfl
end Go.Proofs.Ytdblllnnccaccaa
