/-
  Arguments of small bulk: what came in, as trees, each slice of at most 2^20 elements. General but for the statements' own measure.
-/
import Derived.Test.YtlmnhbobgfpanaaTrY
import Derived.Test.YtlmnhbobgfpanaaRows
import Derived.JoinedCond
namespace Go.Proofs.Ytlmnhbobgfpanaa
open Go.RowKit Go.ChangeShapes Go.WideShapes Go.ChangeAt

def Ty.up : Ty → Ty
  | .sl _ e => .sl 134217727 e.up
  | .str => .txt
  | .pair a b => .pair a.up b.up
  | .st f => .st f.up
  | t => t
theorem Ty.up_size : ∀ t : Ty, t.up.size = t.size
  | .bool | .str | .txt | .int _ | .unit | .sl _ _ => rfl
  | .pair a b => by simp only [Ty.up, Ty.size, Ty.up_size a, Ty.up_size b]
  | .st f => by simp only [Ty.up, Ty.size, Ty.up_size f]
section
variable {H : Type} {enc : TypeId × Value → H} {P : Program} {W : World} {base : Nat} {sp : Nat → Bool} {held : Bool}
theorem bulk_pos (d : DataW H) : 1 ≤ Rows.uptoBulk d := by
  cases d with
  | lit l => cases l <;> simp [Rows.uptoBulk]
  | _ => simp [Rows.uptoBulk]
theorem bulkAll_len : ∀ l : List (DataW H), l.length ≤ Rows.uptoBulkAll l
  | [] => Nat.zero_le _
  | d :: l => by
    have h1 := bulk_pos d
    have h2 := bulkAll_len l
    simp only [Rows.uptoBulkAll, List.length_cons]; omega
theorem bulkAll_mem : ∀ {l : List (DataW H)} {d : DataW H}, d ∈ l → Rows.uptoBulk d ≤ Rows.uptoBulkAll l
  | x :: l, d, h => by
    simp only [Rows.uptoBulkAll]
    rcases List.mem_cons.1 h with rfl | h
    · omega
    · have := bulkAll_mem h; omega
def bulkTop : Nat := 1048576
theorem trod_hasU : ∀ {ty : Ty},
    (∀ {t : TypeId} {fuel : Nat} {cs : List Value} {x : DataW H × List MemPlace}, ty.chk P (.inl t) = true → Rows.uptoBulk x.1 ≤ bulkTop → DataW.trod enc P W base sp held fuel t cs = some x →
      ∃ ts, ty.up.has ts ∧ Cells (fun _ b _ => b < W.heap.size) W ts cs) ∧
    (∀ {l : List Field} {off m : Nat} {cs : List Value} {r : List (DataW H × List MemPlace)}, ty.chk P (.inr (l, off)) = true → cs.length = off + ty.size → FieldsAt enc P W base sp held m cs l r →
      (∀ d ∈ r.map (·.1), Rows.uptoBulk d ≤ bulkTop) → ∃ ts, ty.up.has ts ∧ Cells (fun _ b _ => b < W.heap.size) W ts (cs.drop off)) := by
  intro ty
  induction ty with
  | bool =>
    refine ⟨fun {t fuel cs x} hc _ h => ?_, fun {l off m cs r} hc => absurd (show false = true from hc) Bool.false_ne_true⟩
    have hu : P.underlying t = some .bool := by
      simp only [Ty.chk] at hc
      split at hc
      · assumption
      · cases hc
    obtain ⟨b, rfl, _⟩ := DataW.trod_bool hu h
    exact ⟨_, ⟨b, rfl⟩, .one rfl rfl⟩
  | str =>
    refine ⟨fun {t fuel cs x} hc hs h => ?_, fun {l off m cs r} hc => absurd (show false = true from hc) Bool.false_ne_true⟩
    have hu : P.underlying t = some .string := by
      simp only [Ty.chk] at hc
      split at hc
      · assumption
      · cases hc
    obtain ⟨s, rfl, rfl, hm⟩ := DataW.trod_string hu h
    refine ⟨_, ⟨s, rfl, ?_⟩, .one rfl rfl⟩
    have : s.data.toList.length + 1 ≤ bulkTop := by simpa [Rows.uptoBulk] using hs
    have e : s.data.toList.length = s.size := rfl
    unfold bulkTop at this
    omega
  | txt => exact ⟨fun hc => absurd (show false = true from hc) Bool.false_ne_true, fun hc => absurd (show false = true from hc) Bool.false_ne_true⟩
  | int k =>
    refine ⟨fun {t fuel cs x} hc _ h => ?_, fun {l off m cs r} hc => absurd (show false = true from hc) Bool.false_ne_true⟩
    have hu : P.underlying t = some (.int k) := by
      simp only [Ty.chk] at hc
      split at hc
      · rename_i k' e
        have := of_decide_eq_true hc
        subst this
        exact e
      · cases hc
    obtain ⟨z, rfl, _, hw⟩ := DataW.trod_int hu h
    exact ⟨_, ⟨z, rfl, by simpa [Lit.wf] using hw⟩, .one rfl rfl⟩
  | sl b e ih =>
    refine ⟨fun {t fuel cs x} hc hs h => ?_, fun {l off m cs r} hc => absurd (show false = true from hc) Bool.false_ne_true⟩
    simp only [Ty.chk] at hc
    split at hc
    · rename_i u hu
      simp only [Bool.and_eq_true, beq_iff_eq] at hc
      obtain ⟨h1, h2, h3⟩ := hc
      obtain ⟨z, hz⟩ := Ty.has_some e.up
      have hsz := Ty.up_size e
      rcases DataW.trod_slice hu h with ⟨rfl, _⟩ | ⟨a, len, cap, elems, rest, n, _, rfl, rfl, _, hl, hm, hlen, hel, _, _⟩
      · exact ⟨_, ⟨0, fun _ => z, rfl, by simp, by omega, fun _ => hz⟩, .one rfl ⟨none, 0, rfl, Nat.le_refl _, fun i j hi => absurd hi (Nat.not_lt_zero _)⟩⟩
      · have hb : Rows.uptoBulkAll (elems.map (·.1)) + Rows.uptoBulkAll (rest.map (·.1)) + 1 ≤ bulkTop := by simpa only [Rows.uptoBulk] using hs
        have hw : ∀ (i : Nat) (y : DataW H × List MemPlace), elems[i]? = some y → Rows.uptoBulk y.1 ≤ bulkTop := fun i y hy => by
          have := bulkAll_mem (List.mem_map.2 ⟨y, List.mem_of_getElem? hy, rfl⟩ : y.1 ∈ elems.map (·.1))
          omega
        have each : ∀ i, ∃ ts, e.up.has ts ∧ (i < len → ∀ j, j < e.size → ∃ v, W.cell? (a.add (i * e.size + j)) = some v ∧ v.oneCell' = true ∧ (ts.getD j (.val undef)).rel (fun _ b _ => b < W.heap.size) W v) := by
          intro i
          by_cases hi : i < len
          · have hy := hel i hi
            rw [List.getElem?_eq_getElem (by omega), Option.bind_eq_some_iff] at hy
            obtain ⟨cs', hcs, ht⟩ := hy
            obtain ⟨ts, t1, t2⟩ := ih.1 h3 (hw i _ (List.getElem?_eq_getElem (by omega))) ht
            refine ⟨ts, t1, fun _ j hj => ?_⟩
            obtain ⟨_, c1, c2⟩ := World.cells?_some hcs
            have hj' := c2 j (by omega)
            rw [Addr.add_add, List.getElem?_eq_getElem (by omega), h2] at hj'
            obtain ⟨g1, g2⟩ := t2.2 j (by rw [Ty.has_len t1, hsz]; exact hj)
            refine ⟨_, hj', ?_⟩
            have e1 : cs'.getD j undef = cs'[j]'(by omega) := by simp [List.getD_eq_getElem?_getD, List.getElem?_eq_getElem (show j < cs'.length by omega)]
            rw [e1] at g1 g2
            exact ⟨g1, g2⟩
          · exact ⟨z, hz, fun h => absurd h hi⟩
        let f : Nat → List T := fun i => Classical.choose (each i)
        have hf : ∀ i, e.up.has (f i) ∧ _ := fun i => Classical.choose_spec (each i)
        refine ⟨[slT e.size len f], ⟨len, f, by rw [hsz], ?_, ?_, fun i => (hf i).1⟩, .one rfl ⟨some a, cap, rfl, hl, fun i j hi hj => ?_⟩⟩
        · have := bulkAll_len (elems.map (·.1))
          rw [List.length_map] at this
          unfold bulkTop at hb
          unfold memTop
          omega
        · unfold maxLen at hm; omega
        · obtain ⟨v, v1, v2, v3⟩ := (hf i).2 hi j hj
          refine ⟨a, v, rfl, ⟨by have := World.block_lt_of_cell? W _ v1; rwa [show (a.add (i * e.size + j)).block = a.block by unfold Addr.add; split <;> rfl] at this, nofun⟩, v1, v2, ?_⟩
          by_cases hz : e.size = 1
          · obtain rfl : j = 0 := by omega
            simp only [hz, if_true]; exact v3
          · simp only [hz, if_false]; exact v3
    · simp at hc
  | unit =>
    refine ⟨fun {t fuel cs x} hc => absurd (show false = true from hc) Bool.false_ne_true, fun {l off m cs r} hc hcs _ _ => ?_⟩
    refine ⟨[], rfl, ?_, fun j hj => absurd hj (Nat.not_lt_zero _)⟩
    simp [Ty.size] at hcs
    simp [hcs]
  | pair a b iha ihb =>
    refine ⟨fun {t fuel cs x} hc => absurd (show false = true from hc) Bool.false_ne_true, fun {l off m cs r} hc hcs hf hw => ?_⟩
    match l, r, hf with
    | y :: l, x :: r, ⟨h1, h2⟩ =>
      simp only [Ty.chk, Bool.and_eq_true, beq_iff_eq] at hc
      obtain ⟨rfl, c1, c2, c3⟩ := hc
      simp only [Ty.size] at hcs
      obtain ⟨ts, t1, t2⟩ := iha.1 c2 (hw x.1 (by simp)) h1
      obtain ⟨us, u1, u2⟩ := ihb.2 c3 (by omega) h2 (fun d hd => hw d (by simp only [List.map_cons]; exact List.mem_cons_of_mem _ hd))
      refine ⟨ts ++ us, ⟨ts, us, rfl, t1, u1⟩, ?_⟩
      have := t2.append u2
      rw [c1, ← List.drop_drop, List.take_append_drop] at this
      exact this
    | [], [], _ => simp [Ty.chk] at hc
  | st f ih =>
    refine ⟨fun {t fuel cs x} hc hs h => ?_, fun {l off m cs r} hc => absurd (show false = true from hc) Bool.false_ne_true⟩
    simp only [Ty.chk] at hc
    split at hc
    · rename_i fs hu
      simp only [Bool.and_eq_true, beq_iff_eq] at hc
      obtain ⟨xs, n, _, rfl, hl, hlen, hf⟩ := DataW.trod_struct hu h
      have hb : Rows.uptoBulkAll (xs.map (·.1)) + 1 ≤ bulkTop := by simpa only [Rows.uptoBulk] using hs
      have := ih.2 hc.2 (by rw [hl, hc.1, Nat.zero_add]) (fieldsAt_of (by simpa using hlen) fun i g hg => hf i g (by simpa using hg)) (fun d hd => by have := bulkAll_mem hd; omega)
      simpa [Ty.has, Ty.up] using this
    · simp at hc
end
def Ty.slim : Ty → Bool
  | .sl b e => Nat.ble b 134217727 && e.slim
  | .pair a b => a.slim && b.slim
  | .st f => f.slim
  | _ => true
theorem has_of_up : ∀ {ty : Ty} {ts : List T}, ty.slim = true → ty.up.has ts → ty.has ts
  | .bool, _, _, h => h
  | .str, _, _, ⟨s, e, h⟩ => ⟨s, e, Nat.le_trans h (by decide)⟩
  | .txt, _, _, h => h
  | .int _, _, _, h => h
  | .unit, _, _, h => h
  | .sl b e, ts, hs, ⟨n, f, h0, h1, h2, h3⟩ => by
    simp only [Ty.slim, Bool.and_eq_true] at hs
    have hb : b ≤ 134217727 := Nat.le_of_ble_eq_true hs.1
    exact ⟨n, f, by rw [h0, Ty.up_size], Nat.le_trans (Nat.mul_le_mul_left n hb) h1, h2, fun i => has_of_up hs.2 (h3 i)⟩
  | .pair a b, ts, hs, ⟨x, y, h0, h1, h2⟩ => by
    simp only [Ty.slim, Bool.and_eq_true] at hs
    exact ⟨x, y, h0, has_of_up hs.1 h1, has_of_up hs.2 h2⟩
  | .st f, ts, hs, h => has_of_up (ty := f) hs h
theorem up_arg (ty : Ty) (ts : List T) : ty.up.arg ts = ty.arg ts := by
  cases ty with
  | st f => simp only [Ty.up, Ty.arg, Ty.up_size]
  | _ => rfl
section
variable {H : Type} {enc : TypeId × Value → H} {P : Program} {W : World} {b0 : Nat}
theorem alls_ofU {f : FuncId} {r : Ret} : ∀ {tys : List Ty} {pre : List V} {ts : List TypeId} {vs : List Value} {ds : List (DataW H)} {ps : List MemPlace},
    Ty.alls (tys.map Ty.up) (fun xs => FC P f [] (pre ++ xs) r) → tys.length = ts.length → tys.all Ty.slim = true → (∀ (j : Nat) (ty : Ty) (t : TypeId), tys[j]? = some ty → ts[j]? = some t → ty.chk P (.inl t) = true) →
    (∀ (j : Nat) t v, ts[j]? = some t → vs[j]? = some v → Value.okWide P W .any b0 t v) → (∀ d ∈ ds, Rows.uptoBulk d ≤ bulkTop) →
    DataW.TrodAll enc P W 0 (fun _ => true) true ts vs ds ps →
    ∃ xs : List V, FC P f [] (pre ++ xs) r ∧ xs.length = vs.length ∧ ∀ (j : Nat) (a : V) (v : Value), xs[j]? = some a → vs[j]? = some v → a.rel (fun _ b _ => b < W.heap.size) (fun _ => none) (lol []) W v
  | [], pre, [], vs, ds, ps, h, _, _, _, _, _, hA => by
    obtain ⟨rfl, rfl, rfl⟩ := trodAll_nil hA
    exact ⟨[], h, rfl, fun j a v ha => by simp at ha⟩
  | [], _, _ :: _, _, _, _, _, hl, _, _, _, _, _ => by simp at hl
  | _ :: _, _, [], _, _, _, _, hl, _, _, _, _, _ => by simp at hl
  | ty :: tys, pre, t :: ts, vs, ds, ps, h, hl, hsl, hc, hv, hw, hA => by
    obtain ⟨v, vs1, d, ds1, p, q, rfl, rfl, rfl, h1, h2⟩ := trodAll_cons hA
    obtain ⟨fuel, hf⟩ := h1
    have hc0 := hc 0 ty t rfl rfl
    simp only [List.all_cons, Bool.and_eq_true] at hsl
    obtain ⟨us, u1, u2⟩ := trod_hasU.1 hc0 (hw d (by simp)) hf
    have h' := Ty.all_of (ty := ty.up) (K := fun us => Ty.alls (tys.map Ty.up) fun xs => FC P f [] (pre ++ ty.up.arg us :: xs) r) h u1
    rw [up_arg] at h'
    obtain ⟨xs, a1, a2, a3⟩ := alls_ofU (pre := pre ++ [ty.arg us]) (ts := ts) (vs := vs1) (ds := ds1) (by simpa using h') (by simpa using hl) hsl.2 (fun j ty' t' e1 e2 => hc (j + 1) ty' t' (by simpa using e1) (by simpa using e2))
      (fun j t' v' e1 e2 => hv (j + 1) t' v' (by simpa using e1) (by simpa using e2)) (fun d hd => hw d (List.mem_cons_of_mem _ hd)) h2
    refine ⟨ty.arg us :: xs, by simpa using a1, by simp [a2], fun j a v' ha hv' => ?_⟩
    cases j with
    | zero =>
      simp at ha hv'
      subst ha hv'
      exact arg_rel (fun _ => rfl) hc0 (hv 0 t v rfl rfl) (has_of_up hsl.1 u1) u2
    | succ j => exact a3 j a v' (by simpa using ha) (by simpa using hv')
theorem witnessU {C : Checked} {os : Os} {f : FuncId} {fn : Func} {s : OpenSpec} {k : (H : Type) → List (DataW H) → Bool} (hk : s.cond = some k) {conds : List PathCond} {apart : Bool} (modest : Bool) (i : Input) (fuel : Nat)
    (hv : (World.plainHolding C.prog os i).variablesB C.prog = true)
    (hr : ((World.plainHolding C.prog os i).heap.toList.drop C.prog.globals.size).take ((begin C.prog (fun _ _ => 0) default).world.heap.size - C.prog.globals.size) =
      (begin C.prog (fun _ _ => 0) default).world.heap.toList.drop C.prog.globals.size)
    (hok : Input.okWideB C.prog (World.plainHolding C.prog os i) f ⟨#[], i.args, []⟩ = true)
    (hb : (match DataW.whole enc C.prog (World.plainHolding C.prog os i).memory fn.params.toList s.vars apart i.args.toList fuel with
      | some x => conds.all (PathCond.test C.prog ⟨fn.params.toList, x.1, s.bare.plain.varTypes C.prog, x.2.1⟩) && k H (x.1 ++ x.2.1)
      | none => false) = true)
    (hsz : s.bare.sizedB enc C.prog fn apart (World.plainHolding C.prog os i).memory i.args fuel = true) :
    ∃ (w : World) (tape : Tape) (i : Input), w.os = os ∧ (w.forCall tape i).Shaped C.prog ∧ i.vars = [] ∧ Input.okWide C.prog (w.forCall tape i) .any w.heap.size f i ∧
      s.pre6 enc C.prog fn conds apart (w.forCall tape i).memory i.args ∧ ({ modest := modest } : Assume).holds C.prog (lone (Frame.enter C.prog f i.args .normal) [] (w.forCall tape i)) := by
  cases hx : DataW.whole enc C.prog (World.plainHolding C.prog os i).memory fn.params.toList s.vars apart i.args.toList fuel with
  | none => rw [hx] at hb; cases hb
  | some x =>
    rw [hx] at hb
    simp only [Bool.and_eq_true] at hb
    exact OpenSpec.witness hk modest i fuel hv hr hok hx hb.1 hb.2 hsz
theorem law_liftedU {C : Checked} (hown : ownKnob C.prog.godebug = none) (hlo : laidOutB C.prog = true) {os : Os} (started : os.Started) {f : FuncId} {fn : Func} {s : ChangeSpec} {conds : List PathCond} {apart fresh handsOn again : Bool} {tb : TypeId}
    (noInit : C.prog.inits.idxOf? f = none) (hfn : C.prog.funcs[f]? = some fn)
    (witness : ∃ (w : World) (tape : Tape) (i : Input), w.os = os ∧ (w.forCall tape i).Shaped C.prog ∧ i.vars = [] ∧ Input.okWide C.prog (w.forCall tape i) .any w.heap.size f i ∧
      (Rows.OpenSpec.upto s).pre6 enc C.prog fn conds apart (w.forCall tape i).memory i.args ∧ ({} : Assume).holds C.prog (lone (Frame.enter C.prog f i.args .normal) [] (w.forCall tape i)))
    (hvars : s.vars = []) (hr : fn.resultTypes = #[tb]) (htb : C.prog.underlying tb = some .bool)
    (hp : ∀ t ∈ fn.params.toList, C.prog.readableRec t = true ∧ t < C.prog.types.size)
    (hfnl : ∀ l : List (DataW H), l.length = fn.params.toList.length → s.fn H l = { results := [.lit (.bool true)], args := l })
    (tys : List Ty) (hlen : tys.length = fn.params.size) (hsl : tys.all Ty.slim = true) (hc : (tys.zip fn.params.toList).all (fun p => p.1.chk C.prog (.inl p.2)) = true)
    (h : Ty.alls (tys.map Ty.up) fun xs => FC C.prog f [] xs ⟨[], [], .im (.val (.bool true))⟩) (F : Stop.Interp) (hgt : gtab = [] ∧ gptr = [] := by exact ⟨rfl, rfl⟩) :
    ReturnsInHanded {} C os f .any ((Rows.OpenSpec.upto s).pre6 enc C.prog fn conds apart) (((Rows.OpenSpec.upto s).at F).post enc C.prog fn apart fresh handsOn again) := by
  refine returnsInHanded_of_cond (s := Rows.OpenSpec.upto s) (k := Rows.uptoSmall) rfl hown started noInit hfn witness ?_
  intro W base args ds gs before hval hW _ hk _
  have hW0 : DataW.Whole enc C.prog fn.params.toList s.vars apart W args.toList ds gs before := hW
  have hW' := hW0
  obtain ⟨p, q, hA, hV, rfl, _, _⟩ := hW0
  have hg : gs = [] := by rw [hvars] at hV; exact (trodVars_none hV).1
  subst hg
  have hw : ∀ d ∈ ds, Rows.uptoBulk d ≤ bulkTop := fun d hd => by
    have h1 : Rows.uptoBulkAll (ds ++ []) ≤ 1048576 := of_decide_eq_true hk
    rw [List.append_nil] at h1
    exact Nat.le_trans (bulkAll_mem hd) h1
  obtain ⟨xs, a1, a2, a3⟩ := alls_ofU (b0 := base) (pre := []) (by simpa using h) (by simpa using hlen) hsl (fun j ty t e1 e2 => by
      refine List.all_eq_true.1 hc (ty, t) ?_
      rw [List.mem_iff_getElem?]
      exact ⟨j, by rw [List.getElem?_zip_eq_some]; exact ⟨e1, e2⟩⟩)
    (fun j t v e1 e2 => hval j t v (by simpa using e1) (by simpa using e2)) hw hA
  refine (yes_of_fc (by simpa using a1) W ⟨fun p hp => (by rw [hgt.1] at hp; cases hp), fun p hp => (by rw [hgt.2] at hp; cases hp)⟩ args (by simpa using a2.symm) fun j v hj => ?_).mono fun e W' ⟨he, hb⟩ => ⟨_, he, ?_⟩
  · have hj' : j < args.size := by
      have := (List.getElem?_eq_some_iff.1 hj).1
      simpa [a2] using this
    have := a3 j v args[j] hj (by simp [hj'])
    simpa [Array.getD_eq_getD_getElem?, hj'] using this
  · exact post_true (s := s) hlo hvars hr htb hp hfnl hW' hb
end
end Go.Proofs.Ytlmnhbobgfpanaa
