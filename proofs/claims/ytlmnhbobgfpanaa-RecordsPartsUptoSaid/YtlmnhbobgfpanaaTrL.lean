/-
  That the program's operations do what the states say (9): back from a call.
-/
import Derived.Test.YtlmnhbobgfpanaaTrK
namespace Go.Proofs.Ytlmnhbobgfpanaa
open Go.RowKit

section
variable {P : Program} {E : Env} {ρ ρ' ρc : Pl} {O O' Oc : Ow} {σ : St} {a : Act} {w w' : World} {o : Oper} {fr : Nat} {K : Act → World → Prop} {Q : Exit → Act → World → Prop} {b b' : Sees} {r : Nat → Nat}

theorem call_back (h : Rel E ρ σ a w) (hf : ∀ j, j < 16 → σ.O (fr + j) = none ∧ fr + j < σ.next) {f : FuncId} {evs : List V} {c : CallInfo} (hc : CallOK P σ.O fr f evs c) {x : Value}
    (hl : c.r.os.length = c.os.length)
    (hv : c.r.v.rel (Env.b ⟨w, callPl ρ c.ids, lol c.os, callOk E ρ σ.O c.vw, nobody⟩) ρ' (lol (c.r.os ++ c.r.new)) w' x)
    (hob : ∀ k o, lol (c.r.os ++ c.r.new) k = some o → o.rel (Env.b ⟨w, callPl ρ c.ids, lol c.os, callOk E ρ σ.O c.vw, nobody⟩) ρ' (lol (c.r.os ++ c.r.new)) w' (ρ' k))
    (hhi : ∀ k o g, lol (c.r.os ++ c.r.new) k = some o → o.live = true → ρ' k = some g → (w.heap.size ≤ g ∨ own (callPl ρ c.ids) (lol c.os) g) ∧ g < w'.heap.size)
    (hinj : ∀ k k' o o' g, lol (c.r.os ++ c.r.new) k = some o → lol (c.r.os ++ c.r.new) k' = some o' → o.live = true → o'.live = true → ρ' k = some g → ρ' k' = some g → k = k')
    (hext : Ext (callPl ρ c.ids) (lol c.os) w ρ' (lol (c.r.os ++ c.r.new)) w') (hsize : w.heap.size ≤ w'.heap.size) (hos : w'.os = w.os) (htape : w'.tape = w.tape) (hout : w'.output = w.output) :
    ∃ ρ'', Rel E ρ'' { σ with ob := c.ups σ.O fr ++ σ.ob } a w' ∧ (c.r.v.ren (rn c.ids fr)).rel E.b ρ'' (lo (c.ups σ.O fr ++ σ.ob)) w' x := by
  obtain ⟨u1, u2, u3⟩ := ups_at hc (fun j hj => (hf j hj).1) hl σ.ob
  have hlen : (c.r.os ++ c.r.new).length = c.ids.length + c.r.new.length := by rw [List.length_append, hl, hc.osl]
  have hkl : ∀ k o, lol (c.r.os ++ c.r.new) k = some o → k < c.ids.length + c.r.new.length := fun k o ho => by
    have := (List.getElem?_eq_some_iff.1 ho).1
    rw [hlen] at this
    exact this
  -- the caller's names
  have hmem : ∀ k, k < c.ids.length → c.ids.getD k 0 ∈ c.ids ∧ c.ids.idxOf (c.ids.getD k 0) = k := fun k hk => by
    rw [List.getD_eq_getElem?_getD, List.getElem?_eq_getElem hk]
    exact ⟨List.getElem_mem _, hc.nd.idxOf_getElem k hk⟩
  have hids : ∀ id ∈ c.ids, ∃ k o, k < c.ids.length ∧ c.ids.getD k 0 = id ∧ lol c.os k = some o ∧ σ.O id = some (o.ren (rn c.ids fr)) := fun id hid => by
    obtain ⟨k, hk, rfl⟩ := List.getElem_of_mem hid
    have h1 : k < c.os.length := by rw [hc.osl]; exact hk
    have e : c.ids.getD k 0 = c.ids[k] := by rw [List.getD_eq_getElem?_getD, List.getElem?_eq_getElem hk]; rfl
    exact ⟨k, _, hk, e, List.getElem?_eq_getElem h1, by rw [← e]; exact (hc.os k _ (List.getElem?_eq_getElem h1)).1⟩
  have hnone : ∀ id, fr ≤ id → id < fr + c.r.new.length → σ.O id = none := fun id h1 h2 => by
    have := (hf (id - fr) (by have := hc.small; omega)).1
    rwa [show fr + (id - fr) = id by omega] at this
  have hback : ∀ k, k < c.ids.length + c.r.new.length → backPl ρ ρ' c.ids fr c.r.new.length (rn c.ids fr k) = ρ' k := fun k hk => by
    unfold backPl
    by_cases hlt : k < c.ids.length
    · obtain ⟨h1, h2⟩ := hmem k hlt
      simp only [rn, if_pos hlt]
      rw [if_pos h1, h2]
    · have e : rn c.ids fr k = fr + (k - c.ids.length) := by simp only [rn, if_neg hlt]
      have hno : σ.O (rn c.ids fr k) = none := hnone _ (by omega) (by omega)
      rw [if_neg (fun hid => by obtain ⟨_, _, _, _, _, ho⟩ := hids _ hid; rw [hno] at ho; cases ho), if_pos (by omega), e]
      congr 1
      omega
  -- which ones change
  let Ch : Nat → Prop := fun id => id ∈ c.ids ∨ (fr ≤ id ∧ id < fr + c.r.new.length) ∨ (c.keep = false ∧ id ∈ c.vw)
  have hCO : ∀ id, ¬ Ch id → lo (c.ups σ.O fr ++ σ.ob) id = σ.O id := fun id hid => by
    refine u3 id (fun e => hid (.inl e)) (fun e => hid (.inr (.inl e))) ?_
    cases hk : c.keep with
    | true => exact .inl rfl
    | false => exact .inr fun e => hid (.inr (.inr ⟨hk, e⟩))
  -- of a changed one: the callee's, or gone
  have hCk : ∀ id, Ch id → (∃ k, k < c.ids.length + c.r.new.length ∧ id = rn c.ids fr k) ∨ (c.keep = false ∧ id ∈ c.vw ∧ ∃ zz e size ver n f, σ.O id = some (.arr zz e size ver n f) ∧ lo (c.ups σ.O fr ++ σ.ob) id = some (.arr .sh e size ver n f)) := fun id hid => by
    rcases hid with hid | hid | ⟨h1, h2⟩
    · obtain ⟨k, o, hk, e, _, _⟩ := hids id hid
      exact .inl ⟨k, by omega, by simp only [rn, if_pos hk]; exact e.symm⟩
    · exact .inl ⟨c.ids.length + (id - fr), by omega, by simp only [rn, if_neg (show ¬ c.ids.length + (id - fr) < c.ids.length by omega)]; omega⟩
    · exact .inr ⟨h1, h2, u2 h1 id h2⟩
  have hsome : ∀ k, k < c.ids.length + c.r.new.length → ∃ o, lol (c.r.os ++ c.r.new) k = some o ∧ lo (c.ups σ.O fr ++ σ.ob) (rn c.ids fr k) = some (o.ren (rn c.ids fr)) := fun k hk => by
    have h1 : k < (c.r.os ++ c.r.new).length := by omega
    have h2 : lol (c.r.os ++ c.r.new) k = some (c.r.os ++ c.r.new)[k] := List.getElem?_eq_getElem h1
    exact ⟨_, h2, by rw [u1 k hk, h2]; rfl⟩
  have hown : ∀ g, own (callPl ρ c.ids) (lol c.os) g → ∃ id o, id ∈ c.ids ∧ σ.O id = some o ∧ o.live = true ∧ ρ id = some g := by
    rintro g ⟨k, o, h1, h2, h3⟩
    have hlt : k < c.ids.length := by
      have := (List.getElem?_eq_some_iff.1 h1).1
      rw [hc.osl] at this
      exact this
    simp only [callPl, if_pos hlt] at h3
    exact ⟨c.ids.getD k 0, o.ren (rn c.ids fr), (hmem k hlt).1, (hc.os k o h1).1, by rw [Ob.ren_live]; exact h2, h3⟩
  have hrenO : ∀ id o, lol (c.r.os ++ c.r.new) id = some o → lo (c.ups σ.O fr ++ σ.ob) (rn c.ids fr id) = some (o.ren (rn c.ids fr)) ∧ backPl ρ ρ' c.ids fr c.r.new.length (rn c.ids fr id) = ρ' id := fun id o ho => by
    have hk := hkl id o ho
    refine ⟨?_, hback id hk⟩
    rw [u1 id hk, ho]; rfl
  -- what the callee may have seen is nobody's still
  have hsee : ∀ qc g q, (c.keep = false ∨ qc ≠ .any) → okb (Env.b ⟨w, callPl ρ c.ids, lol c.os, callOk E ρ σ.O c.vw, nobody⟩) ρ' (lol (c.r.os ++ c.r.new)) qc g q → okb E.b (backPl ρ ρ' c.ids fr c.r.new.length) (lo (c.ups σ.O fr ++ σ.ob)) qc g q := by
    rintro qc g q hk ⟨h1, h2⟩
    have notch : ∀ id o, lo (c.ups σ.O fr ++ σ.ob) id = some o → o.live = true → backPl ρ ρ' c.ids fr c.r.new.length id = some g → o.lo ≤ q → ¬ Ch id ∧ σ.O id = some o ∧ ρ id = some g := by
      intro id o ho hlv hg hq
      have hn : ¬ Ch id := fun hch => by
        rcases hCk id hch with ⟨k, hk, rfl⟩ | ⟨_, _, _, _, _, _, _, _, _, e⟩
        · obtain ⟨o', h3, h4⟩ := hsome k hk
          rw [h4] at ho; cases ho
          rw [hback k hk] at hg
          exact h2 ⟨k, o', h3, by rw [← Ob.ren_live]; exact hlv, hg, by rw [← Ob.ren_lo]; exact hq⟩
        · rw [e] at ho; cases ho; cases hlv
      refine ⟨hn, by rw [← hCO id hn]; exact ho, ?_⟩
      unfold backPl at hg
      rwa [if_neg (fun e => hn (.inl e)), if_neg (fun e => hn (.inr (.inl e)))] at hg
    rcases h1 with ⟨h1, h3⟩ | ⟨hqc, h1 | h1 | h1⟩
    rotate_right
    · exact h1.elim
    · refine ⟨h1, ?_⟩
      rintro ⟨id, o, ho, hlv, hg, hq⟩
      obtain ⟨hn, ho', hg'⟩ := notch id o ho hlv hg hq
      rcases h3 with h3 | h3
      · exact h3 ⟨id, o, ho', hlv, hg', hq⟩
      · have hk : c.keep = false := hk.resolve_right fun z => z h3.1
        obtain ⟨id2, h3, h4⟩ := h3.2
        obtain ⟨_, ⟨zz, e, size, ver, n, f, h5⟩ | ⟨hkt, _⟩⟩ := hc.vw id2 h3
        case inr => rw [hk] at hkt; cases hkt
        obtain ⟨rfl, _⟩ := (h.seen h5 h4).2 id o ho' hlv hg'
        exact hn (.inr (.inr ⟨hk, h3⟩))
    · refine ⟨.inr ⟨hqc, .inl (Nat.le_trans h.bs h1)⟩, ?_⟩
      rintro ⟨id, o, ho, hlv, hg, hq⟩
      obtain ⟨hn, ho', hg'⟩ := notch id o ho hlv hg hq
      have := (h.hi id o g ho' hlv hg').2
      have h1' : w.heap.size ≤ g := h1
      omega
    · obtain ⟨id2, o2, m1, m2, m3, m4⟩ := hown g h1
      refine ⟨?_, ?_⟩
      · exact .inr ⟨hqc, (h.hi id2 o2 g m2 m3 m4).1⟩
      · rintro ⟨id, o, ho, hlv, hg, hq⟩
        obtain ⟨hn, ho', hg'⟩ := notch id o ho hlv hg hq
        have := h.inj id id2 o o2 g ho' m2 hlv m3 hg' m4
        subst this
        exact hn (.inl m1)
  have hvw : ∀ id ∈ c.vw, ∀ {zz : Zz} {e : TypeId} {size ver n : Nat} {f : Nat → Nat → T}, σ.O id = some (.arr zz e size ver n f) → backPl ρ ρ' c.ids fr c.r.new.length id = ρ id ∧ ∀ g, ρ id = some g → g < w.heap.size → w'.heap[g]? = w.heap[g]? ∧ ¬ own ρ' (lol (c.r.os ++ c.r.new)) g := fun id hid {zz e size ver n f} h1 => by
    have hni := (hc.vw id hid).1
    have ho := h1
    refine ⟨?_, fun g hg hlt => hext.keep g hlt fun hw => ?_⟩
    · unfold backPl
      rw [if_neg hni, if_neg fun hh => by rw [hnone id hh.1 hh.2] at ho; cases ho]
    · obtain ⟨id2, o2, m1, m2, m3, m4⟩ := hown g hw
      obtain ⟨rfl, _⟩ := (h.seen h1 hg).2 id2 o2 m2 m3 m4
      exact hni m1
  have hor : ∀ (Pf : Prop), (c.keep = true → Pf) → ((∀ qc g q, g < w'.heap.size → okb (Env.b ⟨w, callPl ρ c.ids, lol c.os, callOk E ρ σ.O c.vw, nobody⟩) ρ' (lol (c.r.os ++ c.r.new)) qc g q → okb E.b (backPl ρ ρ' c.ids fr c.r.new.length) (lo (c.ups σ.O fr ++ σ.ob)) qc g q) ∨ ((∀ qc g q, qc ≠ .any → g < w'.heap.size → okb (Env.b ⟨w, callPl ρ c.ids, lol c.os, callOk E ρ σ.O c.vw, nobody⟩) ρ' (lol (c.r.os ++ c.r.new)) qc g q → okb E.b (backPl ρ ρ' c.ids fr c.r.new.length) (lo (c.ups σ.O fr ++ σ.ob)) qc g q) ∧ Pf)) := fun Pf hp => by
    cases hk : c.keep with
    | true => exact .inr ⟨fun qc g q hq _ => hsee qc g q (.inr hq), hp hk⟩
    | false => exact .inl fun qc g q _ => hsee qc g q (.inl hk)
  obtain ⟨hr, ext⟩ := h.many (ρ' := backPl ρ ρ' c.ids fr c.r.new.length) (σ' := { σ with ob := c.ups σ.O fr ++ σ.ob }) (w' := w') Ch rfl rfl (fun id hid => hCO id hid)
    (fun id hid => by
      unfold backPl
      rw [if_neg (fun e => hid (.inl e)), if_neg (fun e => hid (.inr (.inl e)))])
    (fun g hg hn => (hext.keep g hg (fun ho => by
      obtain ⟨id, o, m1, m2, m3, m4⟩ := hown g ho
      exact hn id o (.inl m1) m2 m3 m4)).1)
    (fun id o' g hch ho hlv hg => by
      rcases hCk id hch with ⟨k, hk, rfl⟩ | ⟨_, _, _, _, _, _, _, _, _, e⟩
      · obtain ⟨o2, h3, h4⟩ := hsome k hk
        have ho' : lo (c.ups σ.O fr ++ σ.ob) (rn c.ids fr k) = some o' := ho
        rw [h4] at ho'; cases ho'
        rw [hback k hk] at hg
        obtain ⟨g1, g2⟩ := hhi k o2 g h3 (by rw [← Ob.ren_live]; exact hlv) hg
        refine ⟨g2, ?_⟩
        rcases g1 with g1 | g1
        · exact .inr g1
        · obtain ⟨id2, o3, m1, m2, m3, m4⟩ := hown g g1
          exact .inl ⟨id2, o3, .inl m1, m2, m3, m4⟩
      · have ho' : lo (c.ups σ.O fr ++ σ.ob) id = some o' := ho
        rw [e] at ho'; cases ho'; cases hlv)
    (fun id o g q hch ho hlv hg hq => by
      have hlt := (h.hi id o g ho hlv hg).2
      rcases hch with hid | hid | ⟨hk, hid⟩
      · have hno : ¬ ownc (callPl ρ c.ids) (lol c.os) g q := by
          rintro ⟨k, oc, h1, h2, h3, h4⟩
          have hkl' : k < c.ids.length := by
            have := (List.getElem?_eq_some_iff.1 h1).1
            rw [hc.osl] at this
            exact this
          simp only [callPl, if_pos hkl'] at h3
          have hO2 := (hc.os k oc h1).1
          have := h.inj _ id _ o g hO2 ho (by rw [Ob.ren_live]; exact h2) hlv h3 hg
          rw [this, ho] at hO2
          cases hO2
          rw [Ob.ren_lo] at hq
          omega
        obtain ⟨h1, h2⟩ := hext.cell g q hlt hno
        refine ⟨h1, fun id' o' hch' ho' hlv' hg' => Nat.lt_of_not_le fun hle => ?_⟩
        rcases hCk id' hch' with ⟨k, hk, rfl⟩ | ⟨_, _, _, _, _, _, _, _, _, e⟩
        · obtain ⟨o2, h3, h4⟩ := hsome k hk
          have ho2 : lo (c.ups σ.O fr ++ σ.ob) (rn c.ids fr k) = some o' := ho'
          rw [h4] at ho2; cases ho2
          rw [hback k hk] at hg'
          exact h2 ⟨k, o2, h3, by rw [← Ob.ren_live]; exact hlv', hg', by rw [← Ob.ren_lo]; exact hle⟩
        · have ho2 : lo (c.ups σ.O fr ++ σ.ob) id' = some o' := ho'
          rw [e] at ho2; cases ho2; cases hlv'
      · rw [hnone id hid.1 hid.2] at ho; cases ho
      · obtain ⟨h1, h2⟩ := hext.keep g hlt (fun hw => by
          obtain ⟨id2, o2, m1, m2, m3, m4⟩ := hown g hw
          have := h.inj id2 id o2 o g m2 ho m3 hlv m4 hg
          subst this
          exact (hc.vw _ hid).1 m1)
        refine ⟨look_of_block h1, fun id' o' hch' ho' hlv' hg' => ?_⟩
        rcases hCk id' hch' with ⟨k, hk, rfl⟩ | ⟨_, _, _, _, _, _, _, _, _, e⟩
        · obtain ⟨o2, h3, h4⟩ := hsome k hk
          have ho2 : lo (c.ups σ.O fr ++ σ.ob) (rn c.ids fr k) = some o' := ho'
          rw [h4] at ho2; cases ho2
          rw [hback k hk] at hg'
          exact absurd ⟨k, o2, h3, by rw [← Ob.ren_live]; exact hlv', hg'⟩ h2
        · have ho2 : lo (c.ups σ.O fr ++ σ.ob) id' = some o' := ho'
          rw [e] at ho2; cases ho2; cases hlv')
    (fun id id' o1 o2 g c1 c2 h1 h2 l1 l2 p1 p2 => by
      have h1' : lo (c.ups σ.O fr ++ σ.ob) id = some o1 := h1
      have h2' : lo (c.ups σ.O fr ++ σ.ob) id' = some o2 := h2
      rcases hCk id c1 with ⟨k, hk, rfl⟩ | ⟨_, _, _, _, _, _, _, _, _, e⟩
      · rcases hCk id' c2 with ⟨k', hk', rfl⟩ | ⟨_, _, _, _, _, _, _, _, _, e⟩
        · obtain ⟨q1, h3, h4⟩ := hsome k hk
          obtain ⟨q2, h5, h6⟩ := hsome k' hk'
          rw [h4] at h1'; cases h1'
          rw [h6] at h2'; cases h2'
          rw [hback k hk] at p1
          rw [hback k' hk'] at p2
          rw [hinj k k' q1 q2 g h3 h5 (by rw [← Ob.ren_live]; exact l1) (by rw [← Ob.ren_live]; exact l2) p1 p2]
        · rw [e] at h2'; cases h2'; cases l2
      · rw [e] at h1'; cases h1'; cases l1)
    (fun id o hch ho => by
      rcases hch with hid | hid | ⟨hk, hid⟩
      · obtain ⟨k, oc, hk, e, h1, h2⟩ := hids id hid
        rw [h2] at ho; cases ho
        obtain ⟨o', h3, h4, h5⟩ := hext.same k oc h1
        have hkk := hkl k o' h3
        have hrk : rn c.ids fr k = id := by simp only [rn, if_pos hk]; exact e
        obtain ⟨h6, h7⟩ := hrenO k o' h3
        rw [hrk] at h6 h7
        refine ⟨_, h6, by rw [Ob.ren_ver, Ob.ren_ver]; exact h4, fun ev => ?_⟩
        rw [Ob.ren_ver, Ob.ren_ver] at ev
        obtain ⟨g1, g2, g3⟩ := h5 ev
        have hcp : callPl ρ c.ids k = ρ id := by simp only [callPl, if_pos hk, e]
        refine ⟨by rw [h7, g1, hcp], (Ob.ren_fits oc o' _).2 g2, fun g cs el hlv hg hh => ?_⟩
        exact g3 g cs el (by rw [← Ob.ren_held]; exact hlv) (by rw [hcp]; exact hg) hh
      · rw [hnone id hid.1 hid.2] at ho; cases ho
      · obtain ⟨zz, e, size, ver, n, f, h1, h2⟩ := u2 hk id hid
        rw [h1] at ho; cases ho
        obtain ⟨v1, v2⟩ := hvw id hid h1
        exact ⟨_, h2, Nat.le_refl _, fun _ => ⟨v1, ⟨rfl, rfl, Nat.le_refl _⟩, fun g cs el hl hg hh => ⟨cs, (v2 g hg (Array.getElem?_eq_some_iff.1 hh).1).1.trans hh, rfl⟩⟩⟩)
    (fun ext id o' hch ho => by
      have ho' : lo (c.ups σ.O fr ++ σ.ob) id = some o' := ho
      rcases hCk id hch with ⟨k, hk, rfl⟩ | ⟨_, _, _, _, _, _, _, _, _, e⟩
      · obtain ⟨o2, h3, h4⟩ := hsome k hk
        rw [h4] at ho'; cases ho'
        rw [hback k hk]
        exact Ob.rel_ren hrenO (hor o2.flat fun hkp => (hc.kept hkp).2 o2 (List.mem_of_getElem? h3)) (hob k o2 h3)
      · rename_i hkf hvi zz el size ver n f hold
        rw [e] at ho'; cases ho'
        obtain ⟨v1, v2⟩ := hvw id hvi hold
        rcases h.ob id _ hold with k | ⟨g, cs, cap, e1, e2, e3, e4, e5, e6⟩
        · exact .inl ⟨v1.trans k.1, k.2⟩
        · obtain ⟨v3, v4⟩ := v2 g e1 (Array.getElem?_eq_some_iff.1 e2).1
          refine .inr ⟨g, cs, cap, v1.trans e1, v3.trans e2, e3, e4, ⟨e5.1, fun _ => ⟨?_, (h.seen hold e1).1⟩, Room.none nofun⟩, fun i j hi hj => ⟨(e6 i j hi hj).1, T.rel_mono ext.okb (e6 i j hi hj).2⟩⟩
          rintro ⟨id', o1, k1, k2, k3⟩
          by_cases hc' : Ch id'
          · rcases hCk id' hc' with ⟨k, hk, rfl⟩ | ⟨_, _, _, _, _, _, _, _, _, e'⟩
            · obtain ⟨o2, h3, h4⟩ := hsome k hk
              have k1' : lo (c.ups σ.O fr ++ σ.ob) (rn c.ids fr k) = some o1 := k1
              rw [h4] at k1'; cases k1'
              rw [hback k hk] at k3
              exact v4 ⟨k, o2, h3, by rw [← Ob.ren_live]; exact k2, k3⟩
            · have k1' : lo (c.ups σ.O fr ++ σ.ob) id' = some o1 := k1
              rw [e'] at k1'; cases k1'; cases k2
          · have k1' : σ.O id' = some o1 := by rw [← hCO id' hc']; exact k1
            have k3' : ρ id' = some g := by
              unfold backPl at k3
              rwa [if_neg (fun e => hc' (.inl e)), if_neg (fun e => hc' (.inr (.inl e)))] at k3
            obtain ⟨rfl, _⟩ := (h.seen hold e1).2 id' o1 k1' k2 k3'
            exact hc' hch)
    (fun id hid => by
      have hid' : σ.next ≤ id := hid
      have hn := h.nx id hid'
      have h1 : ¬ Ch id := by
        rintro (hh | hh | ⟨_, hh⟩)
        · obtain ⟨_, _, _, _, _, ho⟩ := hids id hh
          rw [hn] at ho; cases ho
        · have := (hf (id - fr) (by have := hc.small; omega)).2
          omega
        · obtain ⟨_, ⟨_, _, _, _, _, _, ho⟩ | ⟨_, _, _, _, ho⟩⟩ := hc.vw id hh <;> (rw [hn] at ho; cases ho)
      exact (hCO id h1).trans hn)
    hsize hos htape hout
  exact ⟨_, hr, V.rel_ren hrenO (hor c.r.v.flat fun hkp => (hc.kept hkp).1) hv⟩
end
end Go.Proofs.Ytlmnhbobgfpanaa
