/-
  Laws: whatever came in, as typed data. General; nothing of this program.
-/
import Derived.Test.YtlmnhbobgfpanaaDaN
import Derived.Test.YtlmnhbobgfpanaaTrY
namespace Go.Proofs.Ytlmnhbobgfpanaa
open Go.RowKit

def Ty.tp : Ty → Tp
  | .bool => .bool
  | .str => .str
  | .txt => .str
  | .int k => .int k
  | .sl _ e => .sl .any e.tp
  | .unit => .unit
  | .pair a .unit => a.tp
  | .pair a b => .pair a.tp b.tp
  | .st f => f.tp
def inK (k : IntKind) (z : Int) : Prop := k.min ≤ z ∧ z ≤ k.max
def pairOk (a : Ty) (A : den a.tp → Prop) : (b : Ty) → (den b.tp → Prop) → den (Ty.pair a b).tp → Prop
  | .unit, _, x => A x
  | .bool, B, x => A x.1 ∧ B x.2
  | .str, B, x => A x.1 ∧ B x.2
  | .txt, B, x => A x.1 ∧ B x.2
  | .int _, B, x => A x.1 ∧ B x.2
  | .sl _ _, B, x => A x.1 ∧ B x.2
  | .pair _ _, B, x => A x.1 ∧ B x.2
  | .st _, B, x => A x.1 ∧ B x.2
def Ty.okD : (ty : Ty) → den ty.tp → Prop
  | .bool, _ => True
  | .str, s => ByteArray.size s ≤ memTop
  | .txt, s => ByteArray.size s ≤ 1048576
  | .int k, z => inK k z
  | .sl b e, l => List.length l * b ≤ memTop ∧ List.length l ≤ 9223372036854775807 ∧ ∀ x, List.Mem x l → e.okD x
  | .unit, _ => True
  | .pair a b, x => pairOk a a.okD b b.okD x
  | .st f, x => f.okD x
theorem Ty.tp_size : ∀ ty : Ty, ty.tp.size = ty.size
  | .bool | .str | .txt | .int _ | .sl _ _ | .unit => rfl
  | .pair a b => by
    have ha := Ty.tp_size a
    have hb := Ty.tp_size b
    cases b with
    | unit => exact ha
    | _ => show a.tp.size + Tp.size _ = _; rw [ha, hb]; rfl
  | .st f => by simp only [Ty.tp, Ty.size, Ty.tp_size f]
theorem slT_le {e : Ty} {n : Nat} {f : Nat → List T} {l : List (den e.tp)} (hn : l.length = n) (h : ∀ i, i < n → ∀ j, j < e.size → T.le ((f i).getD j (.val undef)) (cellT e.tp (l.getD i (dflt e.tp)) j)) :
    T.le (slT e.size n f) (cellT (.sl .any e.tp) l 0) := by
  unfold slT
  have hs := Ty.tp_size e
  rw [← hs]
  refine sl_le hn fun i j hi hj => ?_
  rw [hs] at hj ⊢
  by_cases h1 : e.size = 1
  · rw [if_pos h1]
    obtain rfl : j = 0 := by omega
    exact h i hi 0 hj
  · rw [if_neg h1]
    exact h i hi j hj
theorem pair_le {a b : Ty} {x y : List T} {u : den a.tp} {v : den b.tp} (hl : x.length = a.size) (p2 : ∀ j, j < a.size → T.le (x.getD j (.val undef)) (cellT a.tp u j))
    (q2 : ∀ j, j < b.size → T.le (y.getD j (.val undef)) (cellT b.tp v j)) : ∀ j, j < a.size + b.size → T.le ((x ++ y).getD j (.val undef)) (cellT (.pair a.tp b.tp) (u, v) j) := fun j hj => by
  simp only [cellT, Ty.tp_size a]
  rw [List.getD_eq_getElem?_getD]
  by_cases hja : j < a.size
  · rw [if_pos hja, List.getElem?_append_left (by omega), ← List.getD_eq_getElem?_getD]
    exact p2 j hja
  · rw [if_neg hja, List.getElem?_append_right (by omega), ← List.getD_eq_getElem?_getD, hl]
    exact q2 _ (by omega)
theorem Ty.typed : ∀ {ty : Ty} {ts : List T}, ty.has ts → ∃ x : den ty.tp, ty.okD x ∧ ∀ j, j < ty.size → T.le (ts.getD j (.val undef)) (cellT ty.tp x j) := by
  intro ty
  induction ty with
  | bool => rintro ts ⟨b, rfl⟩; exact ⟨b, trivial, fun j hj => by obtain rfl : j = 0 := by simp [Ty.size] at hj; exact hj
                                                                  exact T.le_refl _⟩
  | str => rintro ts ⟨s, rfl, hs⟩; exact ⟨s, hs, fun j hj => by obtain rfl : j = 0 := by simp [Ty.size] at hj; exact hj
                                                                exact T.le_refl _⟩
  | txt => rintro ts ⟨s, rfl, hs⟩; exact ⟨s, hs, fun j hj => by obtain rfl : j = 0 := by simp [Ty.size] at hj; exact hj
                                                                exact T.le_refl _⟩
  | int k => rintro ts ⟨z, rfl, h1, h2⟩; exact ⟨z, ⟨h1, h2⟩, fun j hj => by obtain rfl : j = 0 := by simp [Ty.size] at hj; exact hj
                                                                            exact T.le_refl _⟩
  | unit => rintro ts rfl; exact ⟨(), trivial, fun j hj => by simp [Ty.size] at hj⟩
  | st f ih => intro ts h; exact ih h
  | pair a b ih1 ih2 =>
    rintro ts ⟨x, y, rfl, h1, h2⟩
    obtain ⟨u, p1, p2⟩ := ih1 h1
    obtain ⟨v, q1, q2⟩ := ih2 h2
    have hl := Ty.has_len h1
    have hb := pair_le hl p2 q2
    cases b with
    | unit =>
      obtain rfl : y = [] := h2
      rw [List.append_nil]
      exact ⟨u, p1, p2⟩
    | _ => exact ⟨(u, v), ⟨p1, q1⟩, hb⟩
  | sl b e ih =>
    rintro ts ⟨n, f, rfl, h1, h2, h3⟩
    let g : Nat → den e.tp := fun i => Classical.choose (ih (h3 i))
    have hg : ∀ i, e.okD (g i) ∧ ∀ j, j < e.size → T.le ((f i).getD j (.val undef)) (cellT e.tp (g i) j) := fun i => Classical.choose_spec (ih (h3 i))
    have hlen : ((List.range n).map g).length = n := by simp
    refine ⟨(List.range n).map g, ⟨by show ((List.range n).map g).length * b ≤ memTop; rw [hlen]; exact h1, by show ((List.range n).map g).length ≤ _; rw [hlen]; exact h2, fun x hx => ?_⟩, fun j hj => ?_⟩
    · obtain ⟨i, _, rfl⟩ := List.mem_map.1 hx
      exact (hg i).1
    · obtain rfl : j = 0 := by simp [Ty.size] at hj; exact hj
      refine slT_le hlen fun i hi j hj => ?_
      have : ((List.range n).map g).getD i (dflt e.tp) = g i := by
        rw [List.getD_eq_getElem?_getD, List.getElem?_map, List.getElem?_range hi]; rfl
      rw [this]
      exact (hg i).2 j hj
theorem Ty.allF_intro : ∀ {ty : Ty} {ι : Type} {K : (ι → List T) → Prop}, (∀ F, (∀ i, ty.has (F i)) → K F) → ty.allF ι K := by
  intro ty
  induction ty with
  | bool => intro ι K h b; exact h _ fun i => ⟨_, rfl⟩
  | str => intro ι K h s hs; exact h _ fun i => ⟨_, rfl, hs i⟩
  | txt => intro ι K h s hs; exact h _ fun i => ⟨_, rfl, hs i⟩
  | int k => intro ι K h z hz; exact h _ fun i => ⟨_, rfl, hz i⟩
  | sl b e ih => intro ι K h n hn; exact ih fun F hF => h _ fun i => ⟨_, _, rfl, (hn i).1, (hn i).2, fun a => hF (i, a)⟩
  | unit => intro ι K h; exact h _ fun i => rfl
  | pair a b ih1 ih2 => intro ι K h; exact ih1 fun F hF => ih2 fun G hG => h _ fun i => ⟨_, _, rfl, hF i, hG i⟩
  | st f ih => intro ι K h; exact ih h
theorem Ty.all_intro : ∀ {ty : Ty} {K : List T → Prop}, (∀ ts, ty.has ts → K ts) → ty.all K := by
  intro ty
  induction ty with
  | bool => intro K h b; exact h _ ⟨_, rfl⟩
  | str => intro K h s hs; exact h _ ⟨_, rfl, hs⟩
  | txt => intro K h s hs; exact h _ ⟨_, rfl, hs⟩
  | int k => intro K h z h1 h2; exact h _ ⟨_, rfl, h1, h2⟩
  | sl b e _ => intro K h n h1 h2; exact Ty.allF_intro fun F hF => h _ ⟨_, _, rfl, h1, h2, hF⟩
  | unit => intro K h; exact h _ rfl
  | pair a b ih1 ih2 => intro K h; exact ih1 fun x hx => ih2 fun y hy => h _ ⟨_, _, rfl, hx, hy⟩
  | st f ih => intro K h; exact ih h
def Ty.argD : (ty : Ty) → den ty.tp → V
  | .st f, x => .agg f.size fun j => .im (cellT f.tp x j)
  | ty, x => .im (cellT ty.tp x 0)
def Ty.allsD : List Ty → (List V → Prop) → Prop
  | [], K => K []
  | ty :: l, K => ∀ x : den ty.tp, ty.okD x → Ty.allsD l fun xs => K (ty.argD x :: xs)
def LLe : List V → List V → Prop
  | [], [] => True
  | u :: us, v :: vs => VLe u v ∧ LLe us vs
  | _, _ => False
theorem LLe.refl : ∀ l : List V, LLe l l
  | [] => trivial
  | _ :: l => ⟨VLe.refl _, LLe.refl l⟩
theorem LLe.len : ∀ {us vs : List V}, LLe us vs → us.length = vs.length
  | [], [], _ => rfl
  | _ :: _, _ :: _, h => by simp [LLe.len h.2]
  | [], _ :: _, h => h.elim
  | _ :: _, [], h => h.elim
theorem LLe.get : ∀ {us vs : List V} {j : Nat} {v : V}, LLe us vs → vs[j]? = some v → ∃ u, us[j]? = some u ∧ VLe u v
  | [], [], j, v, _, h => by simp at h
  | u :: us, w :: vs, 0, v, h, hv => ⟨u, rfl, by simp at hv; subst hv; exact h.1⟩
  | u :: us, w :: vs, j + 1, v, h, hv => by
    obtain ⟨x, h1, h2⟩ := LLe.get (j := j) h.2 (by simpa using hv)
    exact ⟨x, by simpa using h1, h2⟩
  | [], _ :: _, _, _, h, _ => h.elim
  | _ :: _, [], _, _, h, _ => h.elim
theorem fc_le {P : Program} {f : FuncId} {es vs : List V} {r : Ret} (h : FC P f [] vs r) (ha : LLe es vs) : FC P f [] es r :=
  ⟨h.1, fun ok ρ w xs hmo hg h1 h2 h3 h4 h5 => h.2 ok ρ w xs hmo hg h1 h2 h3 (h4.trans ha.len) fun j v hj => by
    obtain ⟨e, e1, e2⟩ := ha.get hj
    exact e2 _ _ _ _ _ hmo (h5 j e e1)⟩
def Ty.whole : Ty → Bool
  | .pair .. => false
  | .unit => false
  | _ => true
theorem arg_le {ty : Ty} {ts : List T} {x : den ty.tp} (hw : ty.whole = true) (h : ∀ j, j < ty.size → T.le (ts.getD j (.val undef)) (cellT ty.tp x j)) : VLe (ty.arg ts) (ty.argD x) := by
  cases ty with
  | st f => exact VLe.agg fun j hj => VLe.im (h j hj)
  | pair a b => cases hw
  | unit => cases hw
  | bool => exact VLe.im (h 0 Nat.one_pos)
  | str => exact VLe.im (h 0 Nat.one_pos)
  | txt => exact VLe.im (h 0 Nat.one_pos)
  | int k => exact VLe.im (h 0 Nat.one_pos)
  | sl b e => exact VLe.im (h 0 Nat.one_pos)
theorem allsD_mono : ∀ {tys : List Ty} {K K' : List V → Prop}, (∀ xs, K xs → K' xs) → Ty.allsD tys K → Ty.allsD tys K'
  | [], _, _, h, k => h _ k
  | _ :: _, _, _, h, k => fun x hx => allsD_mono (fun _ h' => h _ h') (k x hx)
theorem alls_typed : ∀ {tys : List Ty} {K : List V → Prop}, tys.all Ty.whole = true → (∀ es vs, LLe es vs → K vs → K es) → Ty.allsD tys K → Ty.alls tys K
  | [], K, _, _, h => h
  | ty :: tys, K, hw, hK, h => by
    simp only [List.all_cons, Bool.and_eq_true] at hw
    refine Ty.all_intro fun ts hts => ?_
    obtain ⟨x, h1, h2⟩ := Ty.typed hts
    refine alls_typed (K := fun xs => K (ty.arg ts :: xs)) hw.2 (fun es vs ha hv => hK (ty.arg ts :: es) (ty.arg ts :: vs) ⟨VLe.refl _, ha⟩ hv) ?_
    exact allsD_mono (fun xs hx => hK (ty.arg ts :: xs) (ty.argD x :: xs) ⟨arg_le hw.1 h2, LLe.refl _⟩ hx) (h x h1)

def Ty.sh : Ty → Sh
  | .st f => .agg f.size (f.tp.chainS .nil)
  | ty => .hole ty.tp
def Ty.shD : (ty : Ty) → den ty.tp → den ty.sh.ty
  | .st f, x => f.tp.chainD x .nil ()
  | .bool, x => x
  | .str, x => x
  | .txt, x => x
  | .int _, x => x
  | .sl _ _, x => x
  | .unit, x => x
  | .pair _ _, x => x
def Ty.shs : List Ty → Sh
  | [] => .nil
  | ty :: l => .cons ty.sh (Ty.shs l)
theorem sh_mk (ty : Ty) (x : den ty.tp) (k : Nat) : (ty.sh.mk (ty.shD x) k).2 = ([], k) ∧ VLe (ty.argD x) (dl (ty.sh.mk (ty.shD x) k).1 0).toV := by
  cases ty with
  | st f =>
    obtain ⟨h1, h2⟩ := chain_mk f.tp x .nil () k
    refine ⟨h1, ?_⟩
    simp only [Ty.sh, Ty.shD, Sh.mk, dl_cons_zero, DV.toV]
    refine VLe.agg fun j hj => VLe.of_eq ?_
    have hj' : j < f.tp.size := by rw [Ty.tp_size]; exact hj
    rw [h2, if_pos hj']
    exact (rowC_toV f.tp x j hj').symm
  | _ => exact ⟨rfl, VLe.refl _⟩
def Ty.okAll : (tys : List Ty) → (den (Ty.shs tys).ty → Prop) → Prop
  | [], K => K ()
  | ty :: l, K => ∀ x : den ty.tp, ty.okD x → Ty.okAll l fun y => K (ty.shD x, y)
theorem okAll_args {K : List V → Prop} (hK : ∀ es vs, LLe es vs → K vs → K es) : ∀ {tys : List Ty} {pre : List V} {_ : Nat}, Ty.okAll tys (fun x => ∀ k, ((Ty.shs tys).mk x k).2 = ([], k) → K (pre ++ ((Ty.shs tys).mk x k).1.map DV.toV)) →
    Ty.allsD tys fun xs => K (pre ++ xs)
  | [], pre, k, h => h k rfl
  | ty :: tys, pre, k, h => fun x hx => by
    have h := h x hx
    obtain ⟨s1, s2⟩ := sh_mk ty x k
    have key : Ty.allsD tys fun xs => K ((pre ++ [(dl (ty.sh.mk (ty.shD x) k).1 0).toV]) ++ xs) := by
      refine @okAll_args K hK tys (pre ++ [(dl (ty.sh.mk (ty.shD x) k).1 0).toV]) k ?_
      have mono : ∀ {tys : List Ty} {A B : den (Ty.shs tys).ty → Prop}, (∀ y, A y → B y) → Ty.okAll tys A → Ty.okAll tys B := by
        intro tys
        induction tys with
        | nil => intro A B hab ha; exact hab _ ha
        | cons t l ih => intro A B hab ha x hx; exact ih (fun y h' => hab _ h') (ha x hx)
      refine mono (fun y hy k' hk' => ?_) h
      have s1' := sh_mk ty x k'
      have hm : (Sh.mk (.cons ty.sh (Ty.shs tys)) (ty.shD x, y) k').2 = ([], k') := by
        simp only [Sh.mk]
        rw [s1'.1]
        rw [hk']; rfl
      have := hy k' hm
      simp only [Ty.shs, Sh.mk, List.map_cons] at this
      rw [s1'.1] at this
      have e : dl (ty.sh.mk (ty.shD x) k').1 0 = dl (ty.sh.mk (ty.shD x) k).1 0 := by
        cases ty with
        | st f =>
          have q1 := chain_mk f.tp x .nil () k
          have q2 := chain_mk f.tp x .nil () k'
          simp only [Ty.sh, Ty.shD, Sh.mk, dl_cons_zero]
          congr 1
          funext j
          rw [q1.2 j, q2.2 j]; rfl
        | _ => rfl
      rw [e] at this
      simpa using this
    refine allsD_mono (fun xs hx => ?_) key
    refine hK _ _ ?_ hx
    have app : ∀ (l : List V) {a b : List V}, LLe a b → LLe (l ++ a) (l ++ b) := fun l => by
      induction l with
      | nil => intro a b h; exact h
      | cons v l ih => intro a b h; exact ⟨VLe.refl _, ih h⟩
    rw [List.append_assoc]
    exact app pre ⟨s2, LLe.refl _⟩

theorem law_of {P : Program} {f : FuncId} {tys : List Ty} {p : den (Ty.shs tys).ty → Option (den Sh.nil.ty × den (Sh.hole .bool).ty)} (hw : tys.all Ty.whole = true)
    (hg : (⟨f, Ty.shs tys, .nil, .hole .bool, p⟩ : Ent).Good P) (h : Ty.okAll tys fun x => p x = some ((), true)) : Ty.alls tys fun xs => FC P f [] xs ⟨[], [], .im (.val (.bool true))⟩ := by
  refine alls_typed hw (fun es vs ha hv => fc_le hv ha) ?_
  have := @okAll_args (fun xs => FC P f [] xs ⟨[], [], .im (.val (.bool true))⟩) (fun es vs ha hv => fc_le hv ha) tys [] 0 ?_
  · simpa using this
  · have mono : ∀ {tys : List Ty} {A B : den (Ty.shs tys).ty → Prop}, (∀ y, A y → B y) → Ty.okAll tys A → Ty.okAll tys B := by
      intro tys
      induction tys with
      | nil => intro A B hab ha; exact hab _ ha
      | cons t l ih => intro A B hab ha x hx; exact ih (fun y h' => hab _ h') (ha x hx)
    refine mono (fun x hx k hk => ?_) h
    have fc := hg x () true hx
    have n0 : (Ty.shs tys).cnt = 0 := by
      have := (mk_cnt (Ty.shs tys) x k).1
      rw [hk] at this
      simp only at this
      omega
    have o0 : ((Ty.shs tys).mk x 0).2.1 = [] := by
      have := (mk_cnt (Ty.shs tys) x 0).2
      rw [n0] at this
      simpa using this
    have e1 : (⟨f, Ty.shs tys, .nil, .hole .bool, p⟩ : Ent).os x = [] := by unfold Ent.os; rw [o0]; rfl
    have e2 : (⟨f, Ty.shs tys, .nil, .hole .bool, p⟩ : Ent).ros x () = [] := by unfold Ent.ros; rw [e1]; rfl
    have e3 : (⟨f, Ty.shs tys, .nil, .hole .bool, p⟩ : Ent).new x () true = [] := rfl
    have e4 : ((⟨f, Ty.shs tys, .nil, .hole .bool, p⟩ : Ent).val x () true).toV = .im (.val (.bool true)) := rfl
    rw [e1, e2, e3, e4] at fc
    have e5 : ((Ty.shs tys).mk x k).1 = ((Ty.shs tys).mk x 0).1 := by
      have : ∀ (tys : List Ty) (x : den (Ty.shs tys).ty) (k : Nat), (Ty.shs tys).cnt = 0 → ((Ty.shs tys).mk x k).1 = ((Ty.shs tys).mk x 0).1 := by
        have gen : ∀ (s : Sh) (x : den s.ty) (k k' : Nat), s.cnt = 0 → (s.mk x k).1 = (s.mk x k').1 := by
          intro s
          induction s with
          | own => intro x k k' h; cases h
          | mown => intro x k k' h; cases h
          | box => intro x k k' h; cases h
          | agg n l ih => intro x k k' h; simp only [Sh.mk, ih x k k' h]
          | tup n l ih => intro x k k' h; simp only [Sh.mk, ih x k k' h]
          | ifc t s ih => intro x k k' h; simp only [Sh.mk, ih x k k' h]
          | clo fn n l m c ih1 ih2 =>
            intro x k k' h
            simp only [Sh.cnt] at h
            simp only [Sh.mk, ih1 x.1 k k' (by omega), ih2 x.2 (l.mk x.1 k).2.2 (l.mk x.1 k').2.2 (by omega)]
          | cons a b ih1 ih2 =>
            intro x k k' h
            simp only [Sh.cnt] at h
            simp only [Sh.mk, ih1 x.1 k k' (by omega), ih2 x.2 (a.mk x.1 k).2.2 (a.mk x.1 k').2.2 (by omega)]
          | _ => intro x k k' _; rfl
        exact fun tys x k h => gen _ x k 0 h
      exact this tys x k n0
    rw [e5]
    exact fc
end Go.Proofs.Ytlmnhbobgfpanaa
