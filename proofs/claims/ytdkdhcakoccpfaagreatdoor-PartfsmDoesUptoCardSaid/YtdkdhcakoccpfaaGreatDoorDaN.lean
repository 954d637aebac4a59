/-
  Functions that write over what is new. General; nothing of this program.
-/
import Derived.Test.YtdkdhcakoccpfaaGreatDoorDaL
namespace Go.Proofs.YtdkdhcakoccpfaaGreatDoor
open Go.RowKit
def Tp.chainS:Tp→Sh→Sh
 | .pair a b,r=>a.chainS (b.chainS r)
 | .unit,r=>r
 | .bool,r => .cons (.hole .bool) r
 | .str,r => .cons (.hole .str) r
 | .int k,r => .cons (.hole (.int k)) r
 | .hv κ,r => .cons (.hole (.hv κ)) r
 | .op e,r => .cons (.hole (.op e)) r
 | .sl q e,r => .cons (.hole (.sl q e)) r
def Tp.chainD:(τ:Tp)→den τ→(r:Sh)→den r.ty→den (τ.chainS r).ty
 | .pair a b,x,r,y=>a.chainD x.1 (b.chainS r) (b.chainD x.2 r y)
 | .unit,_,_,y=>y
 | .bool,x,_,y=>(x,y)
 | .str,x,_,y=>(x,y)
 | .int _,x,_,y=>(x,y)
 | .hv _,x,_,y=>(x,y)
 | .op _,x,_,y=>(x,y)
 | .sl _ _,x,_,y=>(x,y)
theorem Q6s:∀ (τ:Tp) (x:den τ) (r:Sh) (y:den r.ty) (k:Nat),((τ.chainS r).mk (τ.chainD x r y) k).2=(r.mk y k).2 ∧
  ∀ j,dl ((τ.chainS r).mk (τ.chainD x r y) k).1 j=if j<τ.size then rowC τ x j else dl (r.mk y k).1 (j-τ.size) := by
 intro τ
 have one:∀ {τ:Tp} {x:den τ} {r:Sh} {y:den r.ty} {k:Nat},τ.size=1→rowC τ x 0 = .im τ x→((Sh.cons (.hole τ) r).mk (x,y) k).2=(r.mk y k).2 ∧
   ∀ j,dl ((Sh.cons (.hole τ) r).mk (x,y) k).1 j=if j<τ.size then rowC τ x j else dl (r.mk y k).1 (j-τ.size) := by
  intro τ x r y k h1 h2
  refine ⟨rfl,fun j => ?_⟩
  rw [h1]
  cases j with
  | zero=>simp only [Sh.mk,Q0q,Nat.zero_lt_one,if_true,h2]
  | succ j=>simp only [Sh.mk,Q2i]; rw [if_neg (by omega)]; rfl
 induction τ with
 | pair a b ih1 ih2 =>
  intro x r y k
  obtain ⟨h1,h2⟩ := ih1 x.1 (b.chainS r) (b.chainD x.2 r y) k
  obtain ⟨h3,h4⟩ := ih2 x.2 r y k
  refine ⟨h1.trans h3,fun j => ?_⟩
  simp only [Tp.chainS,Tp.chainD,Tp.size,rowC,Q2f]
  rw [h2,h4]
  by_cases hja:j<a.size
  ·rw [if_pos hja,if_pos (by omega)]; simp [hja]
  ·rw [if_neg hja]
   by_cases hjb:j-a.size<b.size
   ·rw [if_pos hjb,if_pos (by omega)]; simp [hja]
   ·rw [if_neg hjb,if_neg (by omega),Nat.sub_sub]
 | unit=>intro x r y k; exact ⟨rfl,fun j=>by simp [Tp.size,Tp.chainS,Tp.chainD]⟩
 | bool=>intro x r y k; exact one rfl rfl
 | str=>intro x r y k; exact one rfl rfl
 | int q=>intro x r y k; exact one rfl rfl
 | hv κ=>intro x r y k; exact one rfl rfl
 | op e=>intro x r y k; exact one rfl rfl
 | sl q e=>intro x r y k; exact one rfl rfl
def Qc.tri:Qc→Bool
 | .any | .new | .old=>true
 | .mid | .saf=>false
def Tp.tri:Tp→Bool
 | .sl q e=>q.tri && e.tri
 | .pair a b=>a.tri && b.tri
 | _=>true
def spK (ok:Sees):Sees
 | .any,g,k=>ok .any g k
 | .new,g,k=>ok .new g k
 | .old,g,k=>ok .old g k
 | .mid,g,k=>ok .mid g k
 | .saf,g,k=>ok .old g k
theorem Q5b {ok ok':Sees} {w:World} (h:∀ q g k,Qc.tri q=true→g<w.heap.size→ok q g k→ok' q g k):∀ (τ:Tp) (x:den τ) (j:Nat) {u:Value},τ.tri=true→(cellT τ x j).rel ok w u→(cellT τ x j).rel ok' w u
 | .bool,_,j,_,_,hu=>by cases j <;> exact hu
 | .str,_,j,_,_,hu=>by cases j <;> exact hu
 | .int _,_,j,_,_,hu=>by cases j <;> exact hu
 | .hv _,_,j,_,_,hu=>by cases j <;> exact hu
 | .op _,_,j,_,_,hu=>by cases j <;> exact hu
 | .unit,_,_,_,_,hu=>hu
 | .sl q e,l,0,u,ho,hu=>by
  have ho':(q.tri && e.tri)=true := ho
  simp only [Bool.and_eq_true] at ho'
  obtain ⟨A,c,e1,hn,hf⟩ := hu
  refine ⟨A,c,e1,hn,fun i j hi hj => ?_⟩
  obtain ⟨ad,v,h1,h2,h3,h4,h5⟩ := hf i j hi hj
  have hlt := World.block_lt_of_cell? w _ h3
  rw [Q0r] at hlt
  exact ⟨ad,v,h1,⟨h _ _ _ ho'.1 hlt h2.1,h2.2⟩,h3,h4,Q5b h e _ j ho'.2 h5⟩
 | .sl _ e,_,j+1,_,_,hu=>hu
 | .pair c d,x,j,u,ho,hu=>by
  have ho':(c.tri && d.tri)=true := ho
  simp only [Bool.and_eq_true] at ho'
  simp only [cellT] at hu ⊢
  split at hu
  ·rename_i hj; rw [if_pos hj]; exact Q5b h c x.1 _ ho'.1 hu
  ·rename_i hj; rw [if_neg hj]; exact Q5b h d x.2 _ ho'.2 hu
theorem K2o {ag:Bool} {τ:Tp} {x:den τ} {ok ok':Sees} {w:World} {v:Value} (h:∀ q g k,Qc.tri q=true→g<w.heap.size→ok q g k→ok' q g k) (ht:τ.tri=true) (hs:SlotHas ag τ x ok w v):SlotHas ag τ x ok' w v := by
 unfold SlotHas at hs ⊢
 split at hs
 ·rename_i ha
  rw [if_pos ha]
  obtain ⟨cs,e,h1,h2⟩ := hs
  exact ⟨cs,e,h1,fun j hj=>Q5b h τ x j ht (h2 j hj)⟩
 ·rename_i ha
  rw [if_neg ha]
  exact Q5b h τ x 0 ht hs
def EmbOk (ag:Bool) (τ:Tp) (ash:Sh) (emb:den τ→den ash.ty):Prop := ∀ x,(ash.mk (emb x) 0).2.1=[] ∧ ∃ d,(ash.mk (emb x) 0).1=[d] ∧ ∀ (b:Sees) (ρ:Pl) (O:Ow) (w:World) (v:Value),SlotHas ag τ x (okb b ρ O) w v→d.toV.rel b ρ O w v
theorem K2p {ok:Sees} {w:World}:∀ (τ:Tp) (x:den τ) (j:Nat) {u:Value},j<τ.size→(cellT τ x j).rel ok w u→u.oneCell' = true := by
 have z:∀ {j:Nat},j<1→j=0 := by omega
 intro τ
 induction τ with
 | bool=>intro x j u hj h; obtain rfl := z hj; have h':u = .bool x := h; rw [h']; rfl
 | str=>intro x j u hj h; obtain rfl := z hj; have h':u = .string x := h; rw [h']; rfl
 | int k=>intro x j u hj h; obtain rfl := z hj; have h':u = .int k x := h; rw [h']; rfl
 | hv κ=>intro x j u hj h; obtain rfl := z hj; exact (Nk.one h).1
 | op e=>intro x j u hj h; obtain rfl := z hj; exact h.1
 | unit=>intro x j u hj; exact absurd hj (Nat.not_lt_zero _)
 | sl q e _=>intro x j u hj h; obtain rfl := z hj; obtain ⟨A,c,rfl,-⟩ := h; rfl
 | pair a b ih1 ih2 =>
  intro x j u hj h
  simp only [Tp.size] at hj
  simp only [cellT] at h
  split at h
  ·rename_i hja; exact ih1 x.1 j hja h
  ·exact ih2 x.2 (j-a.size) (by omega) h
theorem K2q {τ:Tp} {n:Nat} (hn:Nat.beq n τ.size=true):EmbOk true τ (.cons (.agg n (τ.chainS .nil)) .nil) fun x=>(τ.chainD x .nil (),()) := by
 obtain rfl := nbeq hn
 intro x
 obtain ⟨c1,c2⟩ := Q6s τ x .nil () 0
 refine ⟨by show ((τ.chainS .nil).mk (τ.chainD x .nil ()) 0).2.1 ++ []=[]; rw [c1]; rfl,.agg τ.size (dl ((τ.chainS .nil).mk (τ.chainD x .nil ()) 0).1),rfl,fun b ρ O w v h => ?_⟩
 obtain ⟨cs,e,q1,q2⟩ := h
 refine ⟨cs,e,q1,fun j hj => ?_⟩
 have h2 := q2 j hj
 have e3:(dl ((τ.chainS .nil).mk (τ.chainD x .nil ()) 0).1 j).toV = .im (cellT τ x j) := by rw [c2 j,if_pos hj,Q6e τ x j hj]
 refine ⟨K2p τ x j hj h2,?_⟩
 show V.rel b ρ O w (dl ((τ.chainS .nil).mk (τ.chainD x .nil ()) 0).1 j).toV _
 rw [e3]
 exact h2
theorem K2r {P:Program} (hm:P.follows .mixedOrders=true) {fu:Nat} {s:Spo} {ash vsh:Sh} {emb:den s.τ→den ash.ty} {p:den ash.ty→Option (den Sh.nil.ty×den vsh.ty)} {c:DC} {N:Nat} (hb:BodyD P s.f N c.erase []) (hc:c.Good P true)
  (hw:(⟨s.f,ash,.nil,vsh,p⟩:Ent).wfD N=true) (hv:evF fu c [] N ash .nil vsh=p) (he:EmbOk s.ag s.τ ash emb) (ht:s.τ.tri=true) (hp:s.p=fun x=>(p (emb x)).isSome):s.Good P := by
 obtain ⟨fn,code,b1,b2,b3,rfl,b5,b6⟩ := hb
 unfold Ent.wfD at hw
 simp only [Bool.and_eq_true] at hw
 obtain ⟨hw,hl⟩ := hw
 have hw' := hw
 unfold Ent.wf at hw'
 simp only [Bool.and_eq_true] at hw'
 refine ⟨⟨fn,b1,b2,by rw [b3]; rfl⟩,fun x ok v w hpx hmo hsep hgl hs => ?_⟩
 rw [hp] at hpx
 obtain ⟨⟨y,r⟩,hpx⟩ := Option.isSome_iff_exists.1 hpx
 rw [← hv] at hpx
 unfold evF at hpx
 rw [Sh.normK_eq] at hpx
 obtain ⟨m1,d,md,mr⟩ := he x
 have c1 := Q0u ash (emb x) 0
 have n0:ash.cnt=0 := by
  have := congrArg List.length c1.2
  rw [m1] at this
  simpa using this.symm
 have e1:(⟨s.f,ash,.nil,vsh,p⟩:Ent).os (emb x)=[] := by unfold Ent.os; show List.map _ (ash.mk (emb x) 0).2.1=[]; rw [m1]; rfl
 have e2:(⟨s.f,ash,.nil,vsh,p⟩:Ent).args (emb x)=[d.toV] := by unfold Ent.args; show List.map _ (ash.mk (emb x) 0).1=_; rw [md]; rfl
 have hlen:1≤fn.ntmps := by
  have := Q4w ash (emb x) 0 hw'.1
  rw [md] at this
  have h2:ash.len≤fn.ntmps := nble hl
  simp at this
  omega
 let E:Env := ⟨w,fun _=>none,fun _=>none,fun q g k=>(q ≠ .new∧q ≠ .mid)∧g<w.heap.size∧spK ok q g k,fun g => ∃ k,ok .new g k⟩
 have hnow:∀ g k,¬ ownc (fun _=>none) (fun _=>none) g k := fun g k ⟨id,o,ho,_⟩=>by cases ho
 have hnow':∀ g,¬ own (fun _=>none) (fun _=>none) g := fun g ⟨id,o,ho,_⟩=>by cases ho
 have hE:KE 0 true E := ⟨fun _ _=>rfl,fun _=>⟨fun _=>rfl,fun g k hk=>hk.1.1 rfl,fun g k hk=>⟨hk.2.1,fun ⟨k',h'⟩=>hsep g k k' hk.2.2 h'⟩,fun g k hk=>(hk.1.2 rfl).elim⟩⟩
 have hEm:∀ g,E.mine g ↔ ∃ k,ok .new g k := fun g=>⟨fun h=>h.elim (fun h=>absurd h (hnow' g)) id,.inr⟩
 have up:∀ q g k,Qc.tri q=true→g<w.heap.size→ok q g k→okb E.b (fun _=>none) (fun _=>none) q g k := fun q g k hq hg hk=>by
  refine ⟨?_,hnow g k⟩
  cases q with
  | new=>exact .inr ⟨rfl,.inr (.inr ⟨k,hk⟩)⟩
  | any=>exact .inl ⟨⟨nofun,nofun⟩,hg,hk⟩
  | old=>exact .inl ⟨⟨nofun,nofun⟩,hg,hk⟩
  | mid=>cases hq
  | saf=>cases hq
 have hO:(st0 [] [d.toV] fn.ntmps).O=fun _=>none := funext fun k=>(Q8d [] k).trans (by simp)
 have rel0:Rel E (fun _=>none) (st0 [] [d.toV] fn.ntmps) { tmps := #[v] ++ Array.replicate (fn.ntmps-1) undef,defers := [] } w := by
  refine ⟨fun t => ?_,by simp [st0]; omega,fun id o ho=>(by rw [hO] at ho; cases ho),fun id o g ho=>(by rw [hO] at ho; cases ho),fun id id' o o' g k1=>(by rw [hO] at k1; cases k1),fun id hid=>(by rw [hO]),by rw [hO]; exact ExtE.refl,Nat.le_refl _,rfl,rfl,rfl,rfl,?_,⟨fun q g k hk=>⟨⟨nofun,nofun⟩,hk.2.1,by cases q <;> exact hmo.1 _ _ _ hk.2.2⟩,fun q g k hq hk=>⟨⟨nofun,nofun⟩,hk.2.1,by rcases hq with rfl | rfl <;> first | exact (hk.1.1 rfl).elim | exact hk.2.2⟩⟩⟩
  ·rw [hO]
   show (lk ([d.toV].zipIdx.map (fun p=>(p.2,p.1)) ++ _) t).rel _ _ _ _ _
   by_cases ht:t=0
   ·subst ht
    rw [Q8f [d.toV] 0 0 _ (Nat.zero_le _) (by simp)]
    have:(#[v] ++ Array.replicate (fn.ntmps-1) undef).getD 0 undef=v := by
     rw [Array.getD_eq_getD_getElem?,Array.getElem?_append_left (by simp)]
     rfl
    show V.rel _ _ _ _ d.toV _
    rw [this]
    exact mr _ _ _ _ _ (K2o up ht hs)
   ·rw [Q8e _ _ _ (fun p hp e=>by
     simp at hp
     subst hp
     exact ht e.symm)]
    rcases Q5y (l := (List.range (fn.ntmps-[d.toV].length)).map fun j=>([d.toV].length+j,V.im (.val undef))) (k := t) with e | e
    ·rw [e]; trivial
    ·obtain ⟨j,hj,e2⟩ := List.mem_map.1 e
     have e3 := congrArg Prod.snd e2
     simp only at e3
     rw [← e3]
     show _=undef
     rw [Array.getD_eq_getD_getElem?,Array.getElem?_append_right (by simp; omega),Array.getElem?_replicate]
     split <;> rfl
  ·rw [hO]
   refine ⟨fun p hp k z hz => ?_,fun p hp => ?_⟩
   ·obtain ⟨g1,g2⟩ := hgl.1 p hp k z hz
    exact ⟨up _ _ _ rfl (World.block_lt_of_cell? w _ g2) g1.1,g2⟩
   ·obtain ⟨ad,g1,g2⟩ := hgl.2 p hp
    exact ⟨ad,up _ _ _ rfl (World.block_lt_of_cell? w _ g2) g1.1,g2⟩
 obtain ⟨ρ1,hr'⟩ := Q8x (en := ⟨s.f,ash,.nil,vsh,p⟩) (x := emb x) hw'.1 hw'.2.1 (by rw [e1,e2]; exact rel0)
 refine calls_of_wp b1 b3 (wp_mono (Q8t hm (z := true) (σ := dst0 ash (emb x) fn.ntmps) hc b5 rfl (Nat.le_add_left _ _) (by rw [show (dst0 ash (emb x) fn.ntmps).m=0 from n0]; exact hE) hr' (Q8h (Q2e _) (Q2e _)) hpx) ?_)
 rintro e a' w' ⟨ax,σ',E1,ρ',rfl,⟨hi,hst,hE1⟩,hr2,hk⟩
 have hscr:Scrib (fun g k=>ok .new g k) w w' := by
  rcases hst with rfl | ⟨_,k1,k2,k3,k4,k5⟩
  ·exact ⟨hr2.bs,hr2.os,hr2.tape,hr2.output,fun g hg hk=>(hr2.ext.keep g hg fun hm=>by obtain ⟨k,h⟩ := (hEm g).1 hm; exact hk k h).1⟩
  ·refine ⟨Nat.le_trans k1 hr2.bs,hr2.os.trans k3,hr2.tape.trans k4,hr2.output.trans k5,fun g hg hk => ?_⟩
   obtain ⟨q1,q2⟩ := k2 g hg (fun hm=>by obtain ⟨k,h⟩ := (hEm g).1 hm; exact hk k h) fun k hk=>hk.1.2 rfl
   exact (hr2.ext.keep g (Nat.lt_of_lt_of_le hg k1) q2.1).1.trans q1
 have fin:a'.defers=[] ∧ ∃ v,(results fn a'.tmps).run P w' = .ok v w' ∧ ((∃ r,Ending.returned v = .returned r)∧Scrib (fun g k=>ok .new g k) w w') := by
  obtain ⟨z,hz,-⟩ := X1c (v := .tup 0 (lf [])) hr2 b6 rfl
  exact ⟨hr2.df,z,hz,⟨_,rfl⟩,hscr⟩
 cases ax with
 | exit id=>cases hk
 | normal=>exact fin
 | ret=>exact fin
theorem K2s {P:Program} (hm:P.follows .mixedOrders=true) {s:Spo} {ash vsh:Sh} {emb:den s.τ→den ash.ty} {p:den ash.ty→Option (den Sh.nil.ty×den vsh.ty)} {fn:Func} (h1:P.funcs[s.f]? = some fn) (fu:Nat) (hs:List (Nat×Hint)) (as:List (Nat×Ann)) (zs:List (Nat×ZK)) (N:Nat) {l:List Ent} (hl:AllGood P l)
  {ls:List Spo} (hs0:AllSpo P ls) (hemb:EmbOk s.ag s.τ ash emb) (hp:s.p=fun x=>(p (emb x)).isSome)
  (h2 : (fn.name == "runtime.NumGoroutine") = false := by kernel_rfl) (h3 : fn.ntmps = N := by kernel_rfl) (h5 : compRes P fn.results.toList = some [] := by kernel_rfl)
  (hq:(decFZ P fn N hs as zs).map DC.spos=some ls := by kernel_rfl)
  (he:(decFZ P fn N hs as zs).map DC.ents=some l := by kernel_rfl) (hw:(⟨s.f,ash,.nil,vsh,p⟩:Ent).wfD N=true := by kernel_rfl) (hv:(decFZ P fn N hs as zs).map (fun c=>evF fu c [] N ash .nil vsh)=some p := by kernel_rfl) (ht:s.τ.tri=true := by kernel_rfl):s.Good P := by
 cases hc:decFZ P fn N hs as zs with
 | none=>rw [hc] at he; cases he
 | some c =>
  rw [hc] at he hv hq
  unfold decFZ at hc
  cases ha:(fn.body.bind fun code=>compC P false N code) with
  | none=>rw [ha] at hc; cases hc
  | some ac =>
   rw [ha] at hc
   obtain ⟨c',o,hs',n,as',zs',e1,e2⟩ := X2m ac 0 hs 0 as zs _ hc
   obtain rfl:c' = c := Option.some.inj e2
   exact K2r hm (Q8u h1 h2 h3 (by rw [ha,e1]) h5) (DC.good_of (.inl rfl) (by rw [Option.some.inj he]; exact hl.mem) (by rw [Option.some.inj hq]; exact hs0.mem)) hw (Option.some.inj hv) hemb ht hp
end Go.Proofs.YtdkdhcakoccpfaaGreatDoor
