/-
  errors.As and errors.Is as entries: whether there is an error, and what it is.
-/
import Derived.Test.YtdkdhcakoccpfaaGreatDoorErs
import Derived.Test.YtdkdhcakoccpfaaGreatDoorDaL
namespace Go.Proofs.YtdkdhcakoccpfaaGreatDoor
open Go.RowKit
theorem X6d:(1,[Value.iface 149 (.agg #[.pointer (some ⟨3,84,none⟩)])]) ∈ gtab := by exact List.mem_cons_self ..
theorem Q3b {o:Ob} {k:Nat} {o':Ob} (h:lol [o] k=some o'):k=0∧o' = o := by
 cases k with
 | zero=>exact ⟨rfl,(Option.some.inj h).symm⟩
 | succ k=>simp [lol] at h
theorem Q4d {vs:Array Value} (h:vs.size=2):vs = #[vs.getD 0 undef,vs.getD 1 undef] := by
 apply Array.ext
 ·simpa using h
 ·intro i hi1 hi2
  have hi:i<2 := by omega
  rcases i with _ | _ | i
  ·simp [Array.getD_eq_getD_getElem?,hi1]
  ·simp [Array.getD_eq_getD_getElem?,hi1]
  ·omega
theorem X0p:Enters Tryz.prog 45 := ⟨_,Tryz.func45,by kernel_rfl,by kernel_rfl⟩
theorem Q3l (w:World) (o:Obj) (j:Nat) (h:j<w.heap.size):(w.alloc o).heap[j]? = w.heap[j]? := by
 show (w.heap.push o)[j]? = _
 rw [Array.getElem?_push,if_neg (by omega)]
theorem Q3m (w:World) (o:Obj):(w.alloc o).heap.size=w.heap.size+1 := by
 show (w.heap.push o).size=_
 simp
theorem K8q (w:World) (t:Addr) (v:Value) (j:Nat) (h:j ≠ t.block):(w.setCell t v).heap[j]? = w.heap[j]? := by
 show (w.heap.modify t.block _)[j]? = _
 rw [Array.getElem?_modify,if_neg (Ne.symm h)]
theorem K8r (w:World) (g:Nat) (v:Value) (cs:Array Value) (el:TypeId) (h:w.heap[g]? = some (.cells cs el (0,0))):(w.setCell ⟨g,0,none⟩ v).heap[g]? = some (.cells (cs.setIfInBounds 0 v) el (0,0)) := by
 show (w.heap.modify g _)[g]? = _
 rw [Array.getElem?_modify,if_pos rfl,h]
 rfl
theorem K8s (w:World) (t:Addr) (v:Value):(w.setCell t v).heap.size=w.heap.size := by
 show (w.heap.modify t.block _).size=_
 simp
section
variable {ok:Sees} {ρ:Pl} {w w':World} {f0 f1:Nat→V} {g:Nat}
theorem X6e {f:Nat→V} (hρ:ρ 0=some g):own ρ (lol [.var 86 1 f]) g := ⟨0,_,rfl,rfl,hρ⟩
theorem X6f {f:Nat→V} {j:Nat} (hρ:ρ 0=some g) (h:own ρ (lol [.var 86 1 f]) j):j=g := by
 obtain ⟨id,o,h1,h2,h3⟩ := h
 obtain ⟨rfl,rfl⟩ := Q3b h1
 rw [hρ] at h3
 exact (Option.some.inj h3).symm
theorem K8t {cs cs':Array Value} (hρ:ρ 0=some g) (hold:∀ j,j<w.heap.size→j ≠ g→w'.heap[j]? = w.heap[j]?) (hat:w'.heap[g]? = some (.cells cs' 86 (0,0))) (hc:w.heap[g]? = some (.cells cs 86 (0,0))) (hs:cs'.size=cs.size) :
  Ext ρ (lol [.var 86 1 f0]) w ρ (lol [.var 86 1 f1]) w' := by
 refine ⟨fun j hj ho => ?_,fun j k hj ho => ?_,fun id o ho => ?_⟩
 ·have hne:j ≠ g := fun e=>ho (e ▸ X6e hρ)
  exact ⟨hold j hj hne,fun k=>hne (X6f hρ k)⟩
 ·have hne:j ≠ g := fun e=>ho ⟨0,_,rfl,rfl,by rw [e]; exact hρ,Nat.zero_le _⟩
  exact ⟨Q2n (hold j hj hne),fun k=>hne (X6f hρ (Q1k k))⟩
 ·obtain ⟨rfl,rfl⟩ := Q3b ho
  refine ⟨_,rfl,Nat.le_refl _,fun _=>⟨rfl,⟨rfl,rfl⟩,fun g' cs1 e _ hg' hh => ?_⟩⟩
  rw [hρ] at hg'
  cases hg'
  rw [hc] at hh
  cases hh
  exact ⟨cs',hat,hs⟩
theorem X0q {cs cs':Array Value} {bb:Bool} {x:Value} (hρ:ρ 0=some g) (hz:w.heap.size≤w'.heap.size) (hold:∀ j,j<w.heap.size→j ≠ g→w'.heap[j]? = w.heap[j]?) (hat:w'.heap[g]? = some (.cells cs' 86 (0,0))) (hc:w.heap[g]? = some (.cells cs 86 (0,0))) (hs:cs'.size=cs.size) (h1:cs.size=1)
  (hx:x = .bool bb) (h2:(cs'.getD 0 undef).oneCell' = true) (h3:Ext ρ (lol [.var 86 1 f0]) w ρ (lol [.var 86 1 f1]) w' → (f1 0).rel (Env.b ⟨w,ρ,lol [.var 86 1 f0],ok,nobody⟩) ρ (lol [.var 86 1 f1]) w' (cs'.getD 0 undef)) (hos:w'.os=w.os) (ht:w'.tape=w.tape) (ho:w'.output=w.output) :
  ∃ ρ' y,Ending.returned x = .returned y∧([Ob.var 86 1 f1]:List Ob).length=([Ob.var 86 1 f0]:List Ob).length ∧
   (V.im (.val (.bool bb))).rel (Env.b ⟨w,ρ,lol [.var 86 1 f0],ok,nobody⟩) ρ' (lol ([.var 86 1 f1] ++ [])) w' y ∧
   (∀ k o,lol ([.var 86 1 f1] ++ []) k=some o→o.rel (Env.b ⟨w,ρ,lol [.var 86 1 f0],ok,nobody⟩) ρ' (lol ([.var 86 1 f1] ++ [])) w' (ρ' k)) ∧
   (∀ k o g,lol ([.var 86 1 f1] ++ []) k=some o→o.live=true→ρ' k=some g→(w.heap.size≤g ∨ own ρ (lol [.var 86 1 f0]) g)∧g<w'.heap.size) ∧
   (∀ k k' o o' g,lol ([.var 86 1 f1] ++ []) k=some o→lol ([.var 86 1 f1] ++ []) k' = some o' → o.live=true→o'.live=true→ρ' k=some g→ρ' k' = some g→k=k') ∧
   Ext ρ (lol [.var 86 1 f0]) w ρ' (lol ([.var 86 1 f1] ++ [])) w' ∧ w.heap.size≤w'.heap.size∧w'.os=w.os∧w'.tape=w.tape∧w'.output=w.output := by
 have ext:Ext ρ (lol [.var 86 1 f0]) w ρ (lol [.var 86 1 f1]) w' := K8t hρ hold hat hc hs
 refine ⟨ρ,x,rfl,rfl,hx,fun k o hk => ?_,fun k o g' hk _ hg' => ?_,fun k k' o o' g' hk hk' _ _ _ _ => ?_,ext,hz,hos,ht,ho⟩
 ·obtain ⟨rfl,rfl⟩ := Q3b hk
  refine ⟨g,cs',hρ,hat,by omega,fun j hj => ?_⟩
  obtain rfl:j=0 := by omega
  exact ⟨h2,h3 ext⟩
 ·obtain ⟨rfl,rfl⟩ := Q3b hk
  rw [hρ] at hg'
  cases hg'
  exact ⟨.inr (X6e hρ),(Array.getElem?_eq_some_iff.1 hat).1⟩
 ·exact (Q3b hk).1.trans (Q3b hk').1.symm
end
theorem K8u {f0 f1:Nat→V} (e1:f1 0 = .im (.val (.pointer none))) (e0:f0 0 = .im (.val (.pointer none))) :
  FC Tryz.prog 45 [.var 86 1 f0] [.im (.val .nilIface),.ifc 89 (.ptr 0 0 0 0)] ⟨[.var 86 1 f1],[],.im (.val (.bool false))⟩ := by
 refine ⟨X0p,fun ok ρ w vs _ hgl h1 h2 h3 h4 h5 => ?_⟩
 have k0:vs.getD 0 undef = .nilIface := h5 0 _ rfl
 obtain ⟨g,cs,q1,q2,q3,q4⟩ := h1 0 _ rfl
 rw [Q4d h4,k0]
 refine (K8k _ w).mono ?_
 rintro e w' ⟨rfl,rfl⟩
 refine X0q q1 (Nat.le_refl _) (fun _ _ _=>rfl) q2 q2 rfl q3 rfl (q4 0 (by omega)).1 (fun _ => ?_) rfl rfl rfl
 rw [e1]
 have := (q4 0 (by omega)).2
 rw [e0] at this
 exact this
theorem K8v {f0 f1:Nat→V} {r:Nat→Nat→T} (e1:f1 0 = .elem .any 2 1 r 0 0) :
  FC Tryz.prog 45 [.var 86 1 f0] [.ifc 86 (.elem .any 2 1 r 0 0),.ifc 89 (.ptr 0 0 0 0)] ⟨[.var 86 1 f1],[],.im (.val (.bool true))⟩ := by
 refine ⟨X0p,fun ok ρ w vs _ hgl h1 h2 h3 h4 h5 => ?_⟩
 obtain ⟨u,k0,ad,rfl,_,hsp,hel⟩ := h5 0 _ rfl
 obtain ⟨u1,k1,a,o,rfl,ho,hv,hk⟩ := h5 1 _ rfl
 obtain ⟨-,rfl⟩ := Q3b ho
 obtain ⟨g,cs,q1,q2,q3,q4⟩ := h1 0 _ rfl
 obtain ⟨g',q1',rfl⟩ := hk rfl rfl
 rw [q1] at q1'
 cases q1'
 rw [Q4d h4,k0,k1]
 have hcell:w.cell? ⟨g,0,none⟩=some (cs.getD 0 undef) := by
  rw [cell_of_row w g 0 cs 86 (0,0) q2]
  exact getD_some (by omega)
 have hfr:w.frozen? ⟨g,0,none⟩=false := by
  simp [World.frozen?,q2]
 have hg := (hgl.1 (1,_) X6d 0 _ rfl).2
 have hglt:g<w.heap.size := (Array.getElem?_eq_some_iff.1 q2).1
 refine (K8l (ad.add (0 * 2+0)) ⟨g,0,none⟩ _ w hg hcell hfr).mono ?_
 rintro e w' ⟨rfl,rfl⟩
 generalize hw1:w.alloc _=w1
 generalize hw2:w1.alloc _=w2
 generalize hw3:w2.alloc _=w3
 generalize hw4:w3.alloc _=w4
 have s1:w1.heap.size=w.heap.size+1 := by rw [← hw1,Q3m]
 have s2:w2.heap.size=w.heap.size+2 := by rw [← hw2,Q3m,s1]
 have s3:w3.heap.size=w.heap.size+3 := by rw [← hw3,Q3m,s2]
 have s4:w4.heap.size=w.heap.size+4 := by rw [← hw4,Q3m,s3]
 have hh:∀ j,j<w.heap.size→w4.heap[j]? = w.heap[j]? := fun j hj=>by
  rw [← hw4,Q3l w3 _ j (by omega),← hw3,Q3l w2 _ j (by omega),← hw2,Q3l w1 _ j (by omega),← hw1,Q3l w _ j hj]
 have hos:w4.os=w.os∧w4.tape=w.tape∧w4.output=w.output := by
  rw [← hw4,← hw3,← hw2,← hw1]; exact ⟨rfl,rfl,rfl⟩
 refine X0q q1 (by rw [K8s]; omega) (fun j hj hne=>by rw [K8q _ _ _ _ hne]; exact hh j hj) (K8r w4 g _ cs 86 ((hh g hglt).trans q2)) q2 (by simp) q3 rfl ?_ (fun ext => ?_) hos.1 hos.2.1 hos.2.2
 ·simp [q3]
  rfl
 ·have hval:(cs.setIfInBounds 0 (.pointer (some (ad.add (0 * 2+0))))).getD 0 undef = .pointer (some (ad.add (0 * 2+0))) := by simp [q3]
  rw [hval,e1]
  refine ⟨ad,rfl,by omega,hsp,fun k hk => ?_⟩
  obtain ⟨o1,u,o2,o3,o4⟩ := hel k hk
  have hlt := World.block_lt_of_cell? w _ o2
  rw [Q0r] at hlt
  obtain ⟨c1,c2⟩ := ext.cell ad.block _ hlt o1.1.2
  refine ⟨⟨⟨.inl o1.1.1,c2⟩,nofun⟩,u,Q2o o2 (Q1s c1),o3,T.rel_mono (fun q2 g2 k2 hg2 hok => ?_) o4⟩
  obtain ⟨d1,d2⟩ := ext.cell g2 k2 hg2 hok.2
  exact ⟨d1,.inl hok.1,d2⟩
theorem K8w {f0 f1:Nat→V} (e1:f1 0 = .im (.val (.pointer none))) (e0:f0 0 = .im (.val (.pointer none))) :
  FC Tryz.prog 45 [.var 86 1 f0] [.im (.glo 0 181),.ifc 89 (.ptr 0 0 0 0)] ⟨[.var 86 1 f1],[],.im (.val (.bool false))⟩ := by
 refine ⟨X0p,fun ok ρ w vs _ hgl h1 h2 h3 h4 h5 => ?_⟩
 obtain ⟨-,-,ea,k0⟩ := h5 0 _ rfl
 obtain ⟨u1,k1,a,o,rfl,ho,hv,hk⟩ := h5 1 _ rfl
 obtain ⟨-,rfl⟩ := Q3b ho
 obtain ⟨g,cs,q1,q2,q3,q4⟩ := h1 0 _ rfl
 obtain ⟨g',q1',rfl⟩ := hk rfl rfl
 rw [q1] at q1'
 cases q1'
 rw [Q4d h4,k0,k1]
 have hg := (hgl.1 (1,_) X6d 0 _ rfl).2
 have hglt:g<w.heap.size := (Array.getElem?_eq_some_iff.1 q2).1
 refine (K8m ea ⟨g,0,none⟩ w hg).mono ?_
 rintro e w' ⟨rfl,rfl⟩
 generalize hw1:w.alloc _=w1
 generalize hw2:w1.alloc _=w2
 generalize hw3:w2.alloc _=w3
 have s1:w1.heap.size=w.heap.size+1 := by rw [← hw1,Q3m]
 have s2:w2.heap.size=w.heap.size+2 := by rw [← hw2,Q3m,s1]
 have s3:w3.heap.size=w.heap.size+3 := by rw [← hw3,Q3m,s2]
 have hh:∀ j,j<w.heap.size→w3.heap[j]? = w.heap[j]? := fun j hj=>by
  rw [← hw3,Q3l w2 _ j (by omega),← hw2,Q3l w1 _ j (by omega),← hw1,Q3l w _ j hj]
 have hos:w3.os=w.os∧w3.tape=w.tape∧w3.output=w.output := by
  rw [← hw3,← hw2,← hw1]; exact ⟨rfl,rfl,rfl⟩
 refine X0q q1 (by omega) (fun j hj _=>hh j hj) ((hh g hglt).trans q2) q2 rfl q3 rfl (q4 0 (by omega)).1 (fun _ => ?_) hos.1 hos.2.1 hos.2.2
 rw [e1]
 have := (q4 0 (by omega)).2
 rw [e0] at this
 exact this
def lkR:Sh := .look (.cons (.hole .str) (.cons (.hole (.int .i64)) .nil))
def aAsR:Sh := .cons (.alt false (.nilv 1) (.alt false (.ifc 86 lkR) (.cst 0 181))) (.cons (.ifc 89 (.box 86 1 (.cons .nilp .nil))) .nil)
def oAsR:Sh := .cons (.agg 1 (.cons (.alt false .nilp lkR) .nil)) .nil
def pAsR (_:Nat):(Bool×(Unit×(Bool×((ByteArray×(Int×Unit))×Unit))))×(((Unit×Unit)×Unit))→Option ((((Bool×(Unit×(ByteArray×(Int×Unit))))×Unit)×Unit)×Bool) := fun x=>some (((((!(!x.1.1 && x.1.2.2.1),(),x.1.2.2.2.1)),()),()),!x.1.1 && x.1.2.2.1)
def eAsR (fu:Nat):Ent := ⟨45,aAsR,oAsR,.hole .bool,pAsR fu⟩
theorem gAsR (fu:Nat):(eAsR fu).Good Tryz.prog := by
 intro x y z hp
 obtain ⟨⟨b,⟨⟩,c,⟨d1,d2,⟨⟩⟩,⟨⟩⟩,⟨⟨⟨⟩,⟨⟩⟩,⟨⟩⟩⟩ := x
 have hp':some ((((!(!b && c),(),d1,d2,()),()),()),!b && c)=some (y,z) := hp
 have hq := Option.some.inj hp'
 obtain ⟨rfl,rfl⟩ := Prod.mk.inj hq
 cases b with
 | true=>exact K8u rfl rfl
 | false =>
  cases c with
  | true=>exact K8v rfl
  | false=>exact K8w rfl rfl
theorem X0r:Enters Tryz.prog 44 := ⟨_,Tryz.func44,by kernel_rfl,by kernel_rfl⟩
theorem X0s {P:Program} {f:FuncId} {args:List V} {bb:Bool} (he:Enters P f)
  (h:∀ (ok:Sees) (ρ:Pl) (w:World) (vs:Array Value),Glb ok ρ (lol []) w→vs.size=args.length→(∀ (j:Nat) (v:V),args[j]? = some v→v.rel ok ρ (lol []) w (vs.getD j undef)) →
   Calls P f vs w fun e w' => e = .returned (.bool bb)∧w' = w):FC P f [] args ⟨[],[],.im (.val (.bool bb))⟩ := by
 refine ⟨he,fun ok ρ w vs _ hgl h1 h2 h3 h4 h5=>(h ok ρ w vs hgl h4 h5).mono ?_⟩
 rintro e w' ⟨rfl,rfl⟩
 exact ⟨ρ,_,rfl,rfl,rfl,fun k o hk=>by simp [lol] at hk,fun k o g hk=>by simp [lol] at hk,fun k k' o o' g hk=>by simp [lol] at hk,Ext.refl,Nat.le_refl _,rfl,rfl,rfl⟩
theorem K8x:FC Tryz.prog 44 [] [.im (.val .nilIface),.im (.glo 0 181)] ⟨[],[],.im (.val (.bool false))⟩ :=
 X0s X0r fun ok ρ w vs hgl h4 h5=>by
  have k0:vs.getD 0 undef = .nilIface := h5 0 _ rfl
  obtain ⟨-,-,b,k1⟩ := h5 1 _ rfl
  rw [Q4d h4,k0,k1]
  exact K8n b w
theorem K8y:FC Tryz.prog 44 [] [.im (.glo 0 181),.im (.glo 0 181)] ⟨[],[],.im (.val (.bool true))⟩ :=
 X0s X0r fun ok ρ w vs hgl h4 h5=>by
  obtain ⟨-,c0,b0,k0⟩ := h5 0 _ rfl
  obtain ⟨-,c1,b1,k1⟩ := h5 1 _ rfl
  have e:vs.getD 0 undef=vs.getD 1 undef := Option.some.inj (c0.symm.trans c1)
  rw [Q4d h4,e,k1]
  exact K8o b1 w
theorem K8z {r:Nat→Nat→T} {z:Int} (hr:r 0 1 = .val (.int .i64 z)):FC Tryz.prog 44 [] [.ifc 86 (.elem .any 2 1 r 0 0),.im (.glo 0 181)] ⟨[],[],.im (.val (.bool false))⟩ :=
 X0s X0r fun ok ρ w vs hgl h4 h5=>by
  obtain ⟨u,k0,ad,rfl,_,hsp,hel⟩ := h5 0 _ rfl
  obtain ⟨-,-,b,k1⟩ := h5 1 _ rfl
  rw [Q4d h4,k0,k1]
  obtain ⟨_,u,hu,_,hv⟩ := hel 1 (by omega)
  rw [hr] at hv
  have hv':u = .int .i64 z := hv
  rw [hv'] at hu
  obtain ⟨pb,po,sp⟩ := ad
  obtain rfl:sp=none := hsp
  refine K8p pb (po+(0 * 2+0)) b z w ?_
  rw [← hu]
  simp [Addr.add]
def pIs (_:Nat):(Bool×(Unit×(Bool×((ByteArray×(Int×Unit))×Unit))))×(Unit×Unit)→Option (Unit×Bool) := fun x=>some ((),!x.1.1 && !x.1.2.2.1)
def eIs (fu:Nat):Ent := ⟨44,.cons (.alt false (.nilv 1) (.alt false (.ifc 86 lkR) (.cst 0 181))) (.cons (.cst 0 181) .nil),.nil,.hole .bool,pIs fu⟩
theorem gIs (fu:Nat):(eIs fu).Good Tryz.prog := by
 intro x y z hp
 obtain ⟨⟨b,⟨⟩,c,⟨d1,d2,⟨⟩⟩,⟨⟩⟩,⟨⟨⟩,⟨⟩⟩⟩ := x
 have hp':some ((),!b && !c)=some (y,z) := hp
 have hq := Option.some.inj hp'
 obtain ⟨rfl,rfl⟩ := Prod.mk.inj hq
 cases b with
 | true=>exact K8x
 | false =>
  cases c with
  | true=>exact K8z (z := d2) rfl
  | false=>exact K8y
end Go.Proofs.YtdkdhcakoccpfaaGreatDoor
