/-
  errors.As and errors.Is as entries: whether there is an error, and what it is.
-/
import Derived.Test.YtahamggipcikgaaDoorErs
import Derived.Test.YtahamggipcikgaaDoorDaL
namespace Go.Proofs.YtahamggipcikgaaDoor
open Go.RowKit
theorem gtab_err:(0,[Value.iface 132 (.agg #[.pointer (some ⟨1,77,none⟩)])]) ∈ gtab := by exact List.mem_cons_self ..
theorem lol_one {o:Ob} {k:Nat} {o':Ob} (h:lol [o] k=some o'):k=0∧o' = o := by
 cases k with
 | zero=>exact ⟨rfl,(Option.some.inj h).symm⟩
 | succ k=>simp [lol] at h
theorem as_args {vs:Array Value} (h:vs.size=2):vs = #[vs.getD 0 undef,vs.getD 1 undef] := by
 apply Array.ext
 ·simpa using h
 ·intro i hi1 hi2
  have hi:i<2 := by omega
  rcases i with _ | _ | i
  ·simp [Array.getD_eq_getD_getElem?,hi1]
  ·simp [Array.getD_eq_getD_getElem?,hi1]
  ·omega
theorem as_enters:Enters Tryd.prog 44 := ⟨_,Tryd.func44,by kernel_rfl,by kernel_rfl⟩
theorem alloc_at (w:World) (o:Obj) (j:Nat) (h:j<w.heap.size):(w.alloc o).heap[j]? = w.heap[j]? := by
 show (w.heap.push o)[j]? = _
 rw [Array.getElem?_push,if_neg (by omega)]
theorem alloc_sz (w:World) (o:Obj):(w.alloc o).heap.size=w.heap.size+1 := by
 show (w.heap.push o).size=_
 simp
theorem setCell_ne (w:World) (t:Addr) (v:Value) (j:Nat) (h:j ≠ t.block):(w.setCell t v).heap[j]? = w.heap[j]? := by
 show (w.heap.modify t.block _)[j]? = _
 rw [Array.getElem?_modify,if_neg (Ne.symm h)]
theorem setCell_eq (w:World) (g:Nat) (v:Value) (cs:Array Value) (el:TypeId) (h:w.heap[g]? = some (.cells cs el (0,0))):(w.setCell ⟨g,0,none⟩ v).heap[g]? = some (.cells (cs.setIfInBounds 0 v) el (0,0)) := by
 show (w.heap.modify g _)[g]? = _
 rw [Array.getElem?_modify,if_pos rfl,h]
 rfl
theorem setCell_sz (w:World) (t:Addr) (v:Value):(w.setCell t v).heap.size=w.heap.size := by
 show (w.heap.modify t.block _).size=_
 simp
section
variable {ok:Sees} {ρ:Pl} {w w':World} {f0 f1:Nat→V} {g:Nat}
theorem asM_own {f:Nat→V} (hρ:ρ 0=some g):own ρ (lol [.var 88 1 f]) g := ⟨0,_,rfl,rfl,hρ⟩
theorem asM_own_iff {f:Nat→V} {j:Nat} (hρ:ρ 0=some g) (h:own ρ (lol [.var 88 1 f]) j):j=g := by
 obtain ⟨id,o,h1,h2,h3⟩ := h
 obtain ⟨rfl,rfl⟩ := lol_one h1
 rw [hρ] at h3
 exact (Option.some.inj h3).symm
theorem asM_ext {cs cs':Array Value} (hρ:ρ 0=some g) (hold:∀ j,j<w.heap.size→j ≠ g→w'.heap[j]? = w.heap[j]?) (hat:w'.heap[g]? = some (.cells cs' 88 (0,0))) (hc:w.heap[g]? = some (.cells cs 88 (0,0))) (hs:cs'.size=cs.size) :
  Ext ρ (lol [.var 88 1 f0]) w ρ (lol [.var 88 1 f1]) w' := by
 refine ⟨fun j hj ho => ?_,fun j k hj ho => ?_,fun id o ho => ?_⟩
 ·have hne:j ≠ g := fun e=>ho (e ▸ asM_own hρ)
  exact ⟨hold j hj hne,fun k=>hne (asM_own_iff hρ k)⟩
 ·have hne:j ≠ g := fun e=>ho ⟨0,_,rfl,rfl,by rw [e]; exact hρ,Nat.zero_le _⟩
  exact ⟨look_of_block (hold j hj hne),fun k=>hne (asM_own_iff hρ (own_of_ownc k))⟩
 ·obtain ⟨rfl,rfl⟩ := lol_one ho
  refine ⟨_,rfl,Nat.le_refl _,fun _=>⟨rfl,⟨rfl,rfl⟩,fun g' cs1 e _ hg' hh => ?_⟩⟩
  rw [hρ] at hg'
  cases hg'
  rw [hc] at hh
  cases hh
  exact ⟨cs',hat,hs⟩
theorem asM_fin {cs cs':Array Value} {bb:Bool} {x:Value} (hρ:ρ 0=some g) (hz:w.heap.size≤w'.heap.size) (hold:∀ j,j<w.heap.size→j ≠ g→w'.heap[j]? = w.heap[j]?) (hat:w'.heap[g]? = some (.cells cs' 88 (0,0))) (hc:w.heap[g]? = some (.cells cs 88 (0,0))) (hs:cs'.size=cs.size) (h1:cs.size=1)
  (hx:x = .bool bb) (h2:(cs'.getD 0 undef).oneCell' = true) (h3:Ext ρ (lol [.var 88 1 f0]) w ρ (lol [.var 88 1 f1]) w' → (f1 0).rel (Env.b ⟨w,ρ,lol [.var 88 1 f0],ok,nobody⟩) ρ (lol [.var 88 1 f1]) w' (cs'.getD 0 undef)) (hos:w'.os=w.os) (ht:w'.tape=w.tape) (ho:w'.output=w.output) :
  ∃ ρ' y,Ending.returned x = .returned y∧([Ob.var 88 1 f1]:List Ob).length=([Ob.var 88 1 f0]:List Ob).length ∧
   (V.im (.val (.bool bb))).rel (Env.b ⟨w,ρ,lol [.var 88 1 f0],ok,nobody⟩) ρ' (lol ([.var 88 1 f1] ++ [])) w' y ∧
   (∀ k o,lol ([.var 88 1 f1] ++ []) k=some o→o.rel (Env.b ⟨w,ρ,lol [.var 88 1 f0],ok,nobody⟩) ρ' (lol ([.var 88 1 f1] ++ [])) w' (ρ' k)) ∧
   (∀ k o g,lol ([.var 88 1 f1] ++ []) k=some o→o.live=true→ρ' k=some g→(w.heap.size≤g ∨ own ρ (lol [.var 88 1 f0]) g)∧g<w'.heap.size) ∧
   (∀ k k' o o' g,lol ([.var 88 1 f1] ++ []) k=some o→lol ([.var 88 1 f1] ++ []) k' = some o' → o.live=true→o'.live=true→ρ' k=some g→ρ' k' = some g→k=k') ∧
   Ext ρ (lol [.var 88 1 f0]) w ρ' (lol ([.var 88 1 f1] ++ [])) w' ∧ w.heap.size≤w'.heap.size∧w'.os=w.os∧w'.tape=w.tape∧w'.output=w.output := by
 have ext:Ext ρ (lol [.var 88 1 f0]) w ρ (lol [.var 88 1 f1]) w' := asM_ext hρ hold hat hc hs
 refine ⟨ρ,x,rfl,rfl,hx,fun k o hk => ?_,fun k o g' hk _ hg' => ?_,fun k k' o o' g' hk hk' _ _ _ _ => ?_,ext,hz,hos,ht,ho⟩
 ·obtain ⟨rfl,rfl⟩ := lol_one hk
  refine ⟨g,cs',hρ,hat,by omega,fun j hj => ?_⟩
  obtain rfl:j=0 := by omega
  exact ⟨h2,h3 ext⟩
 ·obtain ⟨rfl,rfl⟩ := lol_one hk
  rw [hρ] at hg'
  cases hg'
  exact ⟨.inr (asM_own hρ),(Array.getElem?_eq_some_iff.1 hat).1⟩
 ·exact (lol_one hk).1.trans (lol_one hk').1.symm
end
theorem fcAsMNil {f0 f1:Nat→V} (e1:f1 0 = .im (.val (.pointer none))) (e0:f0 0 = .im (.val (.pointer none))) :
  FC Tryd.prog 44 [.var 88 1 f0] [.im (.val .nilIface),.ifc 90 (.ptr 0 0 0 0)] ⟨[.var 88 1 f1],[],.im (.val (.bool false))⟩ := by
 refine ⟨as_enters,fun ok ρ w vs _ hgl h1 h2 h3 h4 h5 => ?_⟩
 have k0:vs.getD 0 undef = .nilIface := h5 0 _ rfl
 obtain ⟨g,cs,q1,q2,q3,q4⟩ := h1 0 _ rfl
 rw [as_args h4,k0]
 refine (as_nil _ w).mono ?_
 rintro e w' ⟨rfl,rfl⟩
 refine asM_fin q1 (Nat.le_refl _) (fun _ _ _=>rfl) q2 q2 rfl q3 rfl (q4 0 (by omega)).1 (fun _ => ?_) rfl rfl rfl
 rw [e1]
 have := (q4 0 (by omega)).2
 rw [e0] at this
 exact this
theorem fcAsMHit {f0 f1:Nat→V} {r:Nat→Nat→T} (e1:f1 0 = .elem .any 2 1 r 0 0) :
  FC Tryd.prog 44 [.var 88 1 f0] [.ifc 88 (.elem .any 2 1 r 0 0),.ifc 90 (.ptr 0 0 0 0)] ⟨[.var 88 1 f1],[],.im (.val (.bool true))⟩ := by
 refine ⟨as_enters,fun ok ρ w vs _ hgl h1 h2 h3 h4 h5 => ?_⟩
 obtain ⟨u,k0,ad,rfl,_,hsp,hel⟩ := h5 0 _ rfl
 obtain ⟨u1,k1,a,o,rfl,ho,hv,hk⟩ := h5 1 _ rfl
 obtain ⟨-,rfl⟩ := lol_one ho
 obtain ⟨g,cs,q1,q2,q3,q4⟩ := h1 0 _ rfl
 obtain ⟨g',q1',rfl⟩ := hk rfl rfl
 rw [q1] at q1'
 cases q1'
 rw [as_args h4,k0,k1]
 have hcell:w.cell? ⟨g,0,none⟩=some (cs.getD 0 undef) := by
  rw [cell_of_row w g 0 cs 88 (0,0) q2]
  exact getD_some (by omega)
 have hfr:w.frozen? ⟨g,0,none⟩=false := by
  simp [World.frozen?,q2]
 have hg := (hgl.1 (0,_) gtab_err 0 _ rfl).2
 have hglt:g<w.heap.size := (Array.getElem?_eq_some_iff.1 q2).1
 refine (asM_hit (ad.add (0 * 2+0)) ⟨g,0,none⟩ _ w hg hcell hfr).mono ?_
 rintro e w' ⟨rfl,rfl⟩
 generalize hw1:w.alloc _=w1
 generalize hw2:w1.alloc _=w2
 generalize hw3:w2.alloc _=w3
 generalize hw4:w3.alloc _=w4
 have s1:w1.heap.size=w.heap.size+1 := by rw [← hw1,alloc_sz]
 have s2:w2.heap.size=w.heap.size+2 := by rw [← hw2,alloc_sz,s1]
 have s3:w3.heap.size=w.heap.size+3 := by rw [← hw3,alloc_sz,s2]
 have s4:w4.heap.size=w.heap.size+4 := by rw [← hw4,alloc_sz,s3]
 have hh:∀ j,j<w.heap.size→w4.heap[j]? = w.heap[j]? := fun j hj=>by
  rw [← hw4,alloc_at w3 _ j (by omega),← hw3,alloc_at w2 _ j (by omega),← hw2,alloc_at w1 _ j (by omega),← hw1,alloc_at w _ j hj]
 have hos:w4.os=w.os∧w4.tape=w.tape∧w4.output=w.output := by
  rw [← hw4,← hw3,← hw2,← hw1]; exact ⟨rfl,rfl,rfl⟩
 refine asM_fin q1 (by rw [setCell_sz]; omega) (fun j hj hne=>by rw [setCell_ne _ _ _ _ hne]; exact hh j hj) (setCell_eq w4 g _ cs 88 ((hh g hglt).trans q2)) q2 (by simp) q3 rfl ?_ (fun ext => ?_) hos.1 hos.2.1 hos.2.2
 ·simp [q3]
  rfl
 ·have hval:(cs.setIfInBounds 0 (.pointer (some (ad.add (0 * 2+0))))).getD 0 undef = .pointer (some (ad.add (0 * 2+0))) := by simp [q3]
  rw [hval,e1]
  refine ⟨ad,rfl,by omega,hsp,fun k hk => ?_⟩
  obtain ⟨o1,u,o2,o3,o4⟩ := hel k hk
  have hlt := World.block_lt_of_cell? w _ o2
  rw [block_add] at hlt
  obtain ⟨c1,c2⟩ := ext.cell ad.block _ hlt o1.1.2
  refine ⟨⟨⟨.inl o1.1.1,c2⟩,nofun⟩,u,cell_mono o2 (look_cell c1),o3,T.rel_mono (fun q2 g2 k2 hg2 hok => ?_) o4⟩
  obtain ⟨d1,d2⟩ := ext.cell g2 k2 hg2 hok.2
  exact ⟨d1,.inl hok.1,d2⟩
def lkM:Sh := .look (.cons (.hole (.int .i64)) (.cons (.hole (.int .i64)) .nil))
def aAsM:Sh := .cons (.alt false (.nilv 1) (.ifc 88 lkM)) (.cons (.ifc 90 (.box 88 1 (.cons .nilp .nil))) .nil)
def oAsM:Sh := .cons (.agg 1 (.cons (.alt false .nilp lkM) .nil)) .nil
def pAsM (_:Nat):(Bool×(Unit×(Int×(Int×Unit))))×(((Unit×Unit)×Unit))→Option ((((Bool×(Unit×(Int×(Int×Unit))))×Unit)×Unit)×Bool) := fun x=>some (((((x.1.1,(),x.1.2.2)),()),()),!x.1.1)
def eAsM (fu:Nat):Ent := ⟨44,aAsM,oAsM,.hole .bool,pAsM fu⟩
theorem gAsM (fu:Nat):(eAsM fu).Good Tryd.prog := by
 intro x y z hp
 obtain ⟨⟨b,⟨⟩,d1,d2,⟨⟩⟩,⟨⟨⟨⟩,⟨⟩⟩,⟨⟩⟩⟩ := x
 have hp':some ((((b,(),d1,d2,()),()),()),!b)=some (y,z) := hp
 have hq := Option.some.inj hp'
 obtain ⟨rfl,rfl⟩ := Prod.mk.inj hq
 cases b with
 | true=>exact fcAsMNil rfl rfl
 | false=>exact fcAsMHit rfl
end Go.Proofs.YtahamggipcikgaaDoor
