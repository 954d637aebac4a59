/-
  beats.Pack: its entry.
-/
import Derived.Maps.OwnOps
import Derived.WideKeyEntry
import Derived.Maps.AppendAt
import Derived.OwnWalk
import Derived.Test.YtahamggipcikgaaDoorChecked
import Derived.Test.YtahamggipcikgaaDoorTrG
import Derived.Test.YtahamggipcikgaaDoorPtB
import Derived.Test.YtahamggipcikgaaDoorTrY
import Derived.WalkKit
import Derived.Maps.RangeWalk
namespace Go.Proofs.YtahamggipcikgaaDoor
open Go.RowKit
section
abbrev pkB:TypeId := 73
abbrev pkM:TypeId := 71
abbrev pkS:TypeId := 26
abbrev pkW:TypeId := 44
def bxK (a b:Int):Value := .agg #[.int .i64 a,.int .i64 b]
theorem bx_check (em:Bool) (a b:Int) (w:World):(Instr.checkKey em 10000 pkB (bxK a b)).run Tryd.prog w = .ok () w := by kernel_rfl
theorem bx_un:Tryd.prog.underlying pkB=some (.struct (Tryd.prog.fieldsOf pkB)) := by kernel_rfl
theorem bx_held:Tryd.prog.stoodInHeld pkB=false := by kernel_rfl
theorem bx_kinds:kindsWith Tryd.prog (subKinds Tryd.prog 4) 0 (Tryd.prog.fieldsOf pkB).toList=some [.int,.int] := by kernel_rfl
theorem bx_eq (a b c d:Int) (w:World):(Op.equal pkB (bxK a b) (bxK c d)).run Tryd.prog w = .ok ((a==c) && (b==d)) w := by
 have hq := run_equalIn_struct w 9999 pkB #[.int .i64 a,.int .i64 b] #[.int .i64 c,.int .i64 d] bx_un bx_held
 rw [run_fields w (d := 9998) (r := (a==c) && (b==d)) (sub_ok w 4 9994) bx_kinds (by simp [cellsEq,kdEq])] at hq
 exact hq
theorem bx_bits (a b:Int):Instr.sameBits 10000 (bxK a b) (bxK a b)=true := by
 simp [Instr.sameBits,bxK]
theorem bx_stays (a b:Int) (w:World):(Instr.keyThatStays (bxK a b) (bxK a b)).run Tryd.prog w = .ok (bxK a b) w := by
 simp [Instr.keyThatStays,bx_bits]
theorem bx_inj {a b c d:Int} (h:bxK a b=bxK c d):a=c∧b=d := by
 simpa [bxK] using h
theorem bx_ask (a b:Int) (w:World):∀ (es:List MapEntry) (i:Nat),(∀ e ∈ es,∃ c d,e.key=bxK c d) →
  ((Instr.findAsking pkB (bxK a b) es i).run Tryd.prog w = .ok none w ∧ ∀ e ∈ es,e.key ≠ bxK a b) ∨ ∃ j e,(Instr.findAsking pkB (bxK a b) es i).run Tryd.prog w = .ok (some (i+j,e.val)) w∧es[j]? = some e∧e.key=bxK a b
 | [],i,_ => .inl ⟨by simp [Instr.findAsking],by simp⟩
 | e :: es,i,h=>by
  obtain ⟨c,d,hk⟩ := h e (by simp)
  simp only [Instr.findAsking,Sem.run_bind,hk,bx_eq,Result.andThen_ok]
  by_cases hh:a=c∧b=d
  ·refine .inr ⟨0,e,?_,rfl,by rw [hk,hh.1,hh.2]⟩
   simp [hh.1,hh.2]
  ·have hf:((a==c) && (b==d))=false := by
    cases hx:((a==c) && (b==d)) with
    | false=>rfl
    | true=>exact absurd (by simpa using hx) hh
   rw [hf]
   rcases bx_ask a b w es (i+1) (fun e he=>h e (by simp [he])) with ⟨h1,h2⟩ | ⟨j,e',h1,h2,h3⟩
   ·refine .inl ⟨by simpa using h1,fun e' he => ?_⟩
    rcases List.mem_cons.1 he with rfl | he
    ·rw [hk]; exact fun q=>hh ⟨(bx_inj q).1.symm,(bx_inj q).2.symm⟩
    ·exact h2 e' he
   ·exact .inr ⟨j+1,e',by simpa [Nat.add_assoc,Nat.add_comm 1] using h1,by simpa using h2,h3⟩
theorem bx_find (a b:Int) (w:World) (es:List MapEntry) (h:∀ e ∈ es,∃ c d,e.key=bxK c d) :
  ((Instr.findKey pkB (bxK a b) es).run Tryd.prog w = .ok none w ∧ ∀ e ∈ es,e.key ≠ bxK a b) ∨ ∃ j e,(Instr.findKey pkB (bxK a b) es).run Tryd.prog w = .ok (some (j,e.val)) w∧es[j]? = some e∧e.key=bxK a b := by
 have e0 := run_findKey_eq (P := Tryd.prog) w (k := pkB) (by rw [bx_un]) (bxK a b) es
 rw [e0]
 rcases bx_ask a b w es 0 h with h | ⟨j,e,h1,h2⟩
 ·exact .inl h
 ·exact .inr ⟨j,e,by simpa using h1,h2⟩
theorem pkUM:Tryd.prog.underlying pkM=some (.map pkB pkS) := Tryd.underlying71
theorem pkUS:Tryd.prog.underlying pkS=some (.slice pkW) := Tryd.underlying26
theorem pkZS:(Tryd.prog.info? pkS).map (fun i=>i.zero)=some (some (.slice none 0 0)) := by kernel_rfl
def Grp (w:World) (base g:Nat) (cw:Nat→List Value) (F:Int→Int→List Nat):Prop :=
 ∃ es:Array MapEntry,w.heap[g]? = some (.map es es.size)∧g<base ∧
  (∀ (i:Nat) (e:MapEntry),es[i]? = some e→e.born=i ∧ ∃ a b,e.key=bxK a b∧w.ownsRow base pkW 15 e.val (F a b).length ((F a b).flatMap cw)) ∧
  (∀ (i j:Nat) (a b:MapEntry),es[i]? = some a→es[j]? = some b→i ≠ j→a.key ≠ b.key∧(a.val.ownBlock=none ∨ a.val.ownBlock ≠ b.val.ownBlock)) ∧
  ∀ a b,F a b ≠ [] → ∃ (i:Nat) (e:MapEntry),es[i]? = some e∧e.key=bxK a b
section
variable {w w1:World} {base g:Nat} {cw:Nat→List Value} {F:Int→Int→List Nat}
theorem Grp.lt (h:Grp w base g cw F):g<w.heap.size := by
 obtain ⟨es,h1,_⟩ := h
 exact (Array.getElem?_eq_some_iff.1 h1).1
theorem Grp.made (w:World) (base:Nat) (cw:Nat→List Value) (hb:w.heap.size<base):Grp (w.alloc (.map #[] 0)) base w.heap.size cw fun _ _=>[] :=
 ⟨#[],by show (w.heap.push _)[w.heap.size]? = _; simp,hb,fun i e h=>by simp at h,fun i j a b h=>by simp at h,fun a b h=>absurd rfl h⟩
theorem Grp.kept {row:Option Nat} (h:Grp w base g cw F) (hg:w.grownBy w1 row) (hr:∀ r,row=some r→r<base∧r ≠ g):Grp w1 base g cw F := by
 have hl := h.lt
 obtain ⟨es,h1,h3,h4,h5,h6⟩ := h
 refine ⟨es,(hg.block g hl (fun e=>(hr g e.symm).2 rfl)).trans h1,h3,fun i e hi => ?_,h5,h6⟩
 obtain ⟨q2,a,b,q1,q3⟩ := h4 i e hi
 refine ⟨q2,a,b,q1,q3.kept hg ?_⟩
 cases hb:e.val.ownBlock with
 | none=>exact .inl rfl
 | some b =>
  refine .inr fun e1 => ?_
  have := (q3.lt b hb).1
  have := (hr b e1.symm).1
  omega
theorem Grp.later (h:Grp w base g cw F) (hb:Below w.heap.size w w1):Grp w1 base g cw F := h.kept (row := none) ⟨hb.os,hb.tape,hb.output,hb.size,fun k hk _=>hb.block k hk⟩ (by simp)
theorem Below_put {B:Nat} {w w':World} {a:Addr} (h:Below B w w') (ha:B≤a.block) (u:Value):Below B w (w'.setCell a u) :=
 ⟨h.os,h.tape,h.output,by show _≤(w'.heap.modify a.block _).size; simpa using h.size,fun k hk=>(Below.heap_setCell w' a u k (by omega)).trans (h.block k hk)⟩
theorem grp_keys {es:Array MapEntry} (h4:∀ (i:Nat) (e:MapEntry),es[i]? = some e→e.born=i ∧ ∃ a b,e.key=bxK a b∧w.ownsRow base pkW 15 e.val (F a b).length ((F a b).flatMap cw)):∀ e ∈ es.toList,∃ c d,e.key=bxK c d := fun e he=>by
 obtain ⟨i,hi⟩ := List.getElem?_of_mem he
 obtain ⟨_,a,b,q,_⟩ := h4 i e (by simpa using hi)
 exact ⟨a,b,q⟩
theorem grp_look (h:Grp w base g cw F) (a b:Int):∃ v,(Instr.lookup pkM (.map (some g)) (bxK a b) false).run Tryd.prog w = .ok v w∧w.ownsRow base pkW 15 v (F a b).length ((F a b).flatMap cw) := by
 obtain ⟨es,h1,h3,h4,h5,h6⟩ := h
 obtain ⟨i0,hi0,hz0⟩ := Option.map_eq_some_iff.1 pkZS
 have hc := bx_check es.isEmpty a b w
 rcases bx_find a b w es.toList (grp_keys h4) with ⟨f1,f2⟩ | ⟨j,e,f1,f2,f3⟩
 ·have hF:F a b=[] := by
   cases hx:F a b with
   | nil=>rfl
   | cons x l =>
    obtain ⟨i,e,hi,hk⟩ := h6 a b (by rw [hx]; simp)
    exact absurd hk (f2 e (List.mem_of_getElem? (by simpa using hi)))
  refine ⟨.slice none 0 0,?_,by rw [hF]; exact World.ownsRow_nil _ _ _ _⟩
  simp only [Instr.lookup,Sem.run_bind,run_underlying pkUM,MapKept.run_getObj_map h1,Result.andThen,hc,f1,run_zero hi0 hz0,Sem.run_pure]
  rfl
 ·obtain ⟨_,c,d,q1,q2⟩ := h4 j e (by simpa using f2)
  obtain ⟨rfl,rfl⟩ := bx_inj (q1.symm.trans f3)
  refine ⟨e.val,?_,q2⟩
  simp only [Instr.lookup,Sem.run_bind,run_underlying pkUM,MapKept.run_getObj_map h1,Result.andThen,hc,f1,Sem.run_pure]
  rfl
theorem grp_heap {es:Array MapEntry} (hb:w1.heap[g]? = some (.map es es.size)) (o:Obj):{ w1 with heap := w1.heap.setIfInBounds g o }.heap[g]? = some o∧w1.grownBy { w1 with heap := w1.heap.setIfInBounds g o } (some g) := by
 have hset := MapKept.heap_set (o' := o) hb
 exact ⟨hset.1,⟨rfl,rfl,rfl,by simp,fun k _ hk=>hset.2 k fun e=>hk (by rw [e])⟩⟩
theorem grp_store {es:Array MapEntry} {j:Nat} {e0:MapEntry} {a b:Int} (h3:g<base)
  (h4:∀ (i:Nat) (e:MapEntry),es[i]? = some e→e.born=i ∧ ∃ a b,e.key=bxK a b∧w.ownsRow base pkW 15 e.val (F a b).length ((F a b).flatMap cw))
  (h5:∀ (i j:Nat) (a b:MapEntry),es[i]? = some a→es[j]? = some b→i ≠ j→a.key ≠ b.key∧(a.val.ownBlock=none ∨ a.val.ownBlock ≠ b.val.ownBlock))
  (h6:∀ a b,F a b ≠ [] → ∃ (i:Nat) (e:MapEntry),es[i]? = some e∧e.key=bxK a b)
  (hj:es[j]? = some e0) (hk:e0.key=bxK a b) (hb:w.heap[g]? = some (.map es es.size)) :
  ∀ (w2:World) (v':Value) (F':Int→Int→List Nat),w.grownBy w2 e0.val.ownBlock→w2.ownsRow base pkW 15 v' (F' a b).length ((F' a b).flatMap cw)→(v'.ownBlock=e0.val.ownBlock ∨ ∃ q,v'.ownBlock=some q∧w.heap.size≤q)→(∀ c d,¬ (c=a∧d=b)→F' c d=F c d) →
   ∃ w3,(Instr.entryStore pkM (.map (some g)) (goInt j) v').run Tryd.prog w2 = .ok () w3∧Grp w3 base g cw F' ∧ w2.grownBy w3 (some g) := by
 intro w2 v' F' hg ho hloc hF
 have hgl:g<w.heap.size := (Array.getElem?_eq_some_iff.1 hb).1
 obtain ⟨b0,a',b',k0,r0⟩ := h4 j e0 hj
 have hb2:w2.heap[g]? = some (.map es es.size) := (hg.block g hgl (fun e=>by
  have := (r0.lt g e.symm).1
  omega)).trans hb
 have hn:(es.toList.map (·.born)).Nodup := by
  have:es.toList.map (·.born)=List.range es.size := by
   apply List.ext_getElem?
   intro k
   rw [List.getElem?_map]
   by_cases hk:k<es.size
   ·rw [List.getElem?_range hk,Array.getElem?_toList,Array.getElem?_eq_getElem hk]
    simp only [Option.map_some,(h4 k es[k] (by simp [hk])).1]
   ·rw [List.getElem?_eq_none (by simpa using hk),List.getElem?_eq_none (by simpa using hk)]
    rfl
  rw [this]
  exact List.nodup_range
 have hidx:es.findIdx? (fun e=>((e.born:Nat):Int)==((j:Nat):Int))=some j := by
  rw [WideElems.findIdx_arr]
  have := WideElems.findIdx_born hn (j := j) (e0 := e0) (by simpa using hj)
  rw [b0] at this
  exact this
 refine ⟨{ w2 with heap := w2.heap.setIfInBounds g (.map (es.modify j fun e => { e with val := v' }) (es.modify j fun e => { e with val := v' }).size) },?_,?_,(grp_heap hb2 _).2⟩
 ·simp [Instr.entryStore,MapKept.run_getObj_map hb2,asInt,asIntOf,goInt,hidx,MapKept.run_setObj_map _ hb2,Result.andThen]
 ·have hgr := (grp_heap hb2 (.map (es.modify j fun e => { e with val := v' }) (es.modify j fun e => { e with val := v' }).size)).2
  have key:∀ (i:Nat) (e:MapEntry),(es.modify j fun e => { e with val := v' })[i]? = some e→(i=j∧e = { e0 with val := v' }) ∨ (i ≠ j∧es[i]? = some e) := fun i e hi=>by
   rw [Array.getElem?_modify] at hi
   by_cases hij:j=i
   ·subst hij
    rw [if_pos rfl,hj] at hi
    exact .inl ⟨rfl,(Option.some.inj hi).symm⟩
   ·rw [if_neg hij] at hi
    exact .inr ⟨fun q=>hij q.symm,hi⟩
  have apart:∀ (i:Nat) (e:MapEntry),es[i]? = some e→i ≠ j→e.val.ownBlock=none ∨ e.val.ownBlock ≠ v'.ownBlock := fun i e he hij=>by
   rcases hloc with q | ⟨y,q,q'⟩
   ·rw [q]; exact (h5 i j e e0 he hj hij).2
   ·cases hx:e.val.ownBlock with
    | none=>exact .inl rfl
    | some x =>
     obtain ⟨_,_,_,_,r⟩ := h4 i e he
     have := (r.lt x hx).2
     rw [q]
     exact .inr (fun e1=>by cases e1; omega)
  refine ⟨_,(grp_heap hb2 _).1,h3,fun i e hi => ?_,fun i i' x y hi hi' hne => ?_,fun c d hcd => ?_⟩
  ·rcases key i e hi with ⟨rfl,rfl⟩ | ⟨hne,hi'⟩
   ·refine ⟨b0,a,b,hk,ho.kept hgr ?_⟩
    cases hx:v'.ownBlock with
    | none=>exact .inl rfl
    | some x =>
     refine .inr fun e1 => ?_
     have := (ho.lt x hx).1
     cases e1
     omega
   ·obtain ⟨q1,c,d,q2,q3⟩ := h4 i e hi'
    have hcd:¬ (c=a∧d=b) := fun ⟨e1,e2⟩=>(h5 i j e e0 hi' hj hne).1 (by rw [q2,hk,e1,e2])
    refine ⟨q1,c,d,q2,?_⟩
    rw [hF c d hcd]
    refine (q3.kept hg (h5 i j e e0 hi' hj hne).2).kept hgr ?_
    cases hx:e.val.ownBlock with
    | none=>exact .inl rfl
    | some x =>
     refine .inr fun e1 => ?_
     have := (q3.lt x hx).1
     cases e1
     omega
  ·rcases key i x hi with ⟨rfl,rfl⟩ | ⟨h1,h2⟩
   ·rcases key i' y hi' with ⟨rfl,rfl⟩ | ⟨h1',h2'⟩
    ·exact absurd rfl hne
    ·refine ⟨(h5 _ _ _ _ hj h2' hne).1,?_⟩
     rcases apart i' y h2' h1' with q | q
     ·cases hx:v'.ownBlock with
      | none=>exact .inl rfl
      | some z =>
       rw [q]; exact .inr (by simp)
     ·exact .inr (fun e=>q e.symm)
   ·rcases key i' y hi' with ⟨rfl,rfl⟩ | ⟨h1',h2'⟩
    ·exact ⟨(h5 _ _ _ _ h2 hj hne).1,apart i x h2 h1⟩
    ·exact h5 _ _ _ _ h2 h2' hne
  ·by_cases hcd':c=a∧d=b
   ·obtain ⟨rfl,rfl⟩ := hcd'
    exact ⟨j,{ e0 with val := v' },by rw [Array.getElem?_modify,if_pos rfl,hj]; rfl,hk⟩
   ·rw [hF c d hcd'] at hcd
    obtain ⟨i,e,hi,hke⟩ := h6 c d hcd
    by_cases hij:i=j
    ·subst hij
     rw [hj] at hi; cases hi
     exact absurd (bx_inj (hke.symm.trans hk)) hcd'
    ·exact ⟨i,e,by rw [Array.getElem?_modify,if_neg (fun q=>hij q.symm)]; exact hi,hke⟩
theorem grp_entry (h:Grp w base g cw F) (a b:Int):∃ (v:Value) (j:Nat) (w1:World),(Instr.mapEntry pkM (.map (some g)) (bxK a b)).run Tryd.prog w = .ok (.tuple #[v,goInt j]) w1∧w.grownBy w1 (some g)∧w1.heap.size=w.heap.size ∧
  w1.ownsRow base pkW 15 v (F a b).length ((F a b).flatMap cw) ∧
  ∀ (w2:World) (v':Value) (F':Int→Int→List Nat),w1.grownBy w2 v.ownBlock→w2.ownsRow base pkW 15 v' (F' a b).length ((F' a b).flatMap cw)→(v'.ownBlock=v.ownBlock ∨ ∃ q,v'.ownBlock=some q∧w1.heap.size≤q)→(∀ c d,¬ (c=a∧d=b)→F' c d=F c d) →
   ∃ w3,(Instr.entryStore pkM (.map (some g)) (goInt j) v').run Tryd.prog w2 = .ok () w3∧Grp w3 base g cw F' ∧ w2.grownBy w3 (some g) := by
 obtain ⟨es,h1,h3,h4,h5,h6⟩ := h
 obtain ⟨i0,hi0,hz0⟩ := Option.map_eq_some_iff.1 pkZS
 have hc := bx_check false a b w
 rcases bx_find a b w es.toList (grp_keys h4) with ⟨f1,f2⟩ | ⟨j,e,f1,f2,f3⟩
 ·have hF:F a b=[] := by
   cases hx:F a b with
   | nil=>rfl
   | cons x l =>
    obtain ⟨i,e,hi,hk⟩ := h6 a b (by rw [hx]; simp)
    exact absurd hk (f2 e (List.mem_of_getElem? (by simpa using hi)))
  have hp:(es.push ⟨bxK a b,.slice none 0 0,es.size⟩).size=es.size+1 := by simp
  have hgr := grp_heap h1 (.map (es.push ⟨bxK a b,.slice none 0 0,es.size⟩) (es.size+1))
  have at':∀ (i:Nat) (e:MapEntry),(es.push ⟨bxK a b,.slice none 0 0,es.size⟩)[i]? = some e→es[i]? = some e ∨ (i=es.size∧e=⟨bxK a b,.slice none 0 0,es.size⟩) := fun i e hi=>by
   rw [Array.getElem?_push] at hi
   split at hi
   ·rename_i q; exact .inr ⟨q,(Option.some.inj hi).symm⟩
   ·exact .inl hi
  have no:∀ (i:Nat) (e:MapEntry),es[i]? = some e→e.key ≠ bxK a b := fun i e hi=>f2 e (List.mem_of_getElem? (by simpa using hi))
  refine ⟨.slice none 0 0,es.size,_,?_,hgr.2,by simp,by rw [hF]; exact World.ownsRow_nil _ _ _ _,grp_store (e0 := ⟨bxK a b,.slice none 0 0,es.size⟩) (es := es.push ⟨bxK a b,.slice none 0 0,es.size⟩) h3 (fun i e hi => ?_) (fun i i' x y hi hi' hne => ?_) (fun c d hcd => ?_) (by simp) rfl (by rw [hp]; exact hgr.1)⟩
  ·simp [Instr.mapEntry,run_underlying pkUM,MapKept.run_getObj_map h1,hc,f1,run_zero hi0 hz0,MapKept.run_setObj_map _ h1,Result.andThen]
  ·rcases at' i e hi with q | ⟨rfl,rfl⟩
   ·obtain ⟨r1,c,d,r2,r3⟩ := h4 i e q
    refine ⟨r1,c,d,r2,r3.kept hgr.2 ?_⟩
    cases hx:e.val.ownBlock with
    | none=>exact .inl rfl
    | some x =>
     refine .inr fun e1 => ?_
     have := (r3.lt x hx).1
     cases e1
     omega
   ·exact ⟨rfl,a,b,rfl,by rw [hF]; exact World.ownsRow_nil _ _ _ _⟩
  ·rcases at' i x hi with q | ⟨rfl,rfl⟩
   ·rcases at' i' y hi' with q' | ⟨rfl,rfl⟩
    ·exact h5 _ _ _ _ q q' hne
    ·refine ⟨no _ _ q,?_⟩
     show x.val.ownBlock=none ∨ x.val.ownBlock ≠ none
     cases x.val.ownBlock <;> simp
   ·rcases at' i' y hi' with q' | ⟨rfl,rfl⟩
    ·exact ⟨fun e=>no _ _ q' e.symm,.inl rfl⟩
    ·exact absurd rfl hne
  ·obtain ⟨i,e,hi,hk⟩ := h6 c d hcd
   exact ⟨i,e,by rw [Array.getElem?_push,if_neg (by have := (Array.getElem?_eq_some_iff.1 hi).1; omega)]; exact hi,hk⟩
 ·have hj:es[j]? = some e := by simpa using f2
  obtain ⟨q0,c,d,q1,q2⟩ := h4 j e hj
  obtain ⟨rfl,rfl⟩ := bx_inj (q1.symm.trans f3)
  have hsame:es.modify j (fun e => { e with key := bxK c d })=es := by
   apply Array.ext_getElem?
   intro i
   rw [Array.getElem?_modify]
   by_cases hij:j=i
   ·subst hij
    rw [if_pos rfl,hj]
    simp only [Option.map_some,Option.some.injEq]
    rw [← f3]
   ·rw [if_neg hij]
  have hgr := grp_heap h1 (.map es es.size)
  have hq:{ w with heap := w.heap.setIfInBounds g (.map es es.size) }.ownsRow base pkW 15 e.val (F c d).length ((F c d).flatMap cw) := q2.kept hgr.2 (by
   cases hx:e.val.ownBlock with
   | none=>exact .inl rfl
   | some x =>
    refine .inr fun e1 => ?_
    have := (q2.lt x hx).1
    cases e1
    omega)
  refine ⟨e.val,j,_,?_,hgr.2,by simp,hq,grp_store (e0 := e) h3 (fun i e' hi => ?_) h5 h6 hj f3 hgr.1⟩
  ·simp [Instr.mapEntry,run_underlying pkUM,MapKept.run_getObj_map h1,hc,f1,hj,f3,bx_stays,hsame,q0,MapKept.run_setObj_map _ h1,Result.andThen]
  ·obtain ⟨r1,c',d',r2,r3⟩ := h4 i e' hi
   refine ⟨r1,c',d',r2,r3.kept hgr.2 ?_⟩
   cases hx:e'.val.ownBlock with
   | none=>exact .inl rfl
   | some x =>
    refine .inr fun e1 => ?_
    have := (r3.lt x hx).1
    cases e1
    omega
end
end
section
abbrev pkT:Tp := Bq.T_beats_Wire
abbrev pkP:TypeId := 24
abbrev WR := den pkT
def msgZ (x:WR):Bq.Z0 := (x.2.1,x.2.2.1,x.2.2.2.1,x.2.2.2.2.1,x.2.2.2.2.2.1,x.2.2.2.2.2.2.1,x.2.2.2.2.2.2.2.1,x.2.2.2.2.2.2.2.2.1,x.2.2.2.2.2.2.2.2.2.1,x.2.2.2.2.2.2.2.2.2.2.1,x.2.2.2.2.2.2.2.2.2.2.2.1.1,x.2.2.2.2.2.2.2.2.2.2.2.1.2,x.2.2.2.2.2.2.2.2.2.2.2.2.1,x.2.2.2.2.2.2.2.2.2.2.2.2.2,())
def isBq (x:WR):Bool := match Bq.p32 0 (msgZ x,()) with | some y=>y.2 | none=>false
theorem isBq_is (fu:Nat) (x:WR):Bq.p32 fu (msgZ x,())=some ((),isBq x) := by
 have key:∀ (c1 i j0 nn a5 a6 c0 h0:Bool),∃ b,orK (E := (Bool×Unit)×Unit) (R := Unit×Bool) (bif c1 then (bif !i then (bif j0 then some (.inl ((!nn,()),())) else some (.inl ((false,()),()))) else some (.inl ((false,()),()))) else some (.inl ((false,()),())))
   (fun ⟨⟨o,_⟩,_⟩=>bif a5 then some ((),o) else bif a6 then bif o then bif c0 then some ((),h0) else some ((),false) else some ((),false) else some ((),false))=some ((),b) := by
  intro c1 i j0 nn a5 a6 c0 h0
  cases c1 <;> cases i <;> cases j0 <;> cases nn <;> cases a5 <;> cases a6 <;> cases c0 <;> exact ⟨_,rfl⟩
 have h:∃ b,Bq.p32 0 (msgZ x,())=some ((),b) := key _ _ _ _ _ _ _ _
 obtain ⟨b,hb⟩ := h
 have e:Bq.p32 fu=Bq.p32 0 := rfl
 unfold isBq
 rw [e,hb]
def kindq (x:WR):Int := bif isBq x then 2 else 1
def toq (x:WR):Int := x.2.2.2.1
def selq (l:List WR) (a b:Int):List WR := l.filter fun x=>toq x==a && kindq x==b
abbrev PKT := Int×(Int×(Int×List Int))
def stepq (fu:Nat) (fr:Int) (l:List WR) (k:Int×Int):Option (List PKT) :=
 bif (selq l k.1 k.2).isEmpty then some [] else (Bq.p33 fu (k.2,selq l k.1 k.2,())).map fun y=>[(fr,k.1,k.2,y.2)]
def keysq:List (Int×Int) := [(0,2),(0,1),(1,2),(1,1),(2,2),(2,1),(3,2),(3,1),(4,2),(4,1),(5,2),(5,1),(6,2),(6,1),(7,2),(7,1)]
def packsq (fu:Nat) (fr:Int) (l:List WR) (ks:List (Int×Int)):Option (List PKT) := ks.foldl (fun acc k=>acc.bind fun ps=>(stepq fu fr l k).map (ps ++ ·)) (some [])
def pPack (fu:Nat):Int×(List WR×Unit)→Option (Unit×(List PKT×(Int×Unit))) := fun x =>
 bif decide (x.2.1.length≤1048576) then (Bq.p31 fu (x.1,x.2.1,())).bind fun e=>bif e.2 != 0 then some ((),[],e.2,()) else (packsq fu x.1 x.2.1 keysq).map fun ps=>((),ps,0,())
 else none
abbrev pkK:Tp := Bq.T_api_Packet
def ePack (fu:Nat):Ent := ⟨11,.cons (.hole (.int .i64)) (.cons (.hole (.sl .any pkT)) .nil),.nil,.tup 2 (.cons (.own .own pkP pkK) (.cons (.hole (.int .i64)) .nil)),pPack fu⟩
theorem GlW.below {w W:World} (h:GlW w) (hb:Below w.heap.size w W):GlW W :=
 ⟨fun p hp k v hv=>(World.cell?_of_block (hb.block p.1 (World.block_lt_of_cell? w _ (h.1 p hp k v hv)))).trans (h.1 p hp k v hv),fun p hp=>by
  obtain ⟨a,ha⟩ := h.2 p hp
  exact ⟨a,(World.cell?_of_block (hb.block p.1 (World.block_lt_of_cell? w _ ha))).trans ha⟩⟩
theorem GlW.of_glb {ok:Sees} {ρ:Pl} {O:Ow} {w:World} (h:Glb ok ρ O w):GlW w :=
 ⟨fun p hp k v hv=>(h.1 p hp k v hv).2,fun p hp=>by
  obtain ⟨a,_,ha⟩ := h.2 p hp
  exact ⟨a,ha⟩⟩
theorem fc_at {P:Program} {f:FuncId} {args:List V} {new:List Ob} {v:V} (h:FC P f [] args ⟨[],new,v⟩) (W:World) (vs:Array Value) (hs:vs.size=args.length)
  (hv:∀ (j:Nat) (u:V),args[j]? = some u→u.rel (fun _ b _=>b<W.heap.size) (fun _=>none) (lol []) W (vs.getD j undef)) (hgl:GlW W) :
  Calls P f vs W fun e w' => ∃ ρ' x,e = .returned x∧Below W.heap.size W w' ∧ v.rel (Env.b ⟨W,fun _=>none,lol [],fun _ b _=>b<W.heap.size,nobody⟩) ρ' (lol new) w' x∧(∀ k o,lol new k=some o→o.rel (Env.b ⟨W,fun _=>none,lol [],fun _ b _=>b<W.heap.size,nobody⟩) ρ' (lol new) w' (ρ' k)) ∧
   ∀ k o g,lol new k=some o→o.live=true→ρ' k=some g→W.heap.size≤g∧g<w'.heap.size := by
 refine (h.2 (fun _ b _=>b<W.heap.size) (fun _=>none) W vs (fun _ _ _ h=>h) hgl.glb (fun k o hk=>by simp [lol] at hk) (fun k o g hk=>by simp [lol] at hk) (fun k k' o o' g hk=>by simp [lol] at hk) hs hv).mono ?_
 rintro e w' ⟨ρ',x,rfl,_,hx,hob,hhi,_,hE,hz,h1,h2,h3⟩
 have no:∀ g,¬ own (fun _=>none) (lol []) g := fun g ⟨id,o,ho,_⟩=>by simp [lol] at ho
 refine ⟨ρ',x,rfl,⟨h1,h2,h3,hz,fun k hk=>(hE.keep k hk (no k)).1⟩,hx,hob,fun k o g hk hl hg => ?_⟩
 ·obtain ⟨h4,h5⟩ := hhi k o g hk hl hg
  rcases h4 with h4 | h4
  ·exact ⟨h4,h5⟩
  ·exact absurd h4 (no g)
section
variable {w:World} {l:List WR} {A:Option Addr} {n c:Nat}
abbrev allB (w:World):Sees := fun _ b _=>b<w.heap.size
theorem okb_all (w:World) {q:Qc} {g k:Nat} (h:g<w.heap.size):okb (allB w) (fun _=>none) (lol []) q g k := ⟨h,fun ⟨id,o,ho,_⟩=>by simp [lol] at ho⟩
theorem seeT {τ:T} {x:Value} (h:τ.rel (allB w) w x):τ.rel (okb (allB w) (fun _=>none) (lol [])) w x := T.rel_mono (fun _ _ _ hg _=>⟨rfl,okb_all w hg⟩) h
theorem call_refuses {fu:Nat} {fr e:Int} (hgl:GlW w) (hT:(T.sl .any 15 l.length (rowsT pkT l)).rel (allB w) w (.slice A n c)) (hp:Bq.p31 fu (fr,l,())=some ((),e)) :
  Calls Tryd.prog 31 #[.int .i64 fr,.slice A n c] w fun e' w' => e' = .returned (.int .i64 e)∧Below w.heap.size w w' := by
 have hg := Bq.g31 fu (fr,l,()) () e hp
 refine (fc_at hg w #[.int .i64 fr,.slice A n c] rfl (fun j u hu => ?_) hgl).mono ?_
 ·rcases j with _ | _ | j
  ·cases hu
   exact (rfl:(Value.int .i64 fr)=_)
  ·cases hu
   exact seeT hT
  ·cases hu
 ·rintro e' w' ⟨ρ',x,rfl,hb,hx,_,_⟩
  exact ⟨by rw [show x = .int .i64 e from hx],hb⟩
theorem call_is {x:WR} {cs:Nat→Value} (hgl:GlW w) (hc:∀ j,j<15→(cs j).oneCell' = true∧(cellT pkT x j).rel (allB w) w (cs j)) :
  Calls Tryd.prog 32 #[.agg #[cs 1,cs 2,cs 3,cs 4,cs 5,cs 6,cs 7,cs 8,cs 9,cs 10,cs 11,cs 12,cs 13,cs 14]] w fun e' w' => e' = .returned (.bool (isBq x))∧Below w.heap.size w w' := by
 have hg := Bq.g32 0 (msgZ x,()) () (isBq x) (isBq_is 0 x)
 refine (fc_at hg w _ rfl (fun j u hu => ?_) hgl).mono ?_
 ·rcases j with _ | j
  ·cases hu
   refine ⟨_,rfl,rfl,fun j hj => ?_⟩
   have := hc (j+1) (by omega)
   rcases j with _ | _ | _ | _ | _ | _ | _ | _ | _ | _ | _ | _ | _ | _ | j
   all_goals first | exact ⟨this.1,seeT this.2⟩ | omega
  ·cases hu
 ·rintro e' w' ⟨ρ',y,rfl,hb,hx,_,_⟩
  exact ⟨by rw [show y = .bool (isBq x) from hx],hb⟩
def BytesAt (ok:Nat→Nat→Prop) (w:World) (bs:List Int) (x:Value):Prop := (cellT (.sl .any (.int .u8)) bs 0).rel (fun q g k=>q = .any∧ok g k) w x
theorem call_write {fu:Nat} {k:Int} {bs:List Int} {x:Value} (hgl:GlW w) (hT:(T.sl .any 15 l.length (rowsT pkT l)).rel (allB w) w x) (hp:Bq.p33 fu (k,l,())=some ((),bs)) :
  Calls Tryd.prog 33 #[.int .i64 k,x] w fun e' w' => ∃ ya yc,e' = .returned (.slice ya bs.length yc)∧BytesAt (fun g _=>w.heap.size≤g∧g<w'.heap.size) w' bs (.slice ya bs.length yc)∧Below w.heap.size w w' := by
 have hg := Bq.g33 fu (k,l,()) () bs hp
 refine (fc_at hg w #[.int .i64 k,x] rfl (fun j u hu => ?_) hgl).mono ?_
 ·rcases j with _ | _ | j
  ·cases hu
   exact (rfl:(Value.int .i64 k)=_)
  ·cases hu
   exact seeT hT
  ·cases hu
 ·rintro e' w' ⟨ρ',y,rfl,hb,hx,hob,hhi⟩
  obtain ⟨A',c',o,rfl,hlc,ho,hv,hk⟩ := hx
  have ho1:o = .arr .own 5 1 0 bs.length (rowsT (.int .u8) bs) := (Option.some.inj (ho.symm.trans rfl))
  subst ho1
  obtain ⟨zz,e,size,n',f,h1,h2,h3⟩ := hk rfl
  cases h1
  refine ⟨_,_,rfl,?_,hb⟩
  refine ⟨A',c',rfl,hlc,fun i j hi hj => ?_⟩
  rcases h3 with ⟨q1,q2,q3,q4⟩ | ⟨g,cs,q1,q2,q3,q4⟩
  ·omega
  ·replace q1:ρ' 0=some g := q1
   rcases hob 0 _ ho with ⟨r1,r2⟩ | ⟨g',cs',cap,r1,r2,r3,r4,r5,r6⟩
   ·rw [q1] at r1; cases r1
   ·rw [q1] at r1; cases r1
    rw [q3] at r2; cases r2
    have hj0:j=0 := Nat.lt_one_iff.1 hj
    subst hj0
    obtain ⟨s1,s2⟩ := r6 i 0 hi hj
    have hge := hhi 0 _ g ho rfl q1
    refine ⟨⟨g,0,none⟩,cs.getD (i * 1+0) undef,by rw [q2 (.inr rfl)],⟨⟨rfl,hge⟩,nofun⟩,?_,s1,?_⟩
    ·show w'.cell? ((⟨g,0,none⟩:Addr).add (i * 1+0))=_
     rw [Addr.add_lit]
     have:i * 1+0<cs.size := by
      have r3':cs.size=cap * 1 := r3
      omega
     have hi':i<cs.size := by omega
     simp [World.cell?,q3,hi']
    ·exact s2
end
end
section
abbrev wr0:WR := dflt pkT
section
variable (l:List WR)
def FF (k:Nat) (a b:Int):List Nat := (List.range k).filter fun i=>toq (l.getD i wr0)==a && kindq (l.getD i wr0)==b
theorem FF_succ (k:Nat) (a b:Int):FF l (k+1) a b=if toq (l.getD k wr0)=a∧kindq (l.getD k wr0)=b then FF l k a b ++ [k] else FF l k a b := by
 unfold FF
 rw [List.range_succ,List.filter_append]
 by_cases h:toq (l.getD k wr0)=a∧kindq (l.getD k wr0)=b
 ·rw [if_pos h,List.filter_cons_of_pos (by simp only [h.1,h.2,beq_self_eq_true,Bool.and_self]),List.filter_nil]
 ·rw [if_neg h]
  have:(toq (l.getD k wr0)==a && kindq (l.getD k wr0)==b)=false := by
   cases hx:(toq (l.getD k wr0)==a && kindq (l.getD k wr0)==b) with
   | false=>rfl
   | true=>exact absurd (by simpa using hx) h
  rw [List.filter_cons_of_neg (by rw [this]; simp),List.filter_nil,List.append_nil]
theorem FF_lt {k:Nat} {a b:Int}:∀ i ∈ FF l k a b,i<k := fun _ hi=>List.mem_range.1 (List.mem_filter.1 hi).1
theorem FF_len (k:Nat) (a b:Int):(FF l k a b).length≤k := by
 have := List.length_filter_le (fun i=>toq (l.getD i wr0)==a && kindq (l.getD i wr0)==b) (List.range k)
 rw [List.length_range] at this
 exact this
theorem map_range:(List.range l.length).map (fun i=>l.getD i wr0)=l := by
 apply List.ext_getElem?
 intro i
 rw [List.getElem?_map]
 by_cases h:i<l.length
 ·rw [List.getElem?_range h,List.getElem?_eq_getElem h]
  simp only [Option.map_some,List.getD_eq_getElem?_getD,List.getElem?_eq_getElem h,Option.getD_some]
 ·rw [List.getElem?_eq_none (by simpa using h),List.getElem?_eq_none (by simpa using h)]
  rfl
theorem FF_all (a b:Int):(FF l l.length a b).map (fun i=>l.getD i wr0)=selq l a b := by
 unfold FF selq
 conv=>rhs; rw [← map_range l]
 rw [List.filter_map]
 rfl
end
section
theorem fl_at {α:Type} {s:Nat} (f:Nat→List α) (hf:∀ i,(f i).length=s):∀ (idx:List Nat) (i j:Nat),i<idx.length→j<s→(idx.flatMap f)[i * s+j]? = (f (idx.getD i 0))[j]?
 | [],i,j,h,_=>by simp at h
 | k :: idx,0,j,_,hj=>by
  rw [List.flatMap_cons,Nat.zero_mul,Nat.zero_add,List.getElem?_append_left (by rw [hf]; exact hj)]
  rfl
 | k :: idx,i+1,j,h,hj=>by
  rw [List.flatMap_cons,List.getElem?_append_right (by rw [hf,Nat.succ_mul]; omega),hf]
  have:(i+1) * s+j-s=i * s+j := by rw [Nat.succ_mul]; omega
  rw [this,fl_at f hf idx i j (by simpa using h) hj]
  rfl
variable {w:World} {l:List WR} {A:Option Addr} {n c:Nat}
def csAt (w:World) (A:Option Addr) (i j:Nat):Value := match A with
 | some ad=>(w.cell? (ad.add (i * 15+j))).getD undef
 | none=>undef
def cwAt (w:World) (A:Option Addr) (i:Nat):List Value := (List.range 15).map (csAt w A i)
theorem cwAt_len (w:World) (A:Option Addr) (i:Nat):(cwAt w A i).length=15 := by simp [cwAt]
theorem cells15 (hT:(T.sl .any 15 l.length (rowsT pkT l)).rel (allB w) w (.slice A n c)) {k:Nat} (hk:k<l.length) :
  ∃ b off,A=some ⟨b,off,none⟩∧b<w.heap.size∧(∀ j,j<15→w.cell? ⟨b,off+k * 15+j,none⟩=some (csAt w A k j)) ∧ ∀ j,j<15→(csAt w A k j).oneCell' = true∧(cellT pkT (l.getD k wr0) j).rel (allB w) w (csAt w A k j) := by
 obtain ⟨A',c',e0,hn,hf⟩ := hT
 cases e0
 obtain ⟨ad,u,hA,-,hc,-,-⟩ := hf 0 0 (by omega) (by omega)
 have e1 := cell_addr hc
 have ea:ad=⟨ad.block,ad.off,none⟩ := by
  rw [block_add,off_add] at e1
  exact e1
 subst hA
 refine ⟨ad.block,ad.off,by rw [← ea],by have := World.block_lt_of_cell? w _ hc; rwa [block_add] at this,fun j hj => ?_,fun j hj => ?_⟩
 ·obtain ⟨ad',u',hA',-,hc',-,-⟩ := hf k j hk hj
  cases hA'
  have:csAt w (some ad) k j=u' := by simp [csAt,hc']
  rw [this,Nat.add_assoc]
  rw [ea,Addr.add_lit] at hc'
  exact hc'
 ·obtain ⟨ad',u',hA',-,hc',h1,hr⟩ := hf k j hk hj
  cases hA'
  have:csAt w (some ad) k j=u' := by simp [csAt,hc']
  rw [this]
  exact ⟨h1,hr⟩
theorem row_data {w1:World} {base:Nat} {v:Value} {idx:List Nat} (hT:(T.sl .any 15 l.length (rowsT pkT l)).rel (allB w) w (.slice A n c)) (hi:∀ i ∈ idx,i<l.length) (hb:Below w.heap.size w w1)
  (ho:w1.ownsRow base pkW 15 v idx.length (idx.flatMap (cwAt w A))):(T.sl .any 15 (idx.map fun i=>l.getD i wr0).length (rowsT pkT (idx.map fun i=>l.getD i wr0))).rel (allB w1) w1 v := by
 rw [List.length_map]
 rcases ho.2 with ⟨q,q'⟩ | ⟨g,cap,cur,q,q1,q2,q3,q4,q5,q6⟩
 ·exact ⟨none,0,by rw [q,q'],by omega,fun i j hi' _=>by omega⟩
 ·refine ⟨_,cap,q,q3,fun i j hi' hj => ?_⟩
  have hg:(idx.flatMap (cwAt w A))[i * 15+j]? = some (csAt w A (idx.getD i 0) j) := by
   rw [fl_at (cwAt w A) (cwAt_len w A) idx i j hi' hj]
   simp [cwAt,hj]
  have hm:idx.getD i 0<l.length := hi _ (by rw [List.getD_eq_getElem?_getD,List.getElem?_eq_getElem hi']; exact List.getElem_mem hi')
  obtain ⟨b,off,hA,hbl,hc,hr⟩ := cells15 hT hm
  have hcell := ho.cells (g := g) (by rw [q]; rfl) (i * 15+j) _ hg
  have hgl:g<w1.heap.size := (Array.getElem?_eq_some_iff.1 q2).1
  refine ⟨⟨g,0,none⟩,_,rfl,⟨hgl,nofun⟩,hcell,(hr j hj).1,?_⟩
  have hrow:rowsT pkT (idx.map fun i=>l.getD i wr0) i j=cellT pkT (l.getD (idx.getD i 0) wr0) j := by
   show cellT pkT ((idx.map fun i=>l.getD i wr0).getD i wr0) j=_
   rw [List.getD_eq_getElem?_getD,List.getElem?_map,List.getD_eq_getElem?_getD (l := idx),List.getElem?_eq_getElem hi']
   rfl
  rw [hrow]
  exact T.rel_mono (fun _ g' k' hg' _=>⟨look_of_block (hb.block g' hg'),Nat.lt_of_lt_of_le hg' hb.size⟩) (hr j hj).2
theorem cells_block {w:World} {g:Nat} {xs:List Value} {t:TypeId} (h:w.heap[g]? = some (.cells xs.toArray t (0,0))):∀ (j:Nat) (u:Value),xs[j]? = some u→w.cell? ((⟨g,0,none⟩:Addr).add j)=some u := fun j u hu=>by
 rw [Addr.add_lit]
 simp [World.cell?,h,hu]
def pcs (p:PKT×Value):List Value := [.int .i64 p.1.1,.int .i64 p.1.2.1,.int .i64 p.1.2.2.1,p.2]
def PkI (w:World) (base:Nat) (v:Value) (ps:List PKT) (ds:List Value):Prop := ds.length=ps.length∧w.ownsRow base pkP 4 v ps.length ((ps.zip ds).flatMap pcs) ∧
 ∀ i,i<ps.length→(ds.getD i undef).oneCell' = true∧BytesAt (fun g _=>base≤g∧some g ≠ v.ownBlock) w (ps.getD i (0,0,0,[])).2.2.2 (ds.getD i undef)
def PkR (w:World) (base:Nat) (v:Value) (ps:List PKT):Prop := ∃ ds:List Value,PkI w base v ps ds
theorem PkR.nil (w:World) (base:Nat):PkR w base (.slice none 0 0) [] := ⟨[],rfl,World.ownsRow_nil _ _ _ _,fun i hi=>by simp at hi⟩
theorem grown_of {w w1:World} (hb:Below w.heap.size w w1):w.grownBy w1 none := ⟨hb.os,hb.tape,hb.output,hb.size,fun k hk _=>hb.block k hk⟩
theorem PkI.below {w w1:World} {base:Nat} {v:Value} {ps:List PKT} {ds:List Value} (h:PkI w base v ps ds) (hb:Below w.heap.size w w1):PkI w1 base v ps ds := by
 obtain ⟨d1,d2,d3⟩ := h
 exact ⟨d1,d2.kept (grown_of hb) (by cases v.ownBlock <;> simp),fun i hi=>⟨(d3 i hi).1,T.rel_mono (fun _ g k hg hcok=>⟨look_of_block (hb.block g hg),hcok.1,hcok.2⟩) (d3 i hi).2⟩⟩
theorem PkR.mono {w:World} {base base':Nat} {v:Value} {ps:List PKT} (h:PkR w base v ps) (hb:base' ≤ base):PkR w base' v ps := by
 obtain ⟨ds,d1,d2,d3⟩ := h
 refine ⟨ds,d1,⟨d2.1,?_⟩,fun i hi=>⟨(d3 i hi).1,T.rel_mono (fun _ g k hg hcok=>⟨rfl,hcok.1,Nat.le_trans hb hcok.2.1,hcok.2.2⟩) (d3 i hi).2⟩⟩
 rcases d2.2 with h | ⟨g,cap,cur,q,q1,q2⟩
 ·exact .inl h
 ·exact .inr ⟨g,cap,cur,q,Nat.le_trans hb q1,q2⟩
theorem zip_snoc {α β:Type}:∀ (a:List α) (b:List β) (x:α) (y:β),a.length=b.length→(a ++ [x]).zip (b ++ [y])=a.zip b ++ [(x,y)]
 | [],[],_,_,_=>rfl
 | [],_ :: _,_,_,h=>by simp at h
 | _ :: _,[],_,_,h=>by simp at h
 | a :: l,b :: m,x,y,h=>by simp [zip_snoc l m x y (by simpa using h)]
theorem PkR.app {w w1:World} {base:Nat} {v v' d:Value} {ps:List PKT} {p:PKT} {ds:List Value} (h:PkI w base v ps ds) (hd:d.oneCell' = true) (hdb:BytesAt (fun g _=>base≤g∧g<w.heap.size∧some g ≠ v.ownBlock) w p.2.2.2 d)
  (ho:w1.ownsRow base pkP 4 v' (ps.length+1) ((ps.zip ds).flatMap pcs ++ pcs (p,d))) (hg:w.grownBy w1 v.ownBlock) (hl:v'.ownBlock=v.ownBlock ∨ ∃ q,v'.ownBlock=some q∧w.heap.size≤q):PkR w1 base v' (ps ++ [p]) := by
 obtain ⟨d1,d2,d3⟩ := h
 have nw:∀ g,g<w.heap.size→some g ≠ v.ownBlock→some g ≠ v'.ownBlock := fun g hg' hne=>by
  rcases hl with e | ⟨q,e,hq⟩
  ·rw [e]; exact hne
  ·rw [e]; intro e1; cases e1; omega
 refine ⟨ds ++ [d],by simp [d1],?_,fun i hi => ?_⟩
 ·rw [zip_snoc _ _ _ _ d1.symm,List.flatMap_append,List.length_append]
  simpa using ho
 ·rw [List.length_append,List.length_singleton] at hi
  by_cases hi':i<ps.length
  ·have e1:(ds ++ [d]).getD i undef=ds.getD i undef := by
    rw [List.getD_eq_getElem?_getD,List.getElem?_append_left (by omega),← List.getD_eq_getElem?_getD]
   have e2:(ps ++ [p]).getD i (0,0,0,[])=ps.getD i (0,0,0,[]) := by
    rw [List.getD_eq_getElem?_getD,List.getElem?_append_left (by omega),← List.getD_eq_getElem?_getD]
   rw [e1,e2]
   exact ⟨(d3 i hi').1,T.rel_mono (fun _ g k hg' hcok=>⟨look_of_block (hg.block g hg' hcok.2.2),hcok.1,hcok.2.1,nw g hg' hcok.2.2⟩) (d3 i hi').2⟩
  ·obtain rfl:i=ps.length := by omega
   have e1:(ds ++ [d]).getD ps.length undef=d := by
    rw [List.getD_eq_getElem?_getD,List.getElem?_append_right (by omega),d1]; simp
   have e2:(ps ++ [p]).getD ps.length (0,0,0,[])=p := by
    rw [List.getD_eq_getElem?_getD,List.getElem?_append_right (by omega)]; simp
   rw [e1,e2]
   exact ⟨hd,T.rel_mono (fun _ g k hg' hcok=>⟨look_of_block (hg.block g hg' hcok.2.2.2),hcok.1,hcok.2.1,nw g hg' hcok.2.2.2⟩) hdb⟩
theorem bytes_at {w w1 w2:World} {base:Nat} {v:Value} {ps:List PKT} {ds:List Value} {bs:List Int} {y:Value} (h:PkI w base v ps ds) (hbase:base≤w.heap.size) (hy:BytesAt (fun g _=>w.heap.size≤g∧g<w1.heap.size) w1 bs y) (hb:Below w1.heap.size w1 w2) :
  BytesAt (fun g _=>base≤g∧g<w2.heap.size∧some g ≠ v.ownBlock) w2 bs y :=
 T.rel_mono (fun _ g k hg hcok=>⟨look_of_block (hb.block g hg),hcok.1,Nat.le_trans hbase hcok.2.1,Nat.lt_of_lt_of_le hg hb.size,fun e=>by have := (h.2.1.lt g e.symm).2; omega⟩) hy
theorem keys8:∀ t:Nat,t<8→keysq[2 * t]? = some ((t:Int),2)∧keysq[2 * t+1]? = some ((t:Int),1) := by decide
theorem packs_snoc (fu:Nat) (fr:Int) (l:List WR) (ks:List (Int×Int)) (k:Int×Int):packsq fu fr l (ks ++ [k])=(packsq fu fr l ks).bind fun ps=>(stepq fu fr l k).map (ps ++ ·) := by
 unfold packsq
 rw [List.foldl_append]
 rfl
theorem packs_take {fu:Nat} {fr:Int} {l:List WR} {ps:List PKT}:∀ (ks:List (Int×Int)),packsq fu fr l ks=some ps → ∀ m,∃ ps',packsq fu fr l (ks.take m)=some ps' := by
 have aux:∀ (ks:List (Int×Int)),packsq fu fr l ks ≠ none → ∀ m,packsq fu fr l (ks.take m) ≠ none := by
  intro ks
  induction h:ks.length generalizing ks with
  | zero =>
   intro hp m
   have:ks=[] := List.eq_nil_of_length_eq_zero h
   subst this
   simpa using hp
  | succ n ih =>
   intro hp m
   have hne:ks ≠ [] := fun e=>by rw [e] at h; simp at h
   have hk:ks=ks.dropLast ++ [ks.getLast hne] := (List.dropLast_concat_getLast hne).symm
   have hl:ks.dropLast.length=n := by rw [List.length_dropLast]; omega
   have hp':packsq fu fr l ks.dropLast ≠ none := fun e=>by
    rw [hk,packs_snoc,e] at hp
    exact hp rfl
   by_cases hm:m≤n
   ·have:ks.take m=ks.dropLast.take m := by
     rw [List.dropLast_eq_take,List.take_take]
     congr 1
     omega
    rw [this]
    exact ih _ hl hp' m
   ·rw [List.take_of_length_le (by omega)]
    exact hp
 intro ks hp m
 cases hx:packsq fu fr l (ks.take m) with
 | some x=>exact ⟨x,rfl⟩
 | none=>exact absurd hx (aux ks (by rw [hp]; simp) m)
theorem packs_at {fu:Nat} {fr:Int} {l:List WR} {ps ps':List PKT} (hq:packsq fu fr l keysq=some ps) {m:Nat} {k:Int×Int} (hk:keysq[m]? = some k) (hm:packsq fu fr l (keysq.take m)=some ps') :
  (selq l k.1 k.2=[]∧packsq fu fr l (keysq.take (m+1))=some ps') ∨ (selq l k.1 k.2 ≠ [] ∧ ∃ bs,Bq.p33 fu (k.2,selq l k.1 k.2,())=some ((),bs)∧packsq fu fr l (keysq.take (m+1))=some (ps' ++ [(fr,k.1,k.2,bs)])) := by
 obtain ⟨ps2,h2⟩ := packs_take keysq hq (m+1)
 have ht:keysq.take (m+1)=keysq.take m ++ [k] := by rw [List.take_add_one,hk]; rfl
 have h3 := h2
 rw [ht,packs_snoc,hm] at h3
 change (stepq fu fr l k).map (ps' ++ ·)=some ps2 at h3
 cases hs:selq l k.1 k.2 with
 | nil =>
  refine .inl ⟨rfl,?_⟩
  have:stepq fu fr l k=some [] := by unfold stepq; rw [hs]; rfl
  rw [this] at h3
  rw [h2,← h3]
  simp
 | cons x r =>
  refine .inr ⟨by simp,?_⟩
  have e1:stepq fu fr l k=(Bq.p33 fu (k.2,x :: r,())).map fun y=>[(fr,k.1,k.2,y.2)] := by unfold stepq; rw [hs]; rfl
  rw [e1] at h3
  cases hp:Bq.p33 fu (k.2,x :: r,()) with
  | none=>rw [hp] at h3; cases h3
  | some y =>
   rw [hp] at h3
   refine ⟨y.2,rfl,?_⟩
   rw [h2,← h3]
   rfl
end
end
end Go.Proofs.YtahamggipcikgaaDoor
namespace Go.Proofs.YtahamggipcikgaaDoor
open Go.RowKit
theorem pkIW:(Tryd.prog.info? pkW).map (fun i=>(i.zero,i.size,i.bytes))=some (some (.agg #[.int .u64 0,.int .i64 0,.int .i64 0,.int .i64 0,.int .u64 0,.int .u64 0,.int .u64 0,.slice none 0 0,.int .u64 0,.bool false,.int .u64 0,.slice none 0 0,.slice none 0 0,.slice none 0 0,.bool false]),15,184) := by kernel_rfl
theorem pkIP:(Tryd.prog.info? pkP).map (fun i=>(i.zero,i.size,i.bytes))=some (some (.agg #[.int .i64 0,.int .i64 0,.int .i64 0,.slice none 0 0]),4,48) := by kernel_rfl
section
variable {w:World} {ops:Array Oper} {rest:List Oper} {o:Oper} {a:Act} {Q:Exit→Act→World→Prop}
theorem pk_entryW (hg:o.guard=none) (m x:Operand) (hop:o.op = .mapEntry pkM m x) (base g:Nat) (cw:Nat→List Value) (F:Int→Int→List Nat) (p q:Int) (hm:a.eval m = .map (some g)) (hx:a.eval x=bxK p q) (h:Grp w base g cw F)
  (hK:∀ (v:Value) (j:Nat) (w1:World),w.grownBy w1 (some g)→w1.heap.size=w.heap.size→w1.ownsRow base pkW 15 v (F p q).length ((F p q).flatMap cw) →
   (∀ (w2:World) (v':Value) (F':Int→Int→List Nat),w1.grownBy w2 v.ownBlock→w2.ownsRow base pkW 15 v' (F' p q).length ((F' p q).flatMap cw)→(v'.ownBlock=v.ownBlock ∨ ∃ q,v'.ownBlock=some q∧w1.heap.size≤q)→(∀ c d,¬ (c=p∧d=q)→F' c d=F c d) →
    ∃ w3,(Instr.entryStore pkM (.map (some g)) (goInt j) v').run Tryd.prog w2 = .ok () w3∧Grp w3 base g cw F' ∧ w2.grownBy w3 (some g)) →
   wpList Tryd.prog ops Q rest (a.put o.dst (.tuple #[v,goInt j])) w1):wpList Tryd.prog ops Q (o :: rest) a w := by
 refine wpList_plain hg fun K' hK' => ?_
 obtain ⟨v,j,w1,hrun,h1,h2,h3,h4⟩ := grp_entry h p q
 unfold Oper.wp
 simp [execOp,hop,hm,hx,hrun,Result.andThen]
 exact hK' _ _ (hK v j w1 h1 h2 h3 h4)
theorem pk_storeW (hg:o.guard=none) (m s x:Operand) (hop:o.op = .entryStore pkM m s x) (g j:Nat) (v:Value) (w3:World) (hm:a.eval m = .map (some g)) (hs:a.eval s=goInt j) (hx:a.eval x=v)
  (hrun:(Instr.entryStore pkM (.map (some g)) (goInt j) v).run Tryd.prog w = .ok () w3) (hK:wpList Tryd.prog ops Q rest (a.put o.dst undef) w3):wpList Tryd.prog ops Q (o :: rest) a w := by
 refine wpList_plain hg fun K' hK' => ?_
 unfold Oper.wp
 simp [execOp,hop,hm,hs,hx,hrun,Result.andThen]
 exact hK' _ _ hK
end
set_option maxHeartbeats 4000000 in
set_option maxRecDepth 100000 in
theorem pk_walk {fu:Nat} {fr e:Int} {l:List WR} {A:Option Addr} {n c:Nat} {ps:List PKT} (w:World) (hgl:GlW w) (hl:l.length=n) (hn:n≤1048576) (hT:(T.sl .any 15 l.length (rowsT pkT l)).rel (allB w) w (.slice A n c))
  (hp:Bq.p31 fu (fr,l,())=some ((),e)) (hq:e=0→packsq fu fr l keysq=some ps) :
  Calls Tryd.prog 11 #[.int .i64 fr,.slice A n c] w fun e' w' => ∃ v ps',e' = .returned (.tuple #[v,.int .i64 e])∧Below w.heap.size w w' ∧ PkR w' w.heap.size v ps' ∧ (e ≠ 0→ps' = [])∧(e=0→ps' = ps) := by
 have hmm := @run_makeMap Tryd.prog
 have hR := call_refuses hgl hT hp
 by_cases he:e=0
 ·have h1:(e != 0)=false := by simp [he]
  have h2:(e==0)=true := by simp [he]
  go_enter Tryd.func11,Tryd.ntmps11
  go_wp2_with (go_at_call 31; refine hR.mono ?_; rintro e' w1 ⟨rfl,hb1⟩)
  go_loopw [25] (fun i wr => ∃ k:Nat,k≤n∧i = .int .i64 k∧Grp wr (w1.heap.size+1) w1.heap.size (cwAt w A) (FF l k)∧Below w.heap.size w wr∧w1.heap.size+1≤wr.heap.size)
   (fun i _=>n-(intOf i).toNat)
  case atStart =>
   refine ⟨0,Nat.zero_le _,rfl,Grp.made w1 _ _ (by omega),hb1.alloc hb1.size _,by simp⟩
  case round =>
   obtain ⟨k,hk,rfl,hG,hbl,hsz⟩ := hrel
   by_cases hkn:k<n
   ·obtain ⟨b,off,hA,hb,hc,hr⟩ := cells15 hT (k := k) (by omega)
    have hc':∀ j,j<15→wr.cell? ⟨b,off+k * 15+j,none⟩=some (csAt w A k j) := fun j hj=>(hbl.cell (p := ⟨b,off+k * 15+j,none⟩) hb).trans (hc j hj)
    obtain ⟨to,hto⟩:∃ t,toq (l.getD k wr0)=t := ⟨_,rfl⟩
    obtain ⟨x0,e0⟩:∃ x,csAt w A k 0 = .int .u64 x := ⟨_,(hr 0 (by omega)).2⟩
    obtain ⟨x1,e1⟩:∃ x,csAt w A k 1 = .int .i64 x := ⟨_,(hr 1 (by omega)).2⟩
    obtain ⟨x2,e2⟩:∃ x,csAt w A k 2 = .int .i64 x := ⟨_,(hr 2 (by omega)).2⟩
    have e3:csAt w A k 3 = .int .i64 to := by rw [← hto]; exact (hr 3 (by omega)).2
    obtain ⟨x4,e4⟩:∃ x,csAt w A k 4 = .int .u64 x := ⟨_,(hr 4 (by omega)).2⟩
    obtain ⟨x5,e5⟩:∃ x,csAt w A k 5 = .int .u64 x := ⟨_,(hr 5 (by omega)).2⟩
    obtain ⟨x6,e6⟩:∃ x,csAt w A k 6 = .int .u64 x := ⟨_,(hr 6 (by omega)).2⟩
    obtain ⟨a7,n7,c7,e7⟩:∃ a n c,csAt w A k 7 = .slice a n c := by
     obtain ⟨a,c,q,_⟩ := (hr 7 (by omega)).2
     exact ⟨_,_,_,q⟩
    obtain ⟨x8,e8⟩:∃ x,csAt w A k 8 = .int .u64 x := ⟨_,(hr 8 (by omega)).2⟩
    obtain ⟨x9,e9⟩:∃ x,csAt w A k 9 = .bool x := ⟨_,(hr 9 (by omega)).2⟩
    obtain ⟨x10,e10⟩:∃ x,csAt w A k 10 = .int .u64 x := ⟨_,(hr 10 (by omega)).2⟩
    obtain ⟨a11,n11,c11,e11⟩:∃ a n c,csAt w A k 11 = .slice a n c := by
     obtain ⟨a,c,q,_⟩ := (hr 11 (by omega)).2
     exact ⟨_,_,_,q⟩
    obtain ⟨a12,n12,c12,e12⟩:∃ a n c,csAt w A k 12 = .slice a n c := by
     obtain ⟨a,c,q,_⟩ := (hr 12 (by omega)).2
     exact ⟨_,_,_,q⟩
    obtain ⟨a13,n13,c13,e13⟩:∃ a n c,csAt w A k 13 = .slice a n c := by
     obtain ⟨a,c,q,_⟩ := (hr 13 (by omega)).2
     exact ⟨_,_,_,q⟩
    obtain ⟨x14,e14⟩:∃ x,csAt w A k 14 = .bool x := ⟨_,(hr 14 (by omega)).2⟩
    have d0:wr.cell? ⟨b,off+k * 15,none⟩=some _ := (hc' 0 (by omega)).trans (congrArg some e0)
    have d1:wr.cell? ⟨b,off+k * 15+1,none⟩=some _ := (hc' 1 (by omega)).trans (congrArg some e1)
    have d2:wr.cell? ⟨b,off+k * 15+2,none⟩=some _ := (hc' 2 (by omega)).trans (congrArg some e2)
    have d3:wr.cell? ⟨b,off+k * 15+3,none⟩=some _ := (hc' 3 (by omega)).trans (congrArg some e3)
    have d4:wr.cell? ⟨b,off+k * 15+4,none⟩=some _ := (hc' 4 (by omega)).trans (congrArg some e4)
    have d5:wr.cell? ⟨b,off+k * 15+5,none⟩=some _ := (hc' 5 (by omega)).trans (congrArg some e5)
    have d6:wr.cell? ⟨b,off+k * 15+6,none⟩=some _ := (hc' 6 (by omega)).trans (congrArg some e6)
    have d7:wr.cell? ⟨b,off+k * 15+7,none⟩=some _ := (hc' 7 (by omega)).trans (congrArg some e7)
    have d8:wr.cell? ⟨b,off+k * 15+8,none⟩=some _ := (hc' 8 (by omega)).trans (congrArg some e8)
    have d9:wr.cell? ⟨b,off+k * 15+9,none⟩=some _ := (hc' 9 (by omega)).trans (congrArg some e9)
    have d10:wr.cell? ⟨b,off+k * 15+10,none⟩=some _ := (hc' 10 (by omega)).trans (congrArg some e10)
    have d11:wr.cell? ⟨b,off+k * 15+11,none⟩=some _ := (hc' 11 (by omega)).trans (congrArg some e11)
    have d12:wr.cell? ⟨b,off+k * 15+12,none⟩=some _ := (hc' 12 (by omega)).trans (congrArg some e12)
    have d13:wr.cell? ⟨b,off+k * 15+13,none⟩=some _ := (hc' 13 (by omega)).trans (congrArg some e13)
    have d14:wr.cell? ⟨b,off+k * 15+14,none⟩=some _ := (hc' 14 (by omega)).trans (congrArg some e14)
    have HC := (show Hid _ from hc')
    have HD := (show Hid _ from hc)
    have HR := (show Hid _ from hr)
    have HT := (show Hid _ from hT)
    clear hc hc' hr hT
    subst hA
    have E0 := (show Hid _ from e0)
    have E1 := (show Hid _ from e1)
    have E2 := (show Hid _ from e2)
    have E3 := (show Hid _ from e3)
    have E4 := (show Hid _ from e4)
    have E5 := (show Hid _ from e5)
    have E6 := (show Hid _ from e6)
    have E7 := (show Hid _ from e7)
    have E8 := (show Hid _ from e8)
    have E9 := (show Hid _ from e9)
    have E10 := (show Hid _ from e10)
    have E11 := (show Hid _ from e11)
    have E12 := (show Hid _ from e12)
    have E13 := (show Hid _ from e13)
    have E14 := (show Hid _ from e14)
    clear e0 e1 e2 e3 e4 e5 e6 e7 e8 e9 e10 e11 e12 e13 e14
    have hIs:∀ W,Below w.heap.size w W→Calls Tryd.prog 32 #[.agg #[.int .i64 x1,.int .i64 x2,.int .i64 to,.int .u64 x4,.int .u64 x5,.int .u64 x6,.slice a7 n7 c7,.int .u64 x8,.bool x9,.int .u64 x10,.slice a11 n11 c11,.slice a12 n12 c12,.slice a13 n13 c13,.bool x14]] W fun e' w' => e' = .returned (.bool (isBq (l.getD k wr0)))∧Below W.heap.size W w' := fun W hW=>by
     have q := call_is (w := W) (hgl := hgl.below hW) (x := l.getD k wr0) (cs := csAt w (some ⟨b,off,none⟩) k) (fun j hj=>⟨(HR.out j hj).1,T.rel_mono (fun _ g' k' hg' _=>⟨look_of_block (hW.block g' hg'),Nat.lt_of_lt_of_le hg' hW.size⟩) (HR.out j hj).2⟩)
     rw [E1.out,E2.out,E3.out,E4.out,E5.out,E6.out,E7.out,E8.out,E9.out,E10.out,E11.out,E12.out,E13.out,E14.out] at q
     exact q
    obtain ⟨bq,hbq⟩:∃ t,isBq (l.getD k wr0)=t := ⟨_,rfl⟩
    rw [hbq] at hIs
    have HG := (show Hid _ from hG)
    clear hG
    have hnl:(FF l k to 1).length≤k∧(FF l k to 2).length≤k := ⟨FF_len l k to 1,FF_len l k to 2⟩
    have hcw:cwAt w (some ⟨b,off,none⟩) k=[.int .u64 x0,.int .i64 x1,.int .i64 x2,.int .i64 to,.int .u64 x4,.int .u64 x5,.int .u64 x6,.slice a7 n7 c7,.int .u64 x8,.bool x9,.int .u64 x10,.slice a11 n11 c11,.slice a12 n12 c12,.slice a13 n13 c13,.bool x14] := by
     show [csAt w (some ⟨b,off,none⟩) k 0,csAt w (some ⟨b,off,none⟩) k 1,csAt w (some ⟨b,off,none⟩) k 2,csAt w (some ⟨b,off,none⟩) k 3,csAt w (some ⟨b,off,none⟩) k 4,csAt w (some ⟨b,off,none⟩) k 5,csAt w (some ⟨b,off,none⟩) k 6,csAt w (some ⟨b,off,none⟩) k 7,csAt w (some ⟨b,off,none⟩) k 8,csAt w (some ⟨b,off,none⟩) k 9,csAt w (some ⟨b,off,none⟩) k 10,csAt w (some ⟨b,off,none⟩) k 11,csAt w (some ⟨b,off,none⟩) k 12,csAt w (some ⟨b,off,none⟩) k 13,csAt w (some ⟨b,off,none⟩) k 14]=_
     rw [E0.out,E1.out,E2.out,E3.out,E4.out,E5.out,E6.out,E7.out,E8.out,E9.out,E10.out,E11.out,E12.out,E13.out,E14.out]
    have HCW := (show Hid _ from hcw)
    clear hcw
    have hone:Hid (∀ u ∈ ([.int .u64 x0,.int .i64 x1,.int .i64 x2,.int .i64 to,.int .u64 x4,.int .u64 x5,.int .u64 x6,.slice a7 n7 c7,.int .u64 x8,.bool x9,.int .u64 x10,.slice a11 n11 c11,.slice a12 n12 c12,.slice a13 n13 c13,.bool x14]:List Value),u.oneCell' = true) := by
     show ∀ u ∈ _,_
     intro u hu
     simp only [List.mem_cons,List.not_mem_nil,or_false] at hu
     rcases hu with rfl | rfl | rfl | rfl | rfl | rfl | rfl | rfl | rfl | rfl | rfl | rfl | rfl | rfl | rfl <;> rfl
    have hkt:Hid (bq=true→kindq (l.getD k wr0)=2) := fun e=>by unfold kindq; rw [hbq,e]; rfl
    have hkf:Hid (bq=false→kindq (l.getD k wr0)=1) := fun e=>by unfold kindq; rw [hbq,e]; rfl
    have hto2:Hid (toq (l.getD k wr0)=to) := hto
    clear hto hbq
    have step:∀ (kd:Int) (v v':Value) (w4 w5:World),kindq (l.getD k wr0)=kd→w5.ownsRow (w1.heap.size+1) pkW 15 v' ((FF l k to kd).length+1) ((FF l k to kd).flatMap (cwAt w (some ⟨b,off,none⟩)) ++ [.int .u64 x0,.int .i64 x1,.int .i64 x2,.int .i64 to,.int .u64 x4,.int .u64 x5,.int .u64 x6,.slice a7 n7 c7,.int .u64 x8,.bool x9,.int .u64 x10,.slice a11 n11 c11,.slice a12 n12 c12,.slice a13 n13 c13,.bool x14])→(v'.ownBlock=v.ownBlock ∨ v'.ownBlock=some w4.heap.size) →
      w5.ownsRow (w1.heap.size+1) pkW 15 v' (FF l (k+1) to kd).length ((FF l (k+1) to kd).flatMap (cwAt w (some ⟨b,off,none⟩)))∧(v'.ownBlock=v.ownBlock ∨ ∃ q,v'.ownBlock=some q∧w4.heap.size≤q) ∧ ∀ c d,¬ (c=to∧d=kd)→FF l (k+1) c d=FF l k c d := fun kd v v' w4 w5 h1 h2 h3=>by
     refine ⟨?_,h3.imp id fun e=>⟨_,e,Nat.le_refl _⟩,fun c d h => ?_⟩
     ·rw [FF_succ,if_pos ⟨hto2.out,h1⟩,List.length_append,List.flatMap_append,List.flatMap_singleton,HCW.out]
      exact h2
     ·rw [FF_succ,if_neg (fun e=>h ⟨e.1.symm.trans hto2.out,e.2.symm.trans h1⟩)]
    have STEP := (show Hid _ from step)
    clear step
    obtain ⟨i0,hi,hz0,hz1,hz2⟩ := info_parts pkIW
    go_wp2_with (first
     | (go_at_call 32; refine (hIs _ ((hbl.alloc hbl.size _).alloc (Nat.le_trans hbl.size (by simp)) _)).mono ?_; rintro e' w3 ⟨rfl,hb3⟩; have hx3:w3.heap[wr.heap.size]? = some (.cells #[.int .u64 x0,.int .i64 x1,.int .i64 x2,.int .i64 to,.int .u64 x4,.int .u64 x5,.int .u64 x6,.slice a7 n7 c7,.int .u64 x8,.bool x9,.int .u64 x10,.slice a11 n11 c11,.slice a12 n12 c12,.slice a13 n13 c13,.bool x14] pkW (0,0)) := (hb3.block _ (by simp; omega)).trans ((Below.heap_alloc _ _ _ (by simp)).trans (heap_alloc_new wr _)); have hy3:w3.heap[wr.heap.size+1]? = some (.cells #[.int .i64 to,.int .i64 1] pkB (0,0)) := (hb3.block _ (by simp)).trans (by have q := heap_alloc_new (wr.alloc (.cells #[.int .u64 x0,.int .i64 x1,.int .i64 x2,.int .i64 to,.int .u64 x4,.int .u64 x5,.int .u64 x6,.slice a7 n7 c7,.int .u64 x8,.bool x9,.int .u64 x10,.slice a11 n11 c11,.slice a12 n12 c12,.slice a13 n13 c13,.bool x14] pkW)) (.cells #[.int .i64 to,.int .i64 1] pkB); simpa using q); have f0:w3.cell? ⟨wr.heap.size,0,none⟩=some (.int .u64 x0) := (by simp [World.cell?,hx3]); have f1:w3.cell? ⟨wr.heap.size,1,none⟩=some (.int .i64 x1) := (by simp [World.cell?,hx3]); have f2:w3.cell? ⟨wr.heap.size,2,none⟩=some (.int .i64 x2) := (by simp [World.cell?,hx3]); have f3:w3.cell? ⟨wr.heap.size,3,none⟩=some (.int .i64 to) := (by simp [World.cell?,hx3]); have f4:w3.cell? ⟨wr.heap.size,4,none⟩=some (.int .u64 x4) := (by simp [World.cell?,hx3]); have f5:w3.cell? ⟨wr.heap.size,5,none⟩=some (.int .u64 x5) := (by simp [World.cell?,hx3]); have f6:w3.cell? ⟨wr.heap.size,6,none⟩=some (.int .u64 x6) := (by simp [World.cell?,hx3]); have f7:w3.cell? ⟨wr.heap.size,7,none⟩=some (.slice a7 n7 c7) := (by simp [World.cell?,hx3]); have f8:w3.cell? ⟨wr.heap.size,8,none⟩=some (.int .u64 x8) := (by simp [World.cell?,hx3]); have f9:w3.cell? ⟨wr.heap.size,9,none⟩=some (.bool x9) := (by simp [World.cell?,hx3]); have f10:w3.cell? ⟨wr.heap.size,10,none⟩=some (.int .u64 x10) := (by simp [World.cell?,hx3]); have f11:w3.cell? ⟨wr.heap.size,11,none⟩=some (.slice a11 n11 c11) := (by simp [World.cell?,hx3]); have f12:w3.cell? ⟨wr.heap.size,12,none⟩=some (.slice a12 n12 c12) := (by simp [World.cell?,hx3]); have f13:w3.cell? ⟨wr.heap.size,13,none⟩=some (.slice a13 n13 c13) := (by simp [World.cell?,hx3]); have f14:w3.cell? ⟨wr.heap.size,14,none⟩=some (.bool x14) := (by simp [World.cell?,hx3]); have fb0:w3.cell? ⟨wr.heap.size+1,0,none⟩=some (.int .i64 to) := (by simp [World.cell?,hy3]); have fb1:w3.cell? ⟨wr.heap.size+1,1,none⟩=some (.int .i64 1) := (by simp [World.cell?,hy3]); have ff:w3.frozen? ⟨wr.heap.size+1,1,none⟩=false := (by simp [World.frozen?,hy3]); have hB1:Hid (Below wr.heap.size wr w3) := (((Below.refl _ wr).alloc (Nat.le_refl _) _).alloc (by simp) _).trans (hb3.mono (by simp; omega)); have hB2:Hid (Below wr.heap.size wr (w3.setCell ⟨wr.heap.size+1,1,none⟩ (.int .i64 2))) := Below_put hB1.out (by show wr.heap.size≤wr.heap.size+1; omega) _; have HX3 := (show Hid _ from hx3); have HY3 := (show Hid _ from hy3); clear hx3 hy3)
     | ((first | refine pk_entryW (o := ⟨some 42,_,_,_,_,_⟩) rfl (.tmp 37) (.tmp 38) rfl (w1.heap.size+1) w1.heap.size (cwAt w (some ⟨b,off,none⟩)) (FF l k) to 1 (by exact rfl) (by exact rfl) (by exact Grp.later HG.out (hB1.out.alloc hB1.out.size _)) ?_ | refine pk_entryW (o := ⟨some 42,_,_,_,_,_⟩) rfl (.tmp 37) (.tmp 38) rfl (w1.heap.size+1) w1.heap.size (cwAt w (some ⟨b,off,none⟩)) (FF l k) to 2 (by exact rfl) (by exact rfl) (by exact Grp.later HG.out (hB2.out.alloc hB2.out.size _)) ?_); intro v j w4 hg4 hs4 ho4 hback; have HBK := (show Hid _ from hback); clear hback; have hs4':w4.heap.size=w3.heap.size+1 := (by rw [hs4]; simp [World.setCell]); have hL4:Hid (w4.heap[w3.heap.size]? = some (.cells #[.int .u64 x0,.int .i64 x1,.int .i64 x2,.int .i64 to,.int .u64 x4,.int .u64 x5,.int .u64 x6,.slice a7 n7 c7,.int .u64 x8,.bool x9,.int .u64 x10,.slice a11 n11 c11,.slice a12 n12 c12,.slice a13 n13 c13,.bool x14] pkW (0,0))) := (hg4.block w3.heap.size (by simp [World.setCell]) (by intro e; have e1 := Option.some.inj e; have := hB1.out.size; omega)).trans (by first | exact heap_alloc_new w3 _ | (have q2 := heap_alloc_new (w3.setCell ⟨wr.heap.size+1,1,none⟩ (.int .i64 2)) (.cells #[.int .u64 x0,.int .i64 x1,.int .i64 x2,.int .i64 to,.int .u64 x4,.int .u64 x5,.int .u64 x6,.slice a7 n7 c7,.int .u64 x8,.bool x9,.int .u64 x10,.slice a11 n11 c11,.slice a12 n12 c12,.slice a13 n13 c13,.bool x14] pkW); simpa [World.setCell] using q2)); have hb4:Hid (Below w.heap.size w w4) := Below.grown (hbl.trans (Below.mono (by first | exact hB1.out.alloc hB1.out.size _ | exact hB2.out.alloc hB2.out.size _) hbl.size)) hg4 (by have := hbl.size; have := hB1.out.size; simp [World.setCell]; omega) (by intro q e; have e1 := Option.some.inj e; have := hb1.size; omega))
     | (at_builtin; go_loud (refine wpList_append_own_at _ rfl (.tmp 39) (.tmp 41) pkS rfl (w1.heap.size+1) pkW i0 _ 15 184 pkUS hi hz0 hz1 hz2 rfl (by decide) v _ _ rfl ho4 ⟨w3.heap.size,0,none⟩ 1 1 [.int .u64 x0,.int .i64 x1,.int .i64 x2,.int .i64 to,.int .u64 x4,.int .u64 x5,.int .u64 x6,.slice a7 n7 c7,.int .u64 x8,.bool x9,.int .u64 x10,.slice a11 n11 c11,.slice a12 n12 c12,.slice a13 n13 c13,.bool x14] rfl rfl (cells_block hL4.out) hone.out (by unfold maxLen; omega) (by omega) (by have := hB1.out.size; omega) ?_); intro v' w5 ho5 hg5 hn5 hl5; go_loud (obtain ⟨r1,r2,r3⟩ := STEP.out _ v v' w4 w5 (by first | exact hkt.out (by assumption) | exact hkf.out (by assumption) | exact hkf.out (Bool.eq_false_iff.2 (by assumption))) ho5 hl5); go_loud (obtain ⟨w6,hr6,hG6,hg6⟩ := HBK.out w5 v' (FF l (k+1)) hg5 r1 r2 r3); have hb6:Hid (Below w.heap.size w w6∧w4.heap.size≤w6.heap.size) := ⟨Below.grown (Below.grown hb4.out hg5 (by have := hbl.size; have := hB1.out.size; omega) (by intro q e; have := (ho4.lt q e).1; have := hb1.size; omega)) hg6 (by have := hbl.size; have := hB1.out.size; have := hg5.size; omega) (by intro q e; have e1 := Option.some.inj e; have := hb1.size; omega),Nat.le_trans hg5.size hg6.size⟩)
     | (refine pk_storeW (o := ⟨none,_,_,_,_,_⟩) rfl _ _ _ rfl w1.heap.size j v' w6 rfl rfl rfl hr6 ?_))
    ·go_roundw
     case rel =>
      have q := hb6.out
      have := hB1.out.size
      exact ⟨k+1,by omega,by go_num,hG6,q.1,by omega⟩
     case measure=>simp [intOf]; omega
    ·go_roundw
     case rel =>
      have q := hb6.out
      have := hB1.out.size
      exact ⟨k+1,by omega,by go_num,hG6,q.1,by omega⟩
     case measure=>simp [intOf]; omega
   ·rename World=>wq
    obtain rfl:k=n := by omega
    have hQ := hq he
    have hix0:∀ W,(Instr.index 74 (.agg #[.int .i64 2,.int .i64 1]) (.int .i64 0)).run Tryd.prog W = .ok (.int .i64 2) W := fun W=>by kernel_rfl
    have hix1:∀ W,(Instr.index 74 (.agg #[.int .i64 2,.int .i64 1]) (.int .i64 1)).run Tryd.prog W = .ok (.int .i64 1) W := fun W=>by kernel_rfl
    go_wp2_with fail
    go_loopw [46,11] (fun i v wo => ∃ t:Nat,t≤8∧i = .int .i64 t∧Below wq.heap.size wq wo ∧ ∃ ps',packsq fu fr l (keysq.take (2 * t))=some ps' ∧ ps'.length≤2 * t∧PkR wo wq.heap.size v ps')
     (fun i _ _=>8-(intOf i).toNat)
    case atStart =>
     exact ⟨0,by omega,rfl,Below.refl _ _,[],rfl,by simp,PkR.nil _ _⟩
    case round =>
     obtain ⟨t,ht,rfl,hbo,ps0,hp0,hl0,hpk0⟩ := hrel
     by_cases ht8:t<8
     ·have h8:(decide ((t:Int)<8))=true := decide_eq_true (by omega)
      go_wp2_with fail
      go_loopw [50,11] (fun i v wi => ∃ s:Nat,s≤2∧i = .int .i64 s∧Below wq.heap.size wq wi ∧ ∃ ps',packsq fu fr l (keysq.take (2 * t+s))=some ps' ∧ ps'.length≤2 * t+s∧PkR wi wq.heap.size v ps')
       (fun i _ _=>2-(intOf i).toNat)
      case atStart =>
       exact ⟨0,by omega,rfl,hbo,ps0,hp0,hl0,hpk0⟩
      case round =>
       obtain ⟨s,hs,rfl,hbi,ps1,hp1,hl1,hpk1⟩ := hrel
       by_cases hs2:s<2
       ·rcases s with _ | _ | s
        ·obtain ⟨v,hlook,hown⟩ := grp_look (Grp.later hG hbi) (t:Int) 2
         have hFF:(FF l k (t:Int) 2).map (fun i=>l.getD i wr0)=selq l (t:Int) 2 := by rw [← hl]; exact FF_all l _ _
         have hrow := row_data hT (fun i hi=>by rw [hl]; exact FF_lt l i hi) (hbl.trans (hbi.mono hbl.size)) hown
         rw [hFF] at hrow
         have hlen:(FF l k (t:Int) 2).length=(selq l (t:Int) 2).length := by rw [← hFF,List.length_map]
         obtain ⟨N,hN⟩:∃ N,(FF l k (t:Int) 2).length=N := ⟨_,rfl⟩
         obtain ⟨V,cv,rfl⟩:∃ V cv,v = .slice V N cv := by
          rcases hown.2 with ⟨q,q'⟩ | ⟨g,cap,cur,q,_⟩
          ·exact ⟨_,_,by rw [q,← hN,q']⟩
          ·exact ⟨_,_,by rw [q,← hN]⟩
         have hlk:(Instr.lookup 71 (.map (some w1.heap.size)) (.agg #[.int .i64 (t:Int),.int .i64 2]) false).run Tryd.prog wr = .ok (.slice V N cv) wr := hlook
         have hkey := (keys8 t ht8).1
         rcases packs_at hQ hkey hp1 with ⟨hs0,hp2⟩ | ⟨hs1,bs,hw,hp2⟩
         ·obtain rfl:N=0 := by rw [← hN,hlen]; simp [hs0]
          have HRW := (show Hid _ from hrow)
          clear hown hrow hlook hG hT
          go_wp2_with fail
          go_roundw
          case rel=>exact ⟨0+1,by omega,by go_num,hbi,ps1,hp2,by omega,hpk1⟩
          case measure=>simp [intOf]
         ·have hpos:(0:Int)<(N:Int) := by
           have:N ≠ 0 := fun e=>hs1 (List.eq_nil_of_length_eq_zero (by rw [← hlen,hN,e]))
           omega
          have hWR := call_write (hgl.below (hbl.trans (hbi.mono hbl.size))) hrow hw
          obtain ⟨ds,hI⟩ := hpk1
          have HI := (show Hid _ from hI)
          clear hown hrow hlook hI hG hT
          obtain ⟨i1,hi,hz0,hz1,hz2⟩ := info_parts pkIP
          have hone:∀ (ya:Option Addr) (yc:Nat),Hid (∀ u ∈ ([.int .i64 fr,.int .i64 (t:Int),.int .i64 2,.slice ya bs.length yc]:List Value),u.oneCell' = true) := by
           intro ya yc
           show ∀ u ∈ _,_
           intro u hu
           simp only [List.mem_cons,List.not_mem_nil,or_false] at hu
           rcases hu with rfl | rfl | rfl | rfl <;> rfl
          go_wp2_with (first
           | (go_at_call 33; refine hWR.mono ?_; rintro e' w5 ⟨ya,yc,rfl,hyb,hb5⟩; have HYB := (show Hid _ from hyb); clear hyb)
           | (at_builtin; go_loud (refine wpList_append_own_at _ rfl (.tmp 61) (.tmp 69) 46 rfl wq.heap.size pkP i1 _ 4 48 Tryd.underlying46 hi hz0 hz1 hz2 rfl (by decide) u11 ps1.length ((ps1.zip ds).flatMap pcs) rfl (PkI.below HI.out (hb5.alloc hb5.size _)).2.1 ⟨w5.heap.size,0,none⟩ 1 1 [.int .i64 fr,.int .i64 (t:Int),.int .i64 2,.slice ya bs.length yc] rfl rfl (cells_block (heap_alloc_new w5 _)) (hone ya yc).out (by unfold maxLen; omega) (by omega) (by have := hbi.size; have := hb5.size; simp; omega) ?_); intro v' w6 ho6 hg6 hn6 hl6; go_loud (have hpk6:PkR w6 wq.heap.size v' (ps1 ++ [(fr,(t:Int),2,bs)]) := PkR.app (PkI.below HI.out (hb5.alloc hb5.size _)) rfl (bytes_at HI.out hbi.size HYB.out ((Below.refl _ w5).alloc (Nat.le_refl _) _)) ho6 hg6 (hl6.imp id fun e=>⟨_,e,Nat.le_refl _⟩)); have HP6 := (show Hid _ from hpk6); clear hpk6; go_loud (have hb6:Hid (Below wq.heap.size wq w6) := Below.grown (hbi.trans ((hb5.alloc hb5.size _).mono hbi.size)) hg6 (by have := hbi.size; have := hb5.size; simp; omega) (by intro q e; exact (HI.out.2.1.lt q e).1))))
          go_roundw
          case rel=>exact ⟨0+1,by omega,by go_num,hb6.out,_,hp2,by simp; omega,HP6.out⟩
          case measure=>simp [intOf]
        ·obtain ⟨v,hlook,hown⟩ := grp_look (Grp.later hG hbi) (t:Int) 1
         have hFF:(FF l k (t:Int) 1).map (fun i=>l.getD i wr0)=selq l (t:Int) 1 := by rw [← hl]; exact FF_all l _ _
         have hrow := row_data hT (fun i hi=>by rw [hl]; exact FF_lt l i hi) (hbl.trans (hbi.mono hbl.size)) hown
         rw [hFF] at hrow
         have hlen:(FF l k (t:Int) 1).length=(selq l (t:Int) 1).length := by rw [← hFF,List.length_map]
         obtain ⟨N,hN⟩:∃ N,(FF l k (t:Int) 1).length=N := ⟨_,rfl⟩
         obtain ⟨V,cv,rfl⟩:∃ V cv,v = .slice V N cv := by
          rcases hown.2 with ⟨q,q'⟩ | ⟨g,cap,cur,q,_⟩
          ·exact ⟨_,_,by rw [q,← hN,q']⟩
          ·exact ⟨_,_,by rw [q,← hN]⟩
         have hlk:(Instr.lookup 71 (.map (some w1.heap.size)) (.agg #[.int .i64 (t:Int),.int .i64 1]) false).run Tryd.prog wr = .ok (.slice V N cv) wr := hlook
         have hkey := (keys8 t ht8).2
         rcases packs_at hQ hkey hp1 with ⟨hs0,hp2⟩ | ⟨hs1,bs,hw,hp2⟩
         ·obtain rfl:N=0 := by rw [← hN,hlen]; simp [hs0]
          have HRW := (show Hid _ from hrow)
          clear hown hrow hlook hG hT
          go_wp2_with fail
          go_roundw
          case rel=>exact ⟨1+1,by omega,by go_num,hbi,ps1,hp2,by omega,hpk1⟩
          case measure=>simp [intOf]
         ·have hpos:(0:Int)<(N:Int) := by
           have:N ≠ 0 := fun e=>hs1 (List.eq_nil_of_length_eq_zero (by rw [← hlen,hN,e]))
           omega
          have hWR := call_write (hgl.below (hbl.trans (hbi.mono hbl.size))) hrow hw
          obtain ⟨ds,hI⟩ := hpk1
          have HI := (show Hid _ from hI)
          clear hown hrow hlook hI hG hT
          obtain ⟨i1,hi,hz0,hz1,hz2⟩ := info_parts pkIP
          have hone:∀ (ya:Option Addr) (yc:Nat),Hid (∀ u ∈ ([.int .i64 fr,.int .i64 (t:Int),.int .i64 1,.slice ya bs.length yc]:List Value),u.oneCell' = true) := by
           intro ya yc
           show ∀ u ∈ _,_
           intro u hu
           simp only [List.mem_cons,List.not_mem_nil,or_false] at hu
           rcases hu with rfl | rfl | rfl | rfl <;> rfl
          go_wp2_with (first
           | (go_at_call 33; refine hWR.mono ?_; rintro e' w5 ⟨ya,yc,rfl,hyb,hb5⟩; have HYB := (show Hid _ from hyb); clear hyb)
           | (at_builtin; go_loud (refine wpList_append_own_at _ rfl (.tmp 61) (.tmp 69) 46 rfl wq.heap.size pkP i1 _ 4 48 Tryd.underlying46 hi hz0 hz1 hz2 rfl (by decide) u11 ps1.length ((ps1.zip ds).flatMap pcs) rfl (PkI.below HI.out (hb5.alloc hb5.size _)).2.1 ⟨w5.heap.size,0,none⟩ 1 1 [.int .i64 fr,.int .i64 (t:Int),.int .i64 1,.slice ya bs.length yc] rfl rfl (cells_block (heap_alloc_new w5 _)) (hone ya yc).out (by unfold maxLen; omega) (by omega) (by have := hbi.size; have := hb5.size; simp; omega) ?_); intro v' w6 ho6 hg6 hn6 hl6; go_loud (have hpk6:PkR w6 wq.heap.size v' (ps1 ++ [(fr,(t:Int),1,bs)]) := PkR.app (PkI.below HI.out (hb5.alloc hb5.size _)) rfl (bytes_at HI.out hbi.size HYB.out ((Below.refl _ w5).alloc (Nat.le_refl _) _)) ho6 hg6 (hl6.imp id fun e=>⟨_,e,Nat.le_refl _⟩)); have HP6 := (show Hid _ from hpk6); clear hpk6; go_loud (have hb6:Hid (Below wq.heap.size wq w6) := Below.grown (hbi.trans ((hb5.alloc hb5.size _).mono hbi.size)) hg6 (by have := hbi.size; have := hb5.size; simp; omega) (by intro q e; exact (HI.out.2.1.lt q e).1))))
          go_roundw
          case rel=>exact ⟨1+1,by omega,by go_num,hb6.out,_,hp2,by simp; omega,HP6.out⟩
          case measure=>simp [intOf]
        ·omega
       ·obtain rfl:s=2 := by omega
        go_wp2_with fail
        go_roundw
        case rel=>exact ⟨t+1,by omega,by go_num,hbi,ps1,hp1,by omega,hpk1⟩
        case measure=>simp [intOf]; omega
     ·obtain rfl:t=8 := by omega
      go_wp2_with fail
      go_ret2
      rw [show keysq.take (2 * 8)=keysq from rfl,hQ] at hp0
      cases hp0
      exact ⟨_,ps,by rw [he]; rfl,hbl.trans (hbo.mono hbl.size),hpk0.mono hbl.size,fun h=>absurd he h,fun _=>rfl⟩
 ·have h1:(e != 0)=true := by simp [he]
  have h2:(e==0)=false := by simp [he]
  go_enter Tryd.func11,Tryd.ntmps11
  go_wp2_with (go_at_call 31; refine hR.mono ?_; rintro e' w1 ⟨rfl,hb1⟩)
  go_ret2
  exact ⟨_,[],rfl,hb1,PkR.nil _ _,fun _=>rfl,fun h=>absurd h he⟩
end Go.Proofs.YtahamggipcikgaaDoor
namespace Go.Proofs.YtahamggipcikgaaDoor
open Go.RowKit
theorem pk_enters:Enters Tryd.prog 11 := ⟨_,Tryd.func11,by kernel_rfl,by kernel_rfl⟩
theorem pk_args {vs:Array Value} (h:vs.size=2):vs = #[vs.getD 0 undef,vs.getD 1 undef] := by
 apply Array.ext
 ·simpa using h
 ·intro i hi1 hi2
  have hi:i=0 ∨ i=1 := by simp at hi2; omega
  rcases hi with rfl | rfl <;> simp [Array.getD_eq_getD_getElem?,hi1]
theorem pl_at {α β γ:Type} {s:Nat} (f:α×β→List γ) (hf:∀ p,(f p).length=s):∀ (a:List α) (b:List β) (i j:Nat) (x:α) (y:β),a[i]? = some x→b[i]? = some y→j<s→((a.zip b).flatMap f)[i * s+j]? = (f (x,y))[j]?
 | [],_,i,j,x,y,h,_,_=>by simp at h
 | _ :: _,[],i,j,x,y,_,h,_=>by simp at h
 | a :: l,b :: m,0,j,x,y,h1,h2,hj=>by
  simp only [List.getElem?_cons_zero,Option.some.injEq] at h1 h2
  subst h1 h2
  rw [List.zip_cons_cons,List.flatMap_cons,Nat.zero_mul,Nat.zero_add,List.getElem?_append_left (by rw [hf]; exact hj)]
 | a :: l,b :: m,i+1,j,x,y,h1,h2,hj=>by
  rw [List.zip_cons_cons,List.flatMap_cons,List.getElem?_append_right (by rw [hf,Nat.succ_mul]; omega),hf]
  have:(i+1) * s+j-s=i * s+j := by rw [Nat.succ_mul]; omega
  rw [this]
  exact pl_at f hf l m i j x y (by simpa using h1) (by simpa using h2) hj
set_option maxRecDepth 100000 in
theorem gPack (fu:Nat):(ePack fu).Good Tryd.prog := by
 rintro ⟨(fr:Int),(l:List WR),⟨⟩⟩ y z hp
 have hp:pPack fu (fr,l,())=some (y,z) := hp
 unfold pPack at hp
 by_cases hl:l.length≤1048576
 case neg=>simp [hl] at hp
 rw [show decide (l.length≤1048576)=true from decide_eq_true hl] at hp
 simp only [cond_true] at hp
 cases hr:Bq.p31 fu (fr,l,()) with
 | none=>rw [hr] at hp; cases hp
 | some e' =>
 obtain ⟨⟨⟩,(e:Int)⟩ := e'
 rw [hr] at hp
 simp only [Option.bind_some] at hp
 obtain ⟨ps,hz,hq,hne⟩:∃ ps,some ((),ps,e,())=some (y,z)∧(e=0→packsq fu fr l keysq=some ps)∧(e ≠ 0→ps=[]) := by
  by_cases he:e=0
  ·rw [show (e != 0)=false by simp [he]] at hp
   simp only [cond_false] at hp
   cases hk:packsq fu fr l keysq with
   | none=>rw [hk] at hp; cases hp
   | some ps =>
    rw [hk] at hp
    exact ⟨ps,by rw [he]; exact hp,fun _=>rfl,fun h=>absurd he h⟩
  ·rw [show (e != 0)=true by simp [he]] at hp
   exact ⟨[],hp,fun h=>absurd h he,fun _=>rfl⟩
 obtain ⟨rfl,rfl⟩ := Prod.mk.inj (Option.some.inj hz)
 clear hz hp
 refine ⟨pk_enters,fun ok ρ w vs hmo hgl h1 h2 h3 h4 h5 => ?_⟩
 obtain ⟨A,c,e0,hn,hf⟩:(T.sl .any 15 l.length (rowsT pkT l)).rel (okb ok ρ (lol [])) w (vs.getD 1 undef) := h5 1 _ rfl
 have e1:vs.getD 0 undef = .int .i64 fr := h5 0 _ rfl
 rw [pk_args h4,e0,e1]
 have hT:(T.sl .any 15 l.length (rowsT pkT l)).rel (allB w) w (.slice A l.length c) := T.rel_mono (fun _ g k hg _=>⟨rfl,hg⟩) (⟨A,c,rfl,hn,hf⟩:(T.sl .any 15 l.length (rowsT pkT l)).rel (okb ok ρ (lol [])) w (.slice A l.length c))
 refine (pk_walk w (GlW.of_glb hgl) rfl hl hT hr (ps := ps) hq).mono ?_
 rintro e' w' ⟨v,ps',rfl,hbl,hpk,hne',hq'⟩
 obtain rfl:ps' = ps := by
  by_cases he:e=0
  ·exact hq' he
  ·rw [hne' he,hne he]
 clear hne hne' hq hq'
 obtain ⟨ds,d1,d2,d3⟩ := hpk
 let o1:Ob := (DOb.arr .own pkP pkK 0 ps').toOb
 have main:∃ p:Option Nat,(∀ g,p=some g→v.ownBlock=some g)∧((p=none∧v = .slice none 0 0∧ps'.length=0) ∨ ∃ g cap cur,p=some g∧v = .slice (some ⟨g,0,none⟩) ps'.length cap∧w.heap.size≤g∧w'.heap[g]? = some (.cells cur pkP (0,0))∧ps'.length≤cap∧cap≤maxLen∧cur.size=cap * 4∧cur.toList.take (ps'.length * 4)=(ps'.zip ds).flatMap pcs) := by
  rcases d2.2 with ⟨q,q'⟩ | ⟨g,cap,cur,q,q1,q2,q3,q4,q5,q6⟩
  ·exact ⟨none,fun g h=>(by cases h),.inl ⟨rfl,q,q'⟩⟩
  ·exact ⟨some g,fun g' h=>(by cases h; rw [q]; rfl),.inr ⟨g,cap,cur,rfl,q,q1,q2,q3,q4,q5,q6⟩⟩
 obtain ⟨p,hpo,hmain⟩ := main
 let ρ':Pl := fun k=>if k=0 then p else ρ k
 have hin:∀ {k:Nat} {o:Ob},lol [o1] k=some o→k=0∧o=o1 := fun {k o} h=>by
  rcases k with _ | k
  ·exact ⟨rfl,(Option.some.inj h).symm⟩
  ·simp [lol] at h
 have hown:∀ {g:Nat},own ρ' (lol [o1]) g→p=some g := fun {g} ⟨id,o,a1,a2,a3⟩=>by
  obtain ⟨rfl,rfl⟩ := hin a1
  exact a3
 have hge:∀ {g:Nat},p=some g→w.heap.size≤g∧g<w'.heap.size := fun {g} h=>d2.lt g (hpo g h)
 show ∃ ρ' x,Ending.returned (Value.tuple #[v,.int .i64 e]) = .returned x∧([]:List Ob).length=([]:List Ob).length ∧
  (V.tup 2 fun j=>(dl [DV.buf 0 0 0 ps'.length true,.im (.int .i64) e] j).toV).rel (Env.b ⟨w,ρ,lol [],ok,nobody⟩) ρ' (lol [o1]) w' x ∧
  (∀ k o,lol [o1] k=some o→o.rel (Env.b ⟨w,ρ,lol [],ok,nobody⟩) ρ' (lol [o1]) w' (ρ' k)) ∧
  (∀ k o g,lol [o1] k=some o→o.live=true→ρ' k=some g→(w.heap.size≤g ∨ own ρ (lol []) g)∧g<w'.heap.size) ∧
  (∀ k k' o o' g,lol [o1] k=some o→lol [o1] k' = some o' → o.live=true→o'.live=true→ρ' k=some g→ρ' k' = some g→k=k') ∧
  Ext ρ (lol []) w ρ' (lol [o1]) w' ∧ w.heap.size≤w'.heap.size∧w'.os=w.os∧w'.tape=w.tape∧w'.output=w.output
 refine ⟨ρ',_,rfl,rfl,?_,fun k o hk => ?_,fun k o g hk hl' hg => ?_,fun k k' o o' g hk hk' _ _ hg hg' => ?_,⟨fun g hg _=>⟨hbl.block g hg,fun q=>by have := (hge (hown q)).1; omega⟩,fun g k hg _=>⟨look_of_block (hbl.block g hg),fun q=>by have := (hge (hown (own_of_ownc q))).1; omega⟩,fun id o hid=>by simp [lol] at hid⟩,hbl.size,hbl.os,hbl.tape,hbl.output⟩
 ·refine ⟨_,rfl,rfl,fun j hj => ?_⟩
  rcases j with _ | _ | j
  ·rcases hmain with ⟨q1,q2,q3⟩ | ⟨g,cap,cur,q1,q2,q3,q4,q5,q6,q7,q8⟩
   ·exact ⟨none,0,o1,by rw [q2,q3]; rfl,by rw [q3]; exact Nat.le_refl _,rfl,Nat.le_refl _,fun _=>⟨_,_,_,_,_,rfl,by rw [q3]; exact Nat.zero_le _,.inl ⟨q1,rfl,rfl,rfl⟩⟩⟩
   ·exact ⟨_,cap,o1,q2,q5,rfl,Nat.le_refl _,fun _=>⟨_,_,_,_,_,rfl,by rw [Nat.zero_add]; exact Nat.le_refl _,.inr ⟨g,cur,q1,fun _=>by rw [Nat.zero_mul],q4,by rw [Nat.zero_add]; exact q7.symm⟩⟩⟩
  ·exact (rfl:Value.int .i64 e=_)
  ·omega
 ·obtain ⟨rfl,rfl⟩ := hin hk
  rcases hmain with ⟨q1,q2,q3⟩ | ⟨g,cap,cur,q1,q2,q3,q4,q5,q6,q7,q8⟩
  ·exact .inl ⟨q1,q3⟩
  ·refine .inr ⟨g,cur,cap,q1,q4,q7,q5,⟨q6,fun h=>by cases h⟩,fun i j hi hj => ?_⟩
   have hi:i<ps'.length := hi
   have hj:j<4 := hj
   have hd:ds[i]? = some (ds.getD i undef) := by
    have:i<ds.length := by omega
    simp [List.getD_eq_getElem?_getD,this]
   have hpq:ps'[i]? = some (ps'.getD i (0,0,0,[])) := by simp [List.getD_eq_getElem?_getD,hi]
   have hx := pl_at pcs (s := 4) (fun _=>rfl) ps' ds i j _ _ hpq hd hj
   have hc:cur.getD (i * 4+j) undef=(pcs (ps'.getD i (0,0,0,[]),ds.getD i undef)).getD j undef := by
    rw [← q8,List.getElem?_take,if_pos (by omega)] at hx
    rw [Array.getD_eq_getD_getElem?,← Array.getElem?_toList,hx]
    exact (List.getD_eq_getElem?_getD ..).symm
   show (cur.getD (i * 4+j) undef).oneCell' = true∧T.rel _ w' (cellT pkK (ps'.getD i (0,0,0,[])) j) (cur.getD (i * 4+j) undef)
   rw [hc]
   obtain ⟨r1,r2⟩ := d3 i hi
   rcases j with _ | _ | _ | _ | j
   ·exact ⟨rfl,rfl⟩
   ·exact ⟨rfl,rfl⟩
   ·exact ⟨rfl,rfl⟩
   ·refine ⟨r1,T.rel_mono (fun _ g' k' hg' hcok=>⟨rfl,.inr ⟨by rw [hcok.1]; nofun,.inl hcok.2.1⟩,fun q => ?_⟩) r2⟩
    have := hown (own_of_ownc q)
    exact hcok.2.2 (hpo _ this).symm
   ·omega
 ·obtain ⟨rfl,rfl⟩ := hin hk
  have := hge (show p=some g from hg)
  exact ⟨.inl this.1,this.2⟩
 ·obtain ⟨rfl,rfl⟩ := hin hk
  obtain ⟨rfl,rfl⟩ := hin hk'
  rfl
end Go.Proofs.YtahamggipcikgaaDoor
