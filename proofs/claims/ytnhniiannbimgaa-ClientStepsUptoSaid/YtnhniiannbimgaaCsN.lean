/-
  Layer 21: a client that is given any inputs is the document's.
-/
import Derived.Test.YtnhniiannbimgaaPtC
import Derived.Test.YtnhniiannbimgaaDaP
namespace Go.Proofs.Ytnhniiannbimgaa
open Go.RowKit
theorem f16_1:p16_1=p16 := by
  funext fu x
  unfold p16_1 p16
  rfl
theorem f53_1:p53_1=p53 := by
  funext fu x
  unfold p53_1 p53
  rfl
theorem f54_1:p54_1=p54 := by
  funext fu x
  unfold p54_1 p54
  rfl
theorem f32_1:p32_1=p32 := by
  funext fu x
  unfold p32_1 p32
  rfl
theorem f52_1:p52_1=p52 := by
  funext fu x
  unfold p52_1 p52
  rfl
theorem f60_1:p60_1=p60 := by
  funext fu x
  unfold p60_1 p60
  rfl
theorem f62_1:p62_1=p62 := by
  funext fu x
  unfold p62_1 p62
  rfl
theorem f10_7:p10_7=p10 := by
  funext fu x
  unfold p10_7 p10
  rfl
end Go.Proofs.Ytnhniiannbimgaa
namespace Go.Proofs.Ytnhniiannbimgaa
open Go.RowKit
variable {fu:Nat}
theorem take_snoc' {α:Type} {l:List α} {i:Nat} (h:i<l.length) (d:α):l.take (i+1)=l.take i ++ [l.getD i d] := by
  rw [List.take_add_one,List.getD_eq_getElem?_getD,List.getElem?_eq_getElem h]; rfl
theorem each_is {α R:Type} (l:List α) (d z:α) (f:(List α×Int×Unit)×Unit→Option (((List α×Int×Unit)×Unit) ⊕ R)) (g:List α→R)
    (h1:∀ (i:Nat) (v:List α),i<l.length→v.length=l.length→f ((v,(i:Int),()),())=some (.inl ((v.set i (l.getD i d),((i+1:Nat):Int),()),())))
    (h2:∀ v:List α,v.length=l.length→f ((v,(l.length:Int),()),())=some (.inr (g v))) (hf:l.length<fu):loopO fu f ((List.replicate l.length z,(0:Int),()),())=some (g l) := by
  refine loopO_eq (I := fun s => ∃ i:Nat,s=((l.take i ++ List.replicate (l.length-i) z,(i:Int),()),())∧i≤l.length) (m := fun s=>l.length-s.1.2.1.toNat) (g := fun _=>g l) ?_ fu _ ⟨0,by simp,Nat.zero_le _⟩ (by simpa using hf)
  rintro s ⟨i,rfl,hi⟩
  have hlen:(l.take i ++ List.replicate (l.length-i) z).length=l.length := by simp; omega
  by_cases hi':i<l.length
  · left
    refine ⟨_,h1 i _ hi' hlen,⟨i+1,?_,hi'⟩,by simp only [Int.toNat_natCast]; omega,rfl⟩
    have ht:(l.take i).length=i := by simp; omega
    rw [List.set_append_right _ _ (by omega),ht,Nat.sub_self,show l.length-i=(l.length-(i+1))+1 by omega,List.replicate_succ,List.set_cons_zero,take_snoc' hi' d]
    simp
  · right
    obtain rfl:i=l.length := by omega
    rw [h2 _ hlen]
    simp
def firstN (n:Nat) (p:Nat→Bool):Option Nat := (List.range n).find? p
theorem firstN_some {n i:Nat} {p:Nat→Bool} (h:firstN n p=some i):i<n∧p i=true ∧ ∀ j,j<i→p j=false := by
  unfold firstN at h
  have h' := List.find?_range_eq_some.1 h
  refine ⟨List.mem_range.1 h'.2.1,h'.1,fun j hj => ?_⟩
  simpa using h'.2.2 j hj
theorem firstN_none {n:Nat} {p:Nat→Bool} (h:firstN n p=none):∀ j,j<n→p j=false := fun j hj=>by
  unfold firstN at h
  simpa using List.find?_range_eq_none.1 h j hj
theorem firstN_is {n i:Nat} {p:Nat→Bool} (h1:i<n) (h2:p i=true) (h3:∀ j,j<i→p j=false):firstN n p=some i := by
  unfold firstN
  exact List.find?_range_eq_some.2 ⟨h2,List.mem_range.2 h1,fun j hj=>by simpa using h3 j hj⟩
theorem firstN_isNone {n:Nat} {p:Nat→Bool} (h3:∀ j,j<n→p j=false):firstN n p=none := by
  unfold firstN
  exact List.find?_range_eq_none.2 fun j hj=>by simpa using h3 j hj
theorem scan_is {R:Type} (n:Nat) (f:(Int×Unit)×Unit→Option (((Int×Unit)×Unit) ⊕ R)) (p:Nat→Bool) (rT:Nat→R) (rF:R)
    (h1:∀ i:Nat,i<n→f (((i:Int),()),())=bif p i then some (.inr (rT i)) else some (.inl ((((i+1:Nat):Int),()),())))
    (h2:f (((n:Int),()),())=some (.inr rF)) (hf:n<fu):loopO fu f (((0:Int),()),())=some (match firstN n p with | some i=>rT i | none=>rF) := by
  refine loopO_eq (I := fun s => ∃ i:Nat,s=(((i:Int),()),())∧i≤n ∧ ∀ j,j<i→p j=false) (m := fun s=>n-s.1.1.toNat) (g := fun _=>match firstN n p with | some i=>rT i | none=>rF) ?_ fu _ ⟨0,rfl,Nat.zero_le _,fun j hj=>absurd hj (Nat.not_lt_zero _)⟩ (by simpa using hf)
  rintro s ⟨i,rfl,hi,hp⟩
  by_cases hi':i<n
  · cases hpi:p i with
    | true=>right; rw [h1 i hi',hpi,firstN_is hi' hpi hp]; rfl
    | false =>
      left
      refine ⟨_,by rw [h1 i hi',hpi]; rfl,⟨i+1,rfl,hi',fun j hj => ?_⟩,by simp only [Int.toNat_natCast]; omega,rfl⟩
      rcases Nat.lt_succ_iff_lt_or_eq.1 hj with h | rfl
      · exact hp j h
      · exact hpi
  · right
    obtain rfl:i=n := by omega
    rw [h2,firstN_isNone hp]
theorem copyL_all {α:Type} (l:List α) (d:α):copyL (List.replicate l.length d) 0 l.length l=l := by
  simp [copyL]
theorem p16_is (l:List Int) (h:l.length * 8≤140737488355328):p16 fu (l,())=some ((),l) := by
  unfold p16
  cases l with
  | nil=>rfl
  | cons a l =>
    have h0:(((a :: l).length:Int)==0)=false := by simp; omega
    have h1:(0:Int)≤((a :: l).length:Int)∧((a :: l).length:Int)≤((a :: l).length:Int)∧((a :: l).length:Int)≤9223372036854775807∧(8:Int) * ((a :: l).length:Int)≤140737488355328 := by omega
    simp only [h0,cond_false,h1,and_self,decide_true,cond_true,Int.toNat_natCast,List.length_replicate,copyL_all]
theorem p53_is (l:List Int) (h:l.length≤140737488355328):p53 fu (l,())=some ((),l) := by
  unfold p53
  cases l with
  | nil=>rfl
  | cons a l =>
    have h0:(((a :: l).length:Int)==0)=false := by simp; omega
    have h1:(0:Int)≤((a :: l).length:Int)∧((a :: l).length:Int)≤((a :: l).length:Int)∧((a :: l).length:Int)≤9223372036854775807∧(1:Int) * ((a :: l).length:Int)≤140737488355328 := by omega
    simp only [h0,cond_false,h1,and_self,decide_true,cond_true,Int.toNat_natCast,List.length_replicate,copyL_all]
theorem p31_is (l:List D_api_Site) (h:l.length * 16≤140737488355328):p31 fu (l,())=some ((),l) := by
  unfold p31
  cases l with
  | nil=>rfl
  | cons a l =>
    have h0:(((a :: l).length:Int)==0)=false := by simp; omega
    have h1:(0:Int)≤((a :: l).length:Int)∧((a :: l).length:Int)≤((a :: l).length:Int)∧((a :: l).length:Int)≤9223372036854775807∧(16:Int) * ((a :: l).length:Int)≤140737488355328 := by omega
    simp only [h0,cond_false,h1,and_self,decide_true,cond_true,Int.toNat_natCast,List.length_replicate,copyL_all]
def shOk (s:D_api_Shard):Prop := s.2.2.2.1.length≤1048576∧s.2.2.2.2.1.length≤1048576
def shsOk (l:List D_api_Shard):Prop := l.length≤1048576 ∧ ∀ s ∈ l,shOk s
theorem p72_is (s:D_api_Shard) (h:shOk s):p72 fu ((s.1,s.2.1.1,s.2.1.2,s.2.2.1,s.2.2.2.1,s.2.2.2.2.1,s.2.2.2.2.2,()),())=some ((),(s.1,s.2.1.1,s.2.1.2,s.2.2.1,s.2.2.2.1,s.2.2.2.2.1,s.2.2.2.2.2,())) := by
  unfold p72
  rw [f16_1]
  have h1 := h.1
  have h2 := h.2
  simp only [p16_is _ (show s.2.2.2.1.length * 8≤140737488355328 by omega),p16_is _ (show s.2.2.2.2.1.length * 8≤140737488355328 by omega),bind_val,decide_true,cond_true]
theorem p71_is (l:List D_api_Shard) (h:shsOk l) (hf:l.length<fu):p71 fu (l,((),()),())=some ((),l) := by
  unfold p71
  obtain ⟨h1,h3⟩ := h
  cases hl0:l with
  | nil=>rfl
  | cons a0 l0 =>
    rw [← hl0]
    have h0:((l.length:Int)==0)=false := by rw [hl0]; simp; omega
    have h4:(0:Int)≤(l.length:Int)∧(l.length:Int)≤(l.length:Int)∧(l.length:Int)≤9223372036854775807∧(104:Int) * (l.length:Int)≤140737488355328 := by omega
    simp only [h0,cond_false,h4,and_self,decide_true,cond_true,Int.toNat_natCast,List.length_replicate]
    refine each_is l (dflt T_api_Shard) _ _ (fun v=>((),v)) (fun i v hi hv => ?_) (fun v hv => ?_) hf
    · have hm:l.getD i (dflt T_api_Shard) ∈ l := by rw [getD_lt hi]; exact List.getElem_mem _
      have e := p72_is (fu := fu) (l.getD i (dflt T_api_Shard)) (h3 _ hm)
      simp only [Int.ofNat_lt,hi,decide_true,cond_true,Int.natCast_nonneg,and_self,Int.toNat_natCast,e,bind_val,hv,List.length_set,i64_succ hi (show l.length≤9223372036854775807 by omega)]
    · simp only [Int.lt_irrefl,decide_false,cond_false,inrO_val]
theorem p52_is (l:List D_api_Shard) (h:shsOk l) (hf:l.length<fu):p52 fu (l,())=some ((),l) := by
  unfold p52
  simp only [p71_is l h hf,bind_val,decide_true,cond_true]
theorem p51_is (a:ByteArray) (l:List D_api_Shard) (h:shsOk l) (hf:l.length<fu):p51 fu ((a,l,()),())=some ((),(a,l,())) := by
  unfold p51
  simp only [p52_is l h hf,bind_val,decide_true,cond_true]
def topOk (n:Nat) (l:List D_api_Topic):Prop := l.length≤n ∧ ∀ t ∈ l,shsOk t.2
theorem p50_is {n:Nat} (hn:n≤4194304) (l:List D_api_Topic) (h:topOk n l) (hf:4194304<fu):p50 fu (l,((),()),())=some ((),l) := by
  unfold p50
  obtain ⟨h1,h3⟩ := h
  cases hl0:l with
  | nil=>rfl
  | cons a0 l0 =>
    rw [← hl0]
    have h0:((l.length:Int)==0)=false := by rw [hl0]; simp; omega
    have h4:(0:Int)≤(l.length:Int)∧(l.length:Int)≤(l.length:Int)∧(l.length:Int)≤9223372036854775807∧(40:Int) * (l.length:Int)≤140737488355328 := by omega
    simp only [h0,cond_false,h4,and_self,decide_true,cond_true,Int.toNat_natCast,List.length_replicate]
    refine each_is l (dflt T_api_Topic) _ _ (fun v=>((),v)) (fun i v hi hv => ?_) (fun v hv => ?_) (by omega)
    · have hm:l.getD i (dflt T_api_Topic) ∈ l := by rw [getD_lt hi]; exact List.getElem_mem _
      have hq := h3 _ hm
      have e := p51_is (fu := fu) (l.getD i (dflt T_api_Topic)).1 (l.getD i (dflt T_api_Topic)).2 hq (by have := hq.1; omega)
      simp only [Int.ofNat_lt,hi,decide_true,cond_true,Int.natCast_nonneg,and_self,Int.toNat_natCast,e,bind_val,hv,List.length_set,i64_succ hi (show l.length≤9223372036854775807 by omega)]
    · simp only [Int.lt_irrefl,decide_false,cond_false,inrO_val]
theorem p30_is {n:Nat} (hn:n≤4194304) (l:List D_api_Topic) (h:topOk n l) (hf:4194304<fu):p30 fu (l,())=some ((),l) := by
  unfold p30
  simp only [p50_is hn l h hf,bind_val,decide_true,cond_true]
structure Adm where
  (k p s:Int) (t:ByteArray) (ns:List Int) (f g:Int) (ky:ByteArray) (h i j l:Int)
@[reducible] def Adm.fl {α:Type} (a:Adm) (r:α) := (a.k,a.p,a.s,a.t,a.ns,a.f,a.g,a.ky,a.h,a.i,a.j,a.l,r)
structure Ca where
  (kind:Int) (topic key:ByteArray) (value:List Int) (offset most:Int) (name:ByteArray) (adm:Adm)
@[reducible] def Ca.fl {α:Type} (c:Ca) (r:α) := (c.kind,c.topic,c.key,c.value,c.offset,c.most,c.name,c.adm.k,c.adm.p,c.adm.s,c.adm.t,c.adm.ns,c.adm.f,c.adm.g,c.adm.ky,c.adm.h,c.adm.i,c.adm.j,c.adm.l,r)
def Adm.zero:Adm := ⟨0,0,0,⟨#[]⟩,[],0,0,⟨#[]⟩,0,0,0,0⟩
def Ca.zero:Ca := ⟨0,⟨#[]⟩,⟨#[]⟩,[],0,0,⟨#[]⟩,Adm.zero⟩
structure Cl where
  (id:Int) (servers:List Int) (producer seq:Int) (topics:List D_api_Topic) (leaders:List D_api_Site) (busy:Bool) (call:Ca) (number:Int) (route:Bool) (group tries waited:Int) (again:Bool) (at':Int)
@[reducible] def Cl.fl {α:Type} (c:Cl) (r:α) := (c.id,c.servers,c.producer,c.seq,c.topics,c.leaders,c.busy,c.call.kind,c.call.topic,c.call.key,c.call.value,c.call.offset,c.call.most,c.call.name,c.call.adm.k,c.call.adm.p,c.call.adm.s,c.call.adm.t,c.call.adm.ns,c.call.adm.f,c.call.adm.g,c.call.adm.ky,c.call.adm.h,c.call.adm.i,c.call.adm.j,c.call.adm.l,c.number,c.route,c.group,c.tries,c.waited,c.again,c.at',r)
def Ca.ok (c:Ca):Prop := c.value.length≤1048576∧c.adm.ns.length≤1048576
theorem Ca.zero_ok:Ca.zero.ok := ⟨Nat.zero_le _,Nat.zero_le _⟩
theorem p54_is (a:Adm) (h:a.ns.length≤1048576):p54 fu (a.fl (),())=some ((),a.fl ()) := by
  unfold p54
  rw [f16_1]
  simp only [Adm.fl,p16_is _ (show a.ns.length * 8≤140737488355328 by omega),bind_val,decide_true,cond_true]
theorem p32_is (c:Ca) (h:c.ok):p32 fu (c.fl (),())=some ((),c.fl ()) := by
  have e := p54_is (fu := fu) c.adm h.2
  have h1 := h.1
  simp only [Adm.fl] at e
  unfold p32
  simp only [Ca.fl,p53_is _ (show c.value.length≤140737488355328 by omega),e,bind_val,decide_true,cond_true]
structure Cl.ok (n:Nat) (c:Cl):Prop where
  sv:c.servers.length≤1048576
  at0:0≤c.at'
  at1:c.at' < (c.servers.length:Int)
  top:topOk n c.topics
  ld:c.leaders.length≤n
  ca:c.call.ok
theorem p17_is {n:Nat} (hn:n≤4194304) (c:Cl) (h:c.ok n) (hf:4194304<fu):p17 fu (c.fl (),())=some ((),c.fl ()) := by
  have e := p32_is (fu := fu) c.call h.ca
  have h1 := h.sv
  have h2 := h.ld
  simp only [Ca.fl] at e
  unfold p17
  simp only [Cl.fl,p16_is _ (show c.servers.length * 8≤140737488355328 by omega),p30_is hn _ h.top hf,p31_is _ (show c.leaders.length * 16≤140737488355328 by omega),e,bind_val,decide_true,cond_true]
end Go.Proofs.Ytnhniiannbimgaa
namespace Go.Proofs.Ytnhniiannbimgaa
open Go.RowKit
variable {fu:Nat}
def vals (l:List D_api_Record):List Int := l.flatMap fun x=>x.2.2.1
theorem vals_app (a b:List D_api_Record):vals (a ++ b)=vals a ++ vals b := List.flatMap_append
theorem vals_snoc (l:List D_api_Record) (x:D_api_Record):vals (l ++ [x])=vals l ++ x.2.2.1 := by simp [vals]
theorem vals_take {l:List D_api_Record} {i:Nat} (h:i<l.length):(vals (l.take i)).length+(l.getD i (dflt T_api_Record)).2.2.1.length≤(vals l).length := by
  have h1 := congrArg vals (take_snoc' h (dflt T_api_Record))
  rw [vals_snoc] at h1
  have h2:vals l=vals (l.take (i+1)) ++ vals (l.drop (i+1)) := by rw [← vals_app,List.take_append_drop]
  rw [h2,h1]
  simp only [List.length_append]
  omega
def recOk (l:List D_api_Record):Prop := l.length≤1048576 ∧ ∀ x ∈ l,x.2.2.1.length≤1048576
theorem vals_le:∀ (l:List D_api_Record),(∀ x ∈ l,x.2.2.1.length≤1048576)→(vals l).length≤l.length * 1048576
  | [],_=>by simp [vals]
  | x :: l,h=>by
    have h1 := vals_le l fun y hy=>h y (List.mem_cons_of_mem _ hy)
    have h2 := h x (List.mem_cons_self ..)
    have e:vals (x :: l)=x.2.2.1 ++ vals l := by simp [vals]
    rw [e,List.length_append,List.length_cons,Nat.add_mul]
    omega
theorem p101_is (a b:List Int) (h:a.length+b.length≤140737488355328):p101 fu ((a,()),b,())=some (((a ++ b,()),(),()),b) := by
  unfold p101
  cases b with
  | nil=>simp
  | cons c b =>
    have h0:(((c :: b).length:Int)==0)=false := by simp; omega
    have h1:a.length+(c :: b).length≤maxLen∧(a.length+(c :: b).length) * 1≤140737488355328 := ⟨by unfold maxLen; omega,by omega⟩
    have h2:slice' (a ++ c :: b) a.length (some (a ++ c :: b).length)=c :: b := by
      cases a with
      | nil=>simp [slice']
      | cons x a=>simp [slice']
    have h3:a.length≤(a ++ c :: b).length∧(a ++ c :: b).length≤(a ++ c :: b).length∧(a ++ c :: b).length≤(a ++ c :: b).length∧0+(a ++ c :: b).length≤(a ++ c :: b).length := by simp
    simp only [h0,cond_false,h1,and_self,decide_true,cond_true,Int.natCast_nonneg,Int.toNat_natCast,h3,h2]
theorem p100_is (x:D_api_Record) (r:List Int) (hd:r.length+x.2.2.1.length≤140737488355328) :
    p100 fu ((x.1,x.2.1,x.2.2.1,x.2.2.2.1,x.2.2.2.2,()),((r,()),()),())=some ((((),()),(r ++ x.2.2.1,()),(),()),(x.1,x.2.1,x.2.2.1,x.2.2.2.1,x.2.2.2.2,())) := by
  unfold p100
  simp only [p101_is _ _ hd,bind_val,decide_true,cond_true]
theorem p99_is (l:List D_api_Record) (h:recOk l) (hf:4194304<fu):p99 fu (l,((),(((([]:List Int),()),()),())),())=some ((((),()),(vals l,()),(),()),l) := by
  unfold p99
  obtain ⟨h1,h3⟩ := h
  have h2 := vals_le l h3
  cases hl0:l with
  | nil=>rfl
  | cons a0 l0 =>
    rw [← hl0]
    have h0:((l.length:Int)==0)=false := by rw [hl0]; simp; omega
    have h4:(0:Int)≤(l.length:Int)∧(l.length:Int)≤(l.length:Int)∧(l.length:Int)≤9223372036854775807∧(64:Int) * (l.length:Int)≤140737488355328 := by omega
    simp only [h0,cond_false,h4,and_self,decide_true,cond_true,Int.toNat_natCast,List.length_replicate]
    refine loopO_eq (I := fun s => ∃ i:Nat,s=((l.take i ++ List.replicate (l.length-i) (dflt T_api_Record),(i:Int),()),(((),()),(vals (l.take i),()),()))∧i≤l.length)
      (m := fun s=>l.length-s.1.2.1.toNat) (g := fun _=>((((),()),(vals l,()),(),()),l)) ?_ fu _ ⟨0,by simp only [List.take_zero,List.nil_append,Nat.sub_zero,vals,List.flatMap_nil]; rfl,Nat.zero_le _⟩ (by simp; omega)
    rintro s ⟨i,rfl,hi⟩
    by_cases hi':i<l.length
    · left
      have hx := vals_take hi'
      have hm:l.getD i (dflt T_api_Record) ∈ l := by rw [getD_lt hi']; exact List.getElem_mem _
      have e := p100_is (fu := fu) (l.getD i (dflt T_api_Record)) (vals (l.take i)) (by omega)
      have hlen:(l.take i ++ List.replicate (l.length-i) (dflt T_api_Record)).length=l.length := by simp; omega
      refine ⟨((l.take (i+1) ++ List.replicate (l.length-(i+1)) (dflt T_api_Record),((i+1:Nat):Int),()),(((),()),(vals (l.take (i+1)),()),())),?_,⟨i+1,rfl,hi'⟩,by simp only [Int.toNat_natCast]; omega,rfl⟩
      have hs:(l.take i ++ List.replicate (l.length-i) (dflt T_api_Record)).set i (l.getD i (dflt T_api_Record))=l.take (i+1) ++ List.replicate (l.length-(i+1)) (dflt T_api_Record) := by
        have ht:(l.take i).length=i := by simp; omega
        rw [List.set_append_right _ _ (by omega),ht,Nat.sub_self,show l.length-i=(l.length-(i+1))+1 by omega,List.replicate_succ,List.set_cons_zero,take_snoc' hi' (dflt T_api_Record)]
        simp
      rw [take_snoc' hi' (dflt T_api_Record),vals_snoc,← take_snoc' hi' (dflt T_api_Record),← hs]
      simp only [Int.ofNat_lt,hi',decide_true,cond_true,Int.natCast_nonneg,and_self,Int.toNat_natCast,e,bind_val,hlen,List.length_set,i64_succ hi' (show l.length≤9223372036854775807 by omega)]
    · right
      obtain rfl:i=l.length := by omega
      simp [inrO]
theorem p98_is (n:Nat) (h:n≤140737488355328):p98 fu ((n:Int),())=some ((),([],())) := by
  unfold p98
  have h1:(0:Int)≤0∧(0:Int)≤(n:Int)∧(n:Int)≤9223372036854775807∧(1:Int) * (n:Int)≤140737488355328 := by omega
  simp only [h1,and_self,decide_true,cond_true]; rfl
theorem p93_is (l:List D_api_Record) (h:recOk l) (hf:4194304<fu):p93 fu (l,())=some ((),l) := by
  unfold p93
  have h1 := h.1
  have h2 := vals_le l h.2
  refine loopO_eq (I := fun s => ∃ i:Nat,s=((((vals (l.take i)).length:Int),(i:Int),()),())∧i≤l.length) (m := fun s=>l.length-s.1.2.1.toNat) (g := fun _=>((),l)) ?_ fu _ ⟨0,by simp [vals],Nat.zero_le _⟩ (by simp; omega)
  rintro s ⟨i,rfl,hi⟩
  by_cases hi':i<l.length
  · left
    have hx := vals_take hi'
    refine ⟨((((vals (l.take (i+1))).length:Int),((i+1:Nat):Int),()),()),?_,⟨i+1,rfl,hi'⟩,by simp only [Int.toNat_natCast]; omega,rfl⟩
    have hw:IntKind.wrap .i64 (((vals (l.take i)).length:Int)+((l.getD i (dflt T_api_Record)).2.2.1.length:Int))=((vals (l.take (i+1))).length:Int) := by
      rw [take_snoc' hi' (dflt T_api_Record),vals_snoc,i64_wrap (by omega) (by omega),List.length_append]; omega
    simp only [Int.ofNat_lt,hi',decide_true,cond_true,Int.natCast_nonneg,and_self,Int.toNat_natCast,hw,i64_succ hi' (show l.length≤9223372036854775807 by omega)]
  · right
    obtain rfl:i=l.length := by omega
    rw [List.take_length]
    simp only [Int.lt_irrefl,decide_false,cond_false,p98_is (fu := fu) _ (show (vals l).length≤140737488355328 by omega),bind_val,decide_true,cond_true,p99_is l h hf,inrO_val]
structure Rep where
  (id err leader x3 x4:Int) (x5:Bool) (recs:List D_api_Record) (x7:Int) (shards:List D_api_Shard) (x9 x10 x11:Int)
@[reducible] def Rep.fl {α:Type} (c:Rep) (r:α) := (c.id,c.err,c.leader,c.x3,c.x4,c.x5,c.recs,c.x7,c.shards,c.x9,c.x10,c.x11,r)
def Rep.ok (r:Rep):Prop := recOk r.recs∧shsOk r.shards
def Rep.zero:Rep := ⟨0,0,0,0,0,false,[],0,[],0,0,0⟩
theorem p80_is (r:Rep) (h:r.ok) (hf:4194304<fu):p80 fu (r.fl (),())=some ((),r.fl ()) := by
  have h1 := h.2.1
  unfold p80
  simp only [Rep.fl,p93_is _ h.1 hf,p52_is (fu := fu) _ h.2 (by omega),bind_val,decide_true,cond_true]
structure Part where
  (kind epoch producer seq:Int) (key:ByteArray) (value:List Int) (offset most:Int) (name:ByteArray) (plan:Int)
def Part.zero:Part := ⟨0,0,0,0,⟨#[]⟩,[],0,0,⟨#[]⟩,0⟩
@[reducible] def Part.fl {α:Type} (p:Part) (r:α) := (p.kind,p.epoch,p.producer,p.seq,p.key,p.value,p.offset,p.most,p.name,p.plan,r)
structure Req where
  (id kind group:Int) (part:Part) (adm:Adm) (topic:ByteArray)
def Req.zero:Req := ⟨0,0,0,Part.zero,Adm.zero,⟨#[]⟩⟩
@[reducible] def Req.fl {α:Type} (q:Req) (r:α) := (q.id,q.kind,q.group,q.part.kind,q.part.epoch,q.part.producer,q.part.seq,q.part.key,q.part.value,q.part.offset,q.part.most,q.part.name,q.part.plan,q.adm.k,q.adm.p,q.adm.s,q.adm.t,q.adm.ns,q.adm.f,q.adm.g,q.adm.ky,q.adm.h,q.adm.i,q.adm.j,q.adm.l,q.topic,r)
structure Out where
  (send:Bool) (to:Int) (req:Req) (done:Bool) (rep:Rep)
def Out.zero:Out := ⟨false,0,Req.zero,false,Rep.zero⟩
@[reducible] def Out.fl (o:Out) := (o.send,o.to,o.req.id,o.req.kind,o.req.group,o.req.part.kind,o.req.part.epoch,o.req.part.producer,o.req.part.seq,o.req.part.key,o.req.part.value,o.req.part.offset,o.req.part.most,o.req.part.name,o.req.part.plan,o.req.adm.k,o.req.adm.p,o.req.adm.s,o.req.adm.t,o.req.adm.ns,o.req.adm.f,o.req.adm.g,o.req.adm.ky,o.req.adm.h,o.req.adm.i,o.req.adm.j,o.req.adm.l,o.req.topic,o.done,o.rep.id,o.rep.err,o.rep.leader,o.rep.x3,o.rep.x4,o.rep.x5,o.rep.recs,o.rep.x7,o.rep.shards,o.rep.x9,o.rep.x10,o.rep.x11,())
@[reducible] def zN := (false,(0:Int),(0:Int),(0:Int),(0:Int),(0:Int),(0:Int),(0:Int),(0:Int),(⟨#[]⟩:ByteArray),(),(0:Int),(0:Int),(⟨#[]⟩:ByteArray),(0:Int),(0:Int),(0:Int),(0:Int),(⟨#[]⟩:ByteArray),(),(0:Int),(0:Int),(⟨#[]⟩:ByteArray),(0:Int),(0:Int),(0:Int),(0:Int),(⟨#[]⟩:ByteArray),false,(0:Int),(0:Int),(0:Int),(0:Int),(0:Int),false,(),(0:Int),(),(0:Int),(0:Int),(0:Int),())
@[reducible] def zL := (false,(0:Int),(0:Int),(0:Int),(0:Int),(0:Int),(0:Int),(0:Int),(0:Int),(⟨#[]⟩:ByteArray),([]:List Int),(0:Int),(0:Int),(⟨#[]⟩:ByteArray),(0:Int),(0:Int),(0:Int),(0:Int),(⟨#[]⟩:ByteArray),([]:List Int),(0:Int),(0:Int),(⟨#[]⟩:ByteArray),(0:Int),(0:Int),(0:Int),(0:Int),(⟨#[]⟩:ByteArray),false,(0:Int),(0:Int),(0:Int),(0:Int),(0:Int),false,([]:List D_api_Record),(0:Int),([]:List D_api_Shard),(0:Int),(0:Int),(0:Int),())
theorem p91_is (l:List D_api_Site) (g:Int) (hl:l.length≤4194304) (hf:4194304<fu):p91 fu (l,((),((g,()),())),())=some (((g,()),()),match firstN l.length (fun i=>(l.getD i (dflt T_api_Site)).1==g) with | some i=>(i:Int) | none => -1) := by
  unfold p91
  try dsimp only
  rw [scan_is l.length _ (fun i=>(l.getD i (dflt T_api_Site)).1==g) (fun i=>(((g,()),()),(i:Int))) (((g,()),()),(-1:Int)) (fun i hi => ?_) ?_ (by omega)]
  · cases firstN l.length (fun i=>(l.getD i (dflt T_api_Site)).1==g) <;> rfl
  · simp only [Int.lt_irrefl,decide_false,cond_false,inrO_val]
  · unfold p92
    simp only [Int.ofNat_lt,hi,decide_true,cond_true,Int.natCast_nonneg,and_self,Int.toNat_natCast,bind_val,inrO_val,i64_succ hi (show l.length≤9223372036854775807 by omega)]
theorem p88_is (l:List D_api_Topic) (g:ByteArray) (hl:l.length≤4194304) (hf:4194304<fu):p88_1 fu (l,((),((g,()),())),())=some (((g,()),()),match firstN l.length (fun i=>(l.getD i (dflt T_api_Topic)).1.toList==g.toList) with | some i=>(i:Int) | none => -1) := by
  unfold p88_1
  try dsimp only
  rw [scan_is l.length _ (fun i=>(l.getD i (dflt T_api_Topic)).1.toList==g.toList) (fun i=>(((g,()),()),(i:Int))) (((g,()),()),(-1:Int)) (fun i hi => ?_) ?_ (by omega)]
  · cases firstN l.length (fun i=>(l.getD i (dflt T_api_Topic)).1.toList==g.toList) <;> rfl
  · simp only [Int.lt_irrefl,decide_false,cond_false,inrO_val]
  · unfold p89_1
    simp only [Int.ofNat_lt,hi,decide_true,cond_true,Int.natCast_nonneg,and_self,Int.toNat_natCast,bind_val,inrO_val,i64_succ hi (show l.length≤9223372036854775807 by omega)]
def Cl.server (c:Cl):Int := c.servers.getD c.at'.toNat 0
theorem p86_is {n:Nat} (c:Cl) (h:c.ok n):p86 fu (c.fl zL,())=some ((),c.server) := by
  have h1 := h.sv
  have h2 := h.at0
  have h3 := h.at1
  have e0:((c.servers.length:Int)==0)=false := beq_eq_false_iff_ne.2 (by omega)
  have e1:Int.tmod c.at' (c.servers.length:Int)=c.at' := Int.tmod_eq_of_lt h2 h3
  have e2:IntKind.wrap .i64 (c.at' + (c.servers.length:Int))=c.at' + (c.servers.length:Int) := i64_wrap (by omega) (by omega)
  have e3:Int.tmod (c.at' + (c.servers.length:Int)) (c.servers.length:Int)=c.at' := by
    rw [Int.tmod_eq_emod_of_nonneg (by omega),Int.add_emod_right,Int.emod_eq_of_lt h2 h3]
  have e4:c.at'.toNat<c.servers.length := by omega
  unfold p86
  simp only [e0,cond_false,Bool.not_false,cond_true,e1,e2,e3,h2,h3,and_self,decide_true,e4]
  rfl
def Cl.to (c:Cl) (g:Int):Int := match firstN c.leaders.length (fun i=>(c.leaders.getD i (dflt T_api_Site)).1==g) with
  | some i=>(c.leaders.getD i (dflt T_api_Site)).2
  | none=>c.server
theorem p85_is {n:Nat} (hn:n≤4194304) (c:Cl) (h:c.ok n) (g:Int) (hf:4194304<fu):p85 fu (c.fl zL,g,())=some ((),c.to g) := by
  have hl := h.ld
  have e := p86_is (fu := fu) c h
  simp only [Cl.fl,zL] at e
  unfold p85 p79
  simp only [bind_val,p91_is c.leaders g (by omega) hf,e]
  unfold Cl.to
  cases hc:firstN c.leaders.length (fun i=>(c.leaders.getD i (dflt T_api_Site)).1==g) with
  | none=>rfl
  | some i =>
    have hi := (firstN_some hc).1
    have h0:((i:Int)≥0) := by omega
    simp only [h0,decide_true,cond_true,Int.ofNat_lt,hi,and_self,Int.toNat_natCast]
end Go.Proofs.Ytnhniiannbimgaa
namespace Go.Proofs.Ytnhniiannbimgaa
open Go.RowKit
variable {fu:Nat}
def abvK (hi k:ByteArray):Bool := (hi.toList==(⟨#[]⟩:ByteArray).toList) || !(Op.bytesLess hi.toList k.toList||hi.toList==k.toList)
def chkK (lo hi:ByteArray):Int := bif !(decide ((lo.size:Int)≤32)) then 131 else bif !(decide ((hi.size:Int)≤32)) then 131 else bif !(abvK hi lo) then 132 else 0
def hasK (lo hi k:ByteArray):Bool := (chkK lo hi==0) && (decide ((k.size:Int)≤32) && (!Op.bytesLess k.toList lo.toList && abvK hi k))
theorem p97_is (hi k:ByteArray):p97 fu ((hi,hi.toList==(⟨#[]⟩:ByteArray).toList,()),k,())=some ((),abvK hi k) := by
  unfold p97 abvK
  try dsimp only
  cases hi.toList==(⟨#[]⟩:ByteArray).toList <;> rfl
theorem p94_is (lo hi:ByteArray):p94 fu ((lo,hi,()),())=some ((),chkK lo hi) := by
  unfold p94 p95 p96 chkK
  simp only [bind_val,p97_is]
  cases decide ((lo.size:Int)≤32) <;> cases decide ((hi.size:Int)≤32) <;> cases abvK hi lo <;> rfl
theorem p90_is (lo hi k:ByteArray):p90 fu ((lo,hi,()),k,())=some ((),hasK lo hi k) := by
  unfold p90 p95 p96 hasK
  simp only [bind_val,p94_is,p97_is]
  cases chkK lo hi==0 <;> cases decide ((k.size:Int)≤32) <;> cases Op.bytesLess k.toList lo.toList <;> cases abvK hi k <;> rfl
def Cl.topic? (c:Cl):Option Nat := firstN c.topics.length (fun i=>(c.topics.getD i (dflt T_api_Topic)).1.toList==c.call.topic.toList)
def shardN (l:List D_api_Shard) (k:ByteArray):Option Nat := firstN l.length fun j=>hasK (l.getD j (dflt T_api_Shard)).2.1.1 (l.getD j (dflt T_api_Shard)).2.1.2 k
def Cl.shard? (c:Cl):Option D_api_Shard := match c.topic? with
  | none=>none
  | some i=>match shardN (c.topics.getD i (dflt T_api_Topic)).2 c.call.key with
    | none=>none
    | some j=>some ((c.topics.getD i (dflt T_api_Topic)).2.getD j (dflt T_api_Shard))
@[reducible] def shF {α:Type} (s:D_api_Shard) (r:α) := (s.1,s.2.1.1,s.2.1.2,s.2.2.1,s.2.2.2.1,s.2.2.2.2.1,s.2.2.2.2.2,r)
theorem p77_is {n:Nat} (hn:n≤4194304) (c:Cl) (h:c.ok n) (hf:4194304<fu):p77_1 fu (c.fl zN,())=some ((c.fl zN,(),(),(),(),(),()),(shF (c.shard?.getD (dflt T_api_Shard)) (),c.shard?.isSome,())) := by
  have ht := h.top.1
  unfold p77_1 p76 Cl.shard? Cl.topic?
  simp only [Cl.fl,zN,bind_val,p88_is c.topics c.call.topic (by omega) hf]
  cases hc:firstN c.topics.length (fun i=>(c.topics.getD i (dflt T_api_Topic)).1.toList==c.call.topic.toList) with
  | none=>rfl
  | some i =>
    have hi := (firstN_some hc).1
    have h0:¬ ((i:Int)<0) := by omega
    have hm:c.topics.getD i (dflt T_api_Topic) ∈ c.topics := by rw [getD_lt hi]; exact List.getElem_mem _
    have hs := (h.top.2 _ hm).1
    simp only [h0,decide_false,cond_false,decide_true,cond_true,Int.natCast_nonneg,Int.ofNat_lt,hi,and_self,Int.toNat_natCast]
    rw [scan_is (c.topics.getD i (dflt T_api_Topic)).2.length _ (fun j=>hasK ((c.topics.getD i (dflt T_api_Topic)).2.getD j (dflt T_api_Shard)).2.1.1 ((c.topics.getD i (dflt T_api_Topic)).2.getD j (dflt T_api_Shard)).2.1.2 c.call.key)
      (fun j=>((c.fl zN,(),(),(),(),(),()),(shF ((c.topics.getD i (dflt T_api_Topic)).2.getD j (dflt T_api_Shard)) (),true,()))) ((c.fl zN,(),(),(),(),(),()),(shF (dflt T_api_Shard) (),false,())) (fun j hj => ?_) ?_ (by omega)]
    · unfold shardN
      cases firstN (c.topics.getD i (dflt T_api_Topic)).2.length (fun j=>hasK ((c.topics.getD i (dflt T_api_Topic)).2.getD j (dflt T_api_Shard)).2.1.1 ((c.topics.getD i (dflt T_api_Topic)).2.getD j (dflt T_api_Shard)).2.1.2 c.call.key) <;> rfl
    · simp only [Int.lt_irrefl,decide_false,cond_false,inrO_val]; rfl
    · simp only [Int.ofNat_lt,hj,decide_true,cond_true,Int.natCast_nonneg,and_self,Int.toNat_natCast,p90_is,bind_val,inrO_val,i64_succ hj (show (c.topics.getD i (dflt T_api_Topic)).2.length≤9223372036854775807 by omega)]
def Cl.command (c:Cl) (e:Int):Part :=
  if c.call.kind=1 then ⟨1,e,c.producer,c.seq,c.call.key,c.call.value,0,0,⟨#[]⟩,0⟩
  else if c.call.kind=2 then ⟨2,e,0,0,⟨#[]⟩,[],c.call.offset,c.call.most,⟨#[]⟩,0⟩
  else if c.call.kind=3 then ⟨3,e,c.producer,c.seq,⟨#[]⟩,[],c.call.offset,0,c.call.name,0⟩
  else ⟨4,e,0,0,⟨#[]⟩,[],0,0,c.call.name,0⟩
theorem beqT {a b:Int} (h:a=b):(a==b)=true := beq_iff_eq.2 h
theorem beqF {a b:Int} (h:¬ a=b):(a==b)=false := beq_eq_false_iff_ne.2 h
theorem bneT {a b:Int} (h:¬ a=b):(a != b)=true := bne_iff_ne.2 h
theorem bneF {a b:Int} (h:a=b):(a != b)=false := by subst h; simp
theorem p87_is (c:Cl) (h:c.call.ok) (e:Int):p87 fu (c.fl zL,e,())=some ((),(c.command e).fl ()) := by
  have h1 := h.1
  unfold p87 Cl.command
  rw [f53_1]
  simp only
  by_cases k1:c.call.kind=1
  · simp only [beqT k1,cond_true,p53_is _ (show c.call.value.length≤140737488355328 by omega),bind_val,decide_true,if_pos k1]
  · simp only [beqF k1,cond_false,if_neg k1]
    by_cases k2:c.call.kind=2
    · simp only [beqT k2,cond_true,if_pos k2]
    · simp only [beqF k2,cond_false,if_neg k2]
      by_cases k3:c.call.kind=3
      · simp only [beqT k3,cond_true,if_pos k3]
      · simp only [beqF k3,cond_false,if_neg k3]
def Cl.req (c:Cl):Bool×Req×Int :=
  if c.call.kind=5 then (false,⟨0,5,0,Part.zero,{ c.call.adm with p := c.producer,s := c.seq },⟨#[]⟩⟩,c.to 0)
  else match c.shard? with
    | none=>(c.call.kind != 6,⟨0,6,0,Part.zero,Adm.zero,c.call.topic⟩,c.server)
    | some s=>if c.call.kind=6 then (false,⟨0,6,0,Part.zero,Adm.zero,c.call.topic⟩,c.server)
      else (false,⟨0,c.call.kind,s.1,c.command s.2.2.1,Adm.zero,⟨#[]⟩⟩,c.to s.1)
theorem p74_is {n:Nat} (hn:n≤4194304) (c:Cl) (h:c.ok n) (hf:4194304<fu) :
    p74 fu (c.fl zN,())=some (({ c with route := c.req.1 }.fl zN,(),(),(),(),(),()),(c.req.2.1.fl (),c.req.2.2,())) := by
  have hr:∀ b,({ c with route := b }:Cl).ok n := fun b=>⟨h.sv,h.at0,h.at1,h.top,h.ld,h.ca⟩
  have e63 := p54_is (fu := fu) c.call.adm h.ca.2
  have e90 := fun b g=>p85_is (fu := fu) hn { c with route := b } (hr b) g hf
  have e91 := fun b=>p86_is (fu := fu) { c with route := b } (hr b)
  have e84 := p77_is (fu := fu) hn { c with route := false } (hr false) hf
  have e92 := fun b e=>p87_is (fu := fu) { c with route := b } h.ca e
  simp only [Adm.fl] at e63
  simp only [Cl.fl,zL,zN] at e90 e91 e84 e92
  unfold p74
  rw [f54_1]
  simp only [Cl.fl,zN]
  by_cases k5:c.call.kind=5
  · have hq:c.req=(false,⟨0,5,0,Part.zero,{ c.call.adm with p := c.producer,s := c.seq },⟨#[]⟩⟩,c.to 0) := by unfold Cl.req; rw [if_pos k5]
    rw [hq]
    simp only [beqT k5,cond_true,e63,bind_val,e90,decide_true]
    rfl
  · simp only [beqF k5,cond_false,e84,bind_val,decide_true,cond_true]
    have hs:({ c with route := false }:Cl).shard? = c.shard? := rfl
    rw [hs]
    cases hc:c.shard? with
    | none =>
      have hq:c.req=(c.call.kind != 6,⟨0,6,0,Part.zero,Adm.zero,c.call.topic⟩,c.server) := by unfold Cl.req; rw [if_neg k5,hc]
      rw [hq]
      by_cases k6:c.call.kind=6
      · simp only [beqT k6,cond_true,orK_inl,e91,bind_val]; rfl
      · simp only [beqF k6,cond_false,Option.isSome_none,Bool.not_false,cond_true,orK_inl,e91,bind_val]; rfl
    | some s =>
      by_cases k6:c.call.kind=6
      · have hq:c.req=(false,⟨0,6,0,Part.zero,Adm.zero,c.call.topic⟩,c.server) := by unfold Cl.req; rw [if_neg k5,hc]; simp only [if_pos k6]
        rw [hq]
        simp only [beqT k6,bneF k6,cond_true,orK_inl,e91,bind_val]; rfl
      · have hq:c.req=(false,⟨0,c.call.kind,s.1,c.command s.2.2.1,Adm.zero,⟨#[]⟩⟩,c.to s.1) := by unfold Cl.req; rw [if_neg k5,hc]; simp only [if_neg k6]
        rw [hq]
        simp only [beqF k6,cond_false,Option.isSome_some,Bool.not_true,orK_inl,e92,bind_val,e90]; rfl
def Cl.fini (c:Cl):Cl := { c with busy := false,call := Ca.zero,route := false,group := 0,tries := 0,waited := 0,again := false }
@[reducible] def Cl.zE (c:Cl) (r:Rep) := (c.id,c.servers,c.producer,c.seq,c.topics,c.leaders,false,(0:Int),(⟨#[]⟩:ByteArray),(⟨#[]⟩:ByteArray),(),(0:Int),(0:Int),(⟨#[]⟩:ByteArray),(0:Int),(0:Int),(0:Int),(⟨#[]⟩:ByteArray),(),(0:Int),(0:Int),(⟨#[]⟩:ByteArray),(0:Int),(0:Int),(0:Int),(0:Int),c.number,false,(0:Int),(0:Int),(0:Int),false,c.at',
  false,(0:Int),(0:Int),(0:Int),(0:Int),(0:Int),(0:Int),(0:Int),(0:Int),(⟨#[]⟩:ByteArray),(),(0:Int),(0:Int),(⟨#[]⟩:ByteArray),(0:Int),(0:Int),(0:Int),(0:Int),(⟨#[]⟩:ByteArray),(),(0:Int),(0:Int),(⟨#[]⟩:ByteArray),(0:Int),(0:Int),(0:Int),(0:Int),(⟨#[]⟩:ByteArray),true,r.id,r.err,r.leader,r.x3,r.x4,r.x5,r.recs,r.x7,r.shards,r.x9,r.x10,r.x11,())
theorem p60_is (c:Cl) (r:Rep) (h:r.ok) (hf:4194304<fu):p60 fu (c.fl zN,r.fl (),())=some ((c.zE r,(),(),(),(),(),()),()) := by
  have e := p80_is (fu := fu) r h hf
  simp only [Rep.fl] at e
  unfold p60
  simp only [e,bind_val,decide_true,cond_true]
def Rep.time:Rep := ⟨0,213,0,0,0,false,[],0,[],0,0,0⟩
theorem Rep.time_ok:Rep.time.ok := ⟨⟨Nat.zero_le _,fun _ h=>(by cases h)⟩,⟨Nat.zero_le _,fun _ h=>(by cases h)⟩⟩
theorem p63_is (c:Cl) (hf:4194304<fu):p63 fu (c.fl zN,())=some ((c.zE Rep.time,(),(),(),(),(),()),()) := by
  have e := p60_is (fu := fu) c Rep.time Rep.time_ok hf
  simp only [Cl.fl,zN,Rep.fl,Rep.time] at e
  unfold p63
  simp only [decide_true,cond_true,e,bind_val]
  rfl
def Out.told (r:Rep):Out := ⟨false,0,Req.zero,true,r⟩
def Cl.nx (c:Cl):Cl := { c with number := IntKind.wrap .u64 (c.number+1),tries := IntKind.wrap .i64 (c.tries+1),waited := 0,again := false }
def Cl.send (c:Cl):Cl×Out :=
  if 24≤c.tries then (c.fini,Out.told Rep.time)
  else ({ c.nx with route := c.nx.req.1,group := c.nx.req.2.1.group },⟨true,c.nx.req.2.2,{ c.nx.req.2.1 with id := c.nx.number },false,Rep.zero⟩)
theorem p57_is {n:Nat} (hn:n≤4194304) (c:Cl) (h:c.ok n) (hf:4194304<fu) :
    p57 fu (c.fl zN,())=some ((c.send.1.fl c.send.2.fl,(),(),(),(),(),()),()) := by
  have e72 := p63_is (fu := fu) c hf
  have hx:c.nx.ok n := ⟨h.sv,h.at0,h.at1,h.top,h.ld,h.ca⟩
  have e81 := p74_is (fu := fu) hn c.nx hx hf
  simp only [Cl.fl,zN,Cl.zE] at e72
  unfold p57 Cl.send
  by_cases k:24≤c.tries
  · have k':c.tries≥24 := k
    simp only [Cl.fl,k',decide_true,cond_true,e72,bind_val,if_pos]
    rfl
  · have k':¬ (c.tries≥24) := k
    simp only [if_neg k]
    generalize hq:c.nx.req=q at e81
    obtain ⟨b,q,t⟩ := q
    simp only [Cl.fl,zN,Cl.nx,Req.fl] at e81
    simp only [Cl.fl,k',decide_false,cond_false,decide_true,cond_true,e81,bind_val]
    rfl
end Go.Proofs.Ytnhniiannbimgaa
namespace Go.Proofs.Ytnhniiannbimgaa
open Go.RowKit
variable {fu:Nat}
theorem filt_is {α R:Type} (l:List α) (d:α) (f:(List α×Int×Unit)×Unit→Option (((List α×Int×Unit)×Unit) ⊕ R)) (p:α→Bool) (g:List α→R)
    (h1:∀ (i:Nat) (v:List α),i<l.length→v.length≤i→f ((v,(i:Int),()),())=bif p (l.getD i d) then some (.inl ((v ++ [l.getD i d],((i+1:Nat):Int),()),())) else some (.inl ((v,((i+1:Nat):Int),()),())))
    (h2:∀ v:List α,f ((v,(l.length:Int),()),())=some (.inr (g v))) (hf:l.length<fu):loopO fu f (([],(0:Int),()),())=some (g (l.filter p)) := by
  refine loopO_eq (I := fun s => ∃ i:Nat,s=(((l.take i).filter p,(i:Int),()),())∧i≤l.length) (m := fun s=>l.length-s.1.2.1.toNat) (g := fun _=>g (l.filter p)) ?_ fu _ ⟨0,by simp,Nat.zero_le _⟩ (by simpa using hf)
  rintro s ⟨i,rfl,hi⟩
  have hlen:((l.take i).filter p).length≤i := Nat.le_trans (List.length_filter_le _ _) (by simp; omega)
  by_cases hi':i<l.length
  · left
    have e:(l.take (i+1)).filter p=bif p (l.getD i d) then (l.take i).filter p ++ [l.getD i d] else (l.take i).filter p := by
      rw [take_snoc' hi' d,List.filter_append]
      cases hp:p (l.getD i d) with
      | true=>simp only [List.filter_cons,hp,if_true,List.filter_nil,cond_true]
      | false=>simp only [List.filter_cons,hp,Bool.false_eq_true,if_false,List.filter_nil,List.append_nil,cond_false]
    refine ⟨_,?_,⟨i+1,rfl,hi'⟩,by simp only [Int.toNat_natCast]; omega,rfl⟩
    rw [h1 i _ hi' hlen,e]
    cases p (l.getD i d) <;> rfl
  · right
    obtain rfl:i=l.length := by omega
    rw [h2,List.take_length]
theorem p82_is (l:List D_api_Site) (g:Int) (hl:l.length≤4194304) (hf:4194304<fu):p82 fu (l,((),((g,()),())),())=some (((g,()),()),l.filter fun s => !(s.1==g)) := by
  unfold p82
  try dsimp only
  refine filt_is l (dflt T_api_Site) _ (fun s => !(s.1==g)) (fun v=>(((g,()),()),v)) (fun i v hi hv => ?_) (fun v => ?_) (by omega)
  · have h1:v.length+1≤maxLen∧(v.length+1) * 16≤140737488355328 := ⟨by unfold maxLen; omega,by omega⟩
    unfold p92
    simp only [Int.ofNat_lt,hi,decide_true,cond_true,Int.natCast_nonneg,and_self,Int.toNat_natCast,bind_val,i64_succ hi (show l.length≤9223372036854775807 by omega),List.length_cons,List.length_nil,Nat.zero_add,h1]
  · simp only [Int.lt_irrefl,decide_false,cond_false,decide_true,cond_true,inrO_val]
theorem p81_is (l:List D_api_Topic) (g:ByteArray) (hl:l.length≤4194304) (hf:4194304<fu):p81_1 fu (l,((),((g,()),())),())=some (((g,()),()),l.filter fun s => !(s.1.toList==g.toList)) := by
  unfold p81_1
  try dsimp only
  refine filt_is l (dflt T_api_Topic) _ (fun s => !(s.1.toList==g.toList)) (fun v=>(((g,()),()),v)) (fun i v hi hv => ?_) (fun v => ?_) (by omega)
  · have h1:v.length+1≤maxLen∧(v.length+1) * 40≤140737488355328 := ⟨by unfold maxLen; omega,by omega⟩
    unfold p89_1
    simp only [Int.ofNat_lt,hi,decide_true,cond_true,Int.natCast_nonneg,and_self,Int.toNat_natCast,bind_val,i64_succ hi (show l.length≤9223372036854775807 by omega),List.length_cons,List.length_nil,Nat.zero_add,h1]
  · simp only [Int.lt_irrefl,decide_false,cond_false,decide_true,cond_true,inrO_val]
def putL {α:Type} (l:List α) (x d:α) (p:α→Bool):List α := match firstN l.length (fun i=>p (l.getD i d)) with
  | some i=>l.set i x
  | none=>l ++ [x]
theorem putL_len {α:Type} (l:List α) (x d:α) (p:α→Bool):(putL l x d p).length≤l.length+1 := by
  unfold putL
  split <;> simp
theorem putL_mem {α:Type} {l:List α} {x d:α} {p:α→Bool} {y:α} (h:y ∈ putL l x d p):y ∈ l ∨ y=x := by
  unfold putL at h
  split at h
  · rcases List.mem_or_eq_of_mem_set h with h | h
    · exact .inl h
    · exact .inr h
  · simpa using h
theorem p78_is (l:List D_api_Site) (a b g:Int) (hl:l.length≤4194304) (hf:4194304<fu):p78 fu (l,(a,b,()),((),((g,()),())),())=some (((),(g,()),()),putL l (a,b) (dflt T_api_Site) fun s=>s.1==g) := by
  unfold p78 putL
  simp only [p91_is l g hl hf,bind_val]
  cases hc:firstN l.length (fun i=>(l.getD i (dflt T_api_Site)).1==g) with
  | none =>
    have h1:l.length+1≤maxLen∧(l.length+1) * 16≤140737488355328 := ⟨by unfold maxLen; omega,by omega⟩
    have h0:¬ ((-1:Int)≥0) := by omega
    simp only [h0,decide_false,cond_false,List.length_cons,List.length_nil,Nat.zero_add,h1,and_self,decide_true,cond_true]
  | some i =>
    have hi := (firstN_some hc).1
    have h0:((i:Int)≥0) := by omega
    simp only [h0,decide_true,cond_true,Int.ofNat_lt,hi,and_self,Int.toNat_natCast,List.length_set]
theorem p75_is (l:List D_api_Topic) (a:ByteArray) (b:List D_api_Shard) (g:ByteArray) (hl:l.length≤4194304) (hf:4194304<fu):p75 fu (l,(a,b,()),((),((g,()),())),())=some (((),(),(g,()),()),putL l (a,b) (dflt T_api_Topic) fun s=>s.1.toList==g.toList) := by
  unfold p75 putL
  simp only [p88_is l g hl hf,bind_val]
  cases hc:firstN l.length (fun i=>(l.getD i (dflt T_api_Topic)).1.toList==g.toList) with
  | none =>
    have h1:l.length+1≤maxLen∧(l.length+1) * 40≤140737488355328 := ⟨by unfold maxLen; omega,by omega⟩
    have h0:¬ ((-1:Int)≥0) := by omega
    simp only [h0,decide_false,cond_false,List.length_cons,List.length_nil,Nat.zero_add,h1,and_self,decide_true,cond_true]
  | some i =>
    have hi := (firstN_some hc).1
    have h0:((i:Int)≥0) := by omega
    simp only [h0,decide_true,cond_true,Int.ofNat_lt,hi,and_self,Int.toNat_natCast,List.length_set]
theorem p29_is (l:List Int) (g:Int) (hl:l.length≤4194304) (hf:4194304<fu):p29 fu (l,g,())=some ((),match firstN l.length (fun i=>g==l.getD i 0) with | some i=>(i:Int) | none => -1) := by
  unfold p29
  try dsimp only
  rw [scan_is l.length _ (fun i=>g==l.getD i 0) (fun i=>((),(i:Int))) ((),(-1:Int)) (fun i hi => ?_) ?_ (by omega)]
  · cases firstN l.length (fun i=>g==l.getD i 0) <;> rfl
  · simp only [Int.lt_irrefl,decide_false,cond_false,inrO_val]
  · simp only [Int.ofNat_lt,hi,decide_true,cond_true,Int.natCast_nonneg,and_self,Int.toNat_natCast,inrO_val,i64_succ hi (show l.length≤9223372036854775807 by omega)]
    rfl
theorem p15_is (l:List Int) (g:Int) (hl:l.length≤4194304) (hf:4194304<fu):p15 fu (l,g,())=some ((),decide (g ∈ l)) := by
  unfold p15
  simp only [p29_is l g hl hf,bind_val]
  cases hc:firstN l.length (fun i=>g==l.getD i 0) with
  | none =>
    have h0:¬ ((-1:Int)≥0) := by omega
    have:g ∉ l := fun hm=>by
      obtain ⟨i,hi,rfl⟩ := List.getElem_of_mem hm
      have := firstN_none hc i hi
      rw [getD_lt hi] at this
      simp at this
    simp only [h0,this,decide_false]
  | some i =>
    obtain ⟨hi,hp,_⟩ := firstN_some hc
    have h0:((i:Int)≥0) := by omega
    have:g ∈ l := by
      rw [getD_lt hi] at hp
      rw [beq_iff_eq.1 hp]
      exact List.getElem_mem _
    simp only [h0,this,decide_true]
def Cl.nextS (c:Cl):Cl := { c with at' := if c.at' + 1=(c.servers.length:Int) then 0 else c.at' + 1 }
def Cl.later (c:Cl):Cl := { c with waited := 0,again := true }
def Cl.forget (c:Cl):Cl := { c with leaders := c.leaders.filter fun s => !(s.1==c.group) }
def Cl.elsew (c:Cl):Cl := c.forget.nextS.later
theorem Cl.nextS_ok {n:Nat} {c:Cl} (h:c.ok n):c.nextS.ok n := by
  have h0 := h.at0
  have h1 := h.at1
  refine ⟨h.sv,?_,?_,h.top,h.ld,h.ca⟩
  · simp only [Cl.nextS]; split <;> omega
  · simp only [Cl.nextS]; split <;> omega
theorem Cl.later_ok {n:Nat} {c:Cl} (h:c.ok n):c.later.ok n := ⟨h.sv,h.at0,h.at1,h.top,h.ld,h.ca⟩
theorem Cl.forget_ok {n:Nat} {c:Cl} (h:c.ok n):c.forget.ok n := ⟨h.sv,h.at0,h.at1,h.top,Nat.le_trans (List.length_filter_le _ _) h.ld,h.ca⟩
theorem Cl.elsew_ok {n:Nat} {c:Cl} (h:c.ok n):c.elsew.ok n := Cl.later_ok (Cl.nextS_ok (Cl.forget_ok h))
theorem Cl.fini_ok {n:Nat} {c:Cl} (h:c.ok n):c.fini.ok n := ⟨h.sv,h.at0,h.at1,h.top,h.ld,Ca.zero_ok⟩
theorem Cl.send_ok {n:Nat} {c:Cl} (h:c.ok n):c.send.1.ok n := by
  unfold Cl.send
  split
  · exact Cl.fini_ok h
  · exact ⟨h.sv,h.at0,h.at1,h.top,h.ld,h.ca⟩
theorem Cl.ok_mono {n m:Nat} {c:Cl} (h:c.ok n) (hm:n≤m):c.ok m := ⟨h.sv,h.at0,h.at1,⟨Nat.le_trans h.top.1 hm,h.top.2⟩,Nat.le_trans h.ld hm,h.ca⟩
theorem p66_is {n:Nat} (c:Cl) (h:c.ok n):p66 fu (c.fl zN,())=some ((c.nextS.fl zN,(),(),(),(),(),()),()) := by
  have h0 := h.at0
  have h1 := h.at1
  have h2 := h.sv
  have e:IntKind.wrap .i64 (c.at' + 1)=c.at' + 1 := i64_wrap (by omega) (by omega)
  unfold p66 Cl.nextS
  simp only [Cl.fl,zN,e]
  by_cases k:c.at' + 1=(c.servers.length:Int)
  · simp only [beqT k,if_pos k,cond_true,decide_true]
  · simp only [beqF k,if_neg k,cond_false,decide_true,cond_true]
theorem p64_is (c:Cl):p64 fu (c.fl zN,())=some ((c.later.fl zN,(),(),(),(),(),()),()) := by
  unfold p64 Cl.later
  simp only [Cl.fl,zN,decide_true,cond_true]
theorem p65_is {n:Nat} (hn:n≤4194304) (c:Cl) (h:c.ok n) (hf:4194304<fu):p65 fu (c.fl zN,())=some ((c.forget.fl zN,(),(),(),(),(),()),()) := by
  have hl := h.ld
  unfold p65 p79 Cl.forget
  simp only [Cl.fl,zN,bind_val,decide_true,cond_true,p82_is c.leaders c.group (by omega) hf]
theorem p62_is {n:Nat} (hn:n≤4194304) (c:Cl) (h:c.ok n) (hf:4194304<fu):p62 fu (c.fl zN,())=some ((c.elsew.fl zN,(),(),(),(),(),()),()) := by
  have e1 := p65_is (fu := fu) hn c h hf
  have e2 := p66_is (fu := fu) c.forget (Cl.forget_ok h)
  have e3 := p64_is (fu := fu) c.forget.nextS
  simp only [Cl.fl,zN] at e1 e2 e3
  unfold p62
  simp only [Cl.fl,zN,decide_true,cond_true,e1,e2,e3,bind_val]
  rfl
def Cl.lead (c:Cl) (node:Int):Cl := { c with leaders := putL c.leaders (c.group,node) (dflt T_api_Site) fun s=>s.1==c.group }
theorem Cl.lead_ok {n:Nat} {c:Cl} (h:c.ok n) (a:Int):(c.lead a).ok (n+1) := by
  have h1 := h.ld
  have h2 := putL_len c.leaders (c.group,a) (dflt T_api_Site) fun s=>s.1==c.group
  exact ⟨h.sv,h.at0,h.at1,⟨Nat.le_succ_of_le h.top.1,h.top.2⟩,by show (putL c.leaders (c.group,a) (dflt T_api_Site) fun s=>s.1==c.group).length≤n+1; omega,h.ca⟩
def Cl.toldL (c:Cl) (node:Int):Cl×Out := if node ∈ c.servers then (c.lead node).send else (c.elsew,Out.zero)
theorem p59_is {n:Nat} (hn:n+1≤4194304) (c:Cl) (h:c.ok n) (a:Int) (hf:4194304<fu):p59 fu (c.fl zN,a,())=some (((c.toldL a).1.fl (c.toldL a).2.fl,(),(),(),(),(),()),()) := by
  have hl := h.ld
  have hs := h.sv
  have e1 := p57_is (fu := fu) hn (c.lead a) (Cl.lead_ok h a) hf
  have e2 := p62_is (fu := fu) (by omega) c h hf
  unfold p59 p79 Cl.toldL
  simp only [Cl.fl,zN,Cl.lead] at e1 e2
  simp only [Cl.fl,bind_val,decide_true,cond_true,p15_is c.servers a (by omega) hf]
  by_cases k:a ∈ c.servers
  · simp only [k,decide_true,cond_true,if_true,p78_is c.leaders _ _ _ (show c.leaders.length≤4194304 by omega) hf,bind_val,e1]
    rfl
  · simp only [k,decide_false,cond_false,if_false,e2,bind_val]
    rfl
def Cl.drop (c:Cl):Cl := { c with topics := c.topics.filter fun t => !(t.1.toList==c.call.topic.toList) }
theorem Cl.drop_ok {n:Nat} {c:Cl} (h:c.ok n):c.drop.ok n := ⟨h.sv,h.at0,h.at1,⟨Nat.le_trans (List.length_filter_le _ _) h.top.1,fun t ht=>h.top.2 t (List.mem_filter.1 ht).1⟩,h.ld,h.ca⟩
def Cl.anew (c:Cl):Cl := c.drop.elsew
theorem p61_is {n:Nat} (hn:n≤4194304) (c:Cl) (h:c.ok n) (hf:4194304<fu):p61 fu (c.fl zN,())=some ((c.anew.fl zN,(),(),(),(),(),()),()) := by
  have ht := h.top.1
  have e1 := p62_is (fu := fu) hn c.drop (Cl.drop_ok h) hf
  simp only [Cl.fl,zN,Cl.drop] at e1
  unfold p61 p76
  rw [f62_1]
  simp only [Cl.fl,zN,bind_val,decide_true,cond_true,p81_is c.topics _ (show c.topics.length≤4194304 by omega) hf,e1]
  rfl
def Cl.learn (c:Cl) (l:List D_api_Shard):Cl := { c with topics := putL c.topics (c.call.topic,l) (dflt T_api_Topic) fun t=>t.1.toList==c.call.topic.toList }
theorem Cl.learn_ok {n:Nat} {c:Cl} (h:c.ok n) {l:List D_api_Shard} (hl:shsOk l):(c.learn l).ok (n+1) := by
  have h1 := h.top.1
  have h2 := putL_len c.topics (c.call.topic,l) (dflt T_api_Topic) fun t=>t.1.toList==c.call.topic.toList
  refine ⟨h.sv,h.at0,h.at1,⟨by show (putL c.topics (c.call.topic,l) (dflt T_api_Topic) fun t=>t.1.toList==c.call.topic.toList).length≤n+1; omega,fun t ht => ?_⟩,Nat.le_succ_of_le h.ld,h.ca⟩
  rcases putL_mem (show t ∈ putL c.topics (c.call.topic,l) (dflt T_api_Topic) (fun t=>t.1.toList==c.call.topic.toList) from ht) with h' | rfl
  · exact h.top.2 t h'
  · exact hl
def Cl.taught (c:Cl) (r:Rep):Cl := if c.route=true ∨ c.call.kind=6 then c.learn r.shards else c
theorem Cl.taught_ok {n:Nat} {c:Cl} (h:c.ok n) {r:Rep} (hr:r.ok):(c.taught r).ok (n+1) := by
  unfold Cl.taught
  split
  · exact Cl.learn_ok h hr.2
  · exact Cl.ok_mono h (Nat.le_succ _)
def Cl.answ (c:Cl) (r:Rep):Cl×Out :=
  if (c.taught r).route=false then ((c.taught r).fini,Out.told r)
  else if (c.taught r).shard?.isSome then (c.taught r).send
  else ((c.taught r).nextS.later,Out.zero)
set_option maxRecDepth 100000 in
theorem p58_is {n:Nat} (hn:n+1≤4194304) (c:Cl) (h:c.ok n) (r:Rep) (hr:r.ok) (hf:4194304<fu):p58 fu (c.fl zN,r.fl (),())=some (((c.answ r).1.fl (c.answ r).2.fl,(),(),(),(),(),()),()) := by
  have ht := h.top.1
  have hl := hr.2.1
  have key:∀ {R:Type} (k:Unit×(_×Unit)→Option R),orK (E := Unit×(_×Unit))
     (orK (E := (Bool×Unit)×Unit)
       (bif c.route then some (.inl ((true,()),())) else some (.inl ((c.call.kind==6,()),())))
       fun x=>bif x.1.1 then
         Option.bind (p52 fu (r.shards,())) fun y =>
         Option.bind (p76 fu (c.call.topic,())) fun z =>
         Option.bind (p75 fu (c.topics,(c.call.topic,y.2,()),((),((z.2.2.1.1,()),())),())) fun u =>
           some (.inl ((),(({ c with topics := u.2 }:Cl).fl zN,())))
        else some (.inl ((),(c.fl zN,())))) k=k ((),((c.taught r).fl zN,())) := fun k=>by
    unfold Cl.taught p76
    by_cases hb:c.route=true
    · have hc:∀ (α:Type) (x y:α),(bif c.route then x else y)=x := fun _ _ _=>by rw [hb]; rfl
      rw [if_pos (.inl hb)]
      simp only [hc,orK_inl,p52_is (fu := fu) r.shards hr.2 (by omega),bind_val,p75_is c.topics _ _ _ (show c.topics.length≤4194304 by omega) hf,cond_true]
      rfl
    · have hc:∀ (α:Type) (x y:α),(bif c.route then x else y)=y := fun _ _ _=>by rw [show c.route=false by simpa using hb]; rfl
      by_cases k6:c.call.kind=6
      · rw [if_pos (.inr k6)]
        simp only [hc,orK_inl,beqT k6,cond_true,p52_is (fu := fu) r.shards hr.2 (by omega),bind_val,p75_is c.topics _ _ _ (show c.topics.length≤4194304 by omega) hf]
        rfl
      · rw [if_neg (fun h=>h.elim hb k6)]
        simp only [hc,orK_inl,beqF k6,cond_false]
  have hk := Cl.taught_ok h hr
  have e69 := p60_is (fu := fu) (c.taught r) r hr hf
  have e84 := p77_is (fu := fu) hn (c.taught r) hk hf
  have e66 := p57_is (fu := fu) hn (c.taught r) hk hf
  have e75 := p66_is (fu := fu) (c.taught r) hk
  have e73 := p64_is (fu := fu) (c.taught r).nextS
  unfold p58
  rw [f52_1,f60_1]
  simp only [Cl.fl,decide_true,cond_true]
  refine (key _).trans ?_
  simp only [Cl.fl,zN,Rep.fl,Cl.zE] at e69 e84 e66 e75 e73
  unfold Cl.answ
  generalize c.taught r=d at e69 e84 e66 e75 e73 ⊢
  cases hb:d.route with
  | false =>
    rw [hb] at e69
    simp only [hb,Bool.not_false,cond_true,e69,bind_val,if_true]
    rfl
  | true =>
    rw [hb] at e84 e66 e75
    simp only [hb,Bool.not_true,cond_false,e84,bind_val,Bool.true_eq_false,if_false]
    cases hs:d.shard?.isSome with
    | true =>
      simp only [cond_true,e66,bind_val,if_true]
    | false =>
      simp only [cond_false,e75,e73,bind_val,Bool.false_eq_true,if_false]
      rfl
end Go.Proofs.Ytnhniiannbimgaa
namespace Go.Proofs.Ytnhniiannbimgaa
open Go.RowKit
variable {fu:Nat}
@[reducible] def inFl {α:Type} (k:Int) (x:Ca) (c:Rep) (r:α) := (k,x.kind,x.topic,x.key,x.value,x.offset,x.most,x.name,x.adm.k,x.adm.p,x.adm.s,x.adm.t,x.adm.ns,x.adm.f,x.adm.g,x.adm.ky,x.adm.h,x.adm.i,x.adm.j,x.adm.l,c.id,c.err,c.leader,c.x3,c.x4,c.x5,c.recs,c.x7,c.shards,c.x9,c.x10,c.x11,r)
def routes (e:Int):Prop := e=162 ∨ e=164 ∨ e=163 ∨ e=182
instance (e:Int):Decidable (routes e) := inferInstanceAs (Decidable (_ ∨ _))
def Cl.replyS (c:Cl) (r:Rep):Cl×Out :=
  if c.busy=false then (c,Out.zero) else if c.again=true then (c,Out.zero) else if r.id=c.number then
    (if r.err=0 then c.answ r
    else if r.err=201 then c.toldL r.leader
    else if routes r.err then (if c.call.kind=5 then (c.fini,Out.told r) else (c.anew,Out.zero))
    else if r.err=202 then (if c.call.kind=5 then (c.elsew,Out.zero) else (c.anew,Out.zero))
    else if r.err=203 then (if c.call.kind=5 then (c.fini,Out.told Rep.time) else (c.later,Out.zero))
    else (c.fini,Out.told r))
  else (c,Out.zero)
theorem routes_is {R:Type} (e:Int) (k:(Bool×Unit)×Unit→Option R):orK (E := (Bool×Unit)×Unit)
    (bif e==162 then some (.inl ((true,()),())) else bif e==164 then some (.inl ((true,()),())) else bif e==163 then some (.inl ((true,()),())) else some (.inl (((e==182),()),()))) k=k ((decide (routes e),()),()) := by
  unfold routes
  by_cases k1:e=162
  · simp [k1,orK]
  · by_cases k2:e=164
    · simp [k2,orK]
    · by_cases k3:e=163
      · simp [k3,orK]
      · by_cases k4:e=182
        · simp [k4,orK]
        · simp [k1,k2,k3,beqF k1,beqF k2,beqF k3,beqF k4,k4,orK]
theorem condF {α:Type} {b:Bool} (h:b=false) (x y:α):cond b x y=y := by rw [h]; rfl
theorem condT {α:Type} {b:Bool} (h:b=true) (x y:α):cond b x y=x := by rw [h]; rfl
set_option maxRecDepth 100000 in
theorem p34_is {n:Nat} (hn:n+1≤4194304) (c:Cl) (h:c.ok n) (i:Int) (x:Ca) (r:Rep) (hr:r.ok) (hf:4194304<fu) :
    p34 fu (c.fl zN,inFl i x r (),())=some (((c.replyS r).1.fl (c.replyS r).2.fl,(),(),(),(),(),()),0) := by
  have e67 := p58_is (fu := fu) hn c h r hr hf
  have e68 := p59_is (fu := fu) hn c h r.leader hf
  have e69 := p60_is (fu := fu) c r hr hf
  have e70 := p61_is (fu := fu) (by omega) c h hf
  have e71 := p62_is (fu := fu) (by omega) c h hf
  have e72 := p63_is (fu := fu) c hf
  have e73 := p64_is (fu := fu) c
  simp only [Cl.fl,zN,Rep.fl,Cl.zE] at e67 e68 e69 e70 e71 e72 e73
  unfold p34 Cl.replyS
  rw [f60_1]
  simp only [Cl.fl,decide_true,cond_true]
  by_cases b1:c.busy=false
  · simp only [condT (show (!c.busy)=true by simp [b1]),if_pos b1]; rfl
  have b1':(!c.busy)=false := by simpa using b1
  simp only [condF b1',if_neg b1]
  by_cases b2:c.again=true
  · simp only [condT b2,if_pos b2]; rfl
  have b2':c.again=false := by simpa using b2
  simp only [condF b2',if_neg b2]
  by_cases b3:r.id=c.number
  rotate_left
  · simp only [condT (bneT b3),if_neg b3]; rfl
  simp only [condF (bneF b3),if_pos b3]
  by_cases c0:r.err=0
  · simp only [condT (beqT c0),if_pos c0,e67,bind_val]
  simp only [condF (beqF c0),if_neg c0]
  by_cases c1:r.err=201
  · simp only [condT (beqT c1),if_pos c1,e68,bind_val]
  simp only [condF (beqF c1),if_neg c1,routes_is]
  by_cases c2:routes r.err
  · simp only [c2,decide_true,cond_true,if_true]
    by_cases k5:c.call.kind=5
    · simp only [condT (beqT k5),if_pos k5,e69,bind_val]; rfl
    · simp only [condF (beqF k5),if_neg k5,e70,bind_val]; rfl
  simp only [c2,decide_false,cond_false,if_false]
  by_cases c3:r.err=202
  · simp only [condT (beqT c3),if_pos c3]
    by_cases k5:c.call.kind=5
    · simp only [condT (beqT k5),if_pos k5,e71,bind_val]; rfl
    · simp only [condF (beqF k5),if_neg k5,e70,bind_val]; rfl
  simp only [condF (beqF c3),if_neg c3]
  by_cases c4:r.err=203
  · simp only [condT (beqT c4),if_pos c4]
    by_cases k5:c.call.kind=5
    · simp only [condT (beqT k5),if_pos k5,e72,bind_val]; rfl
    · simp only [condF (beqF k5),if_neg k5,e73,bind_val]; rfl
  simp only [condF (beqF c4),if_neg c4,e69,bind_val]
  rfl
def Cl.waits (c:Cl):Cl := { c with waited := IntKind.wrap .i64 (c.waited+1) }
def Cl.tickS (c:Cl):Cl×Out :=
  if c.busy=false then (c,Out.zero) else if c.again=true then c.send
  else if 12≤c.waits.waited then (if c.call.kind=5 then (c.waits.forget.nextS.fini,Out.told Rep.time) else c.waits.forget.nextS.send)
  else (c.waits,Out.zero)
set_option maxRecDepth 100000 in
theorem p35_is {n:Nat} (hn:n≤4194304) (c:Cl) (h:c.ok n) (i:Int) (x:Ca) (r:Rep) (hf:4194304<fu) :
    p35 fu (c.fl zN,inFl i x r (),())=some ((c.tickS.1.fl c.tickS.2.fl,(),(),(),(),(),()),0) := by
  have hw:c.waits.ok n := ⟨h.sv,h.at0,h.at1,h.top,h.ld,h.ca⟩
  have hw2 := Cl.nextS_ok (Cl.forget_ok hw)
  have e66 := p57_is (fu := fu) hn c h hf
  have e74 := p65_is (fu := fu) hn c.waits hw hf
  have e75 := p66_is (fu := fu) c.waits.forget (Cl.forget_ok hw)
  have e72 := p63_is (fu := fu) c.waits.forget.nextS hf
  have e66' := p57_is (fu := fu) hn c.waits.forget.nextS hw2 hf
  have hk:c.waits.forget.nextS.call.kind=c.call.kind := rfl
  have hx:c.waits.waited=IntKind.wrap .i64 (c.waited+1) := rfl
  unfold p35 Cl.tickS
  simp only [Cl.fl,zN] at e66
  simp only [Cl.fl,decide_true,cond_true]
  by_cases b1:c.busy=false
  · simp only [condT (show (!c.busy)=true by simp [b1]),if_pos b1]; rfl
  have b1':(!c.busy)=false := by simpa using b1
  simp only [condF b1',if_neg b1]
  by_cases b2:c.again=true
  · simp only [condT b2,if_pos b2,e66,bind_val]
  have b2':c.again=false := by simpa using b2
  simp only [condF b2',if_neg b2]
  by_cases b3:12≤c.waits.waited
  · have b3':IntKind.wrap .i64 (c.waited+1)≥12 := b3
    simp only [b3',decide_true,cond_true,if_pos b3]
    have e74' := e74
    simp only [Cl.fl,zN,Cl.waits] at e74'
    generalize hg:c.waits.forget=g at e74 e75 e72 e66' hk ⊢
    simp only [Cl.fl,zN,Cl.waits] at e74
    simp only [Cl.fl,zN] at e75
    simp only [e74,bind_val,e75]
    generalize g.nextS=g' at e72 e66' hk ⊢
    simp only [Cl.fl,zN,Cl.zE] at e72 e66'
    by_cases k5:c.call.kind=5
    · simp only [condT (beqT (hk.trans k5)),if_pos k5,e72,bind_val]; rfl
    · simp only [condF (beqF (fun e=>k5 (hk.symm.trans e))),if_neg k5,e66',bind_val]
  · have b3':¬ (IntKind.wrap .i64 (c.waited+1)≥12) := b3
    simp only [b3',decide_false,cond_false,if_neg b3]
    rfl
def badB (b:Int):Bool := (decide (b<97)||decide (b>122)) && ((decide (b<48)||decide (b>57)) && ((b != 45) && ((b != 95) && (b != 46))))
theorem nest7 {α:Type} (a b c d e f g:Bool) (x y:α) :
    (bif a then (bif c then (bif e then (bif f then (bif g then x else y) else y) else y) else (bif d then (bif e then (bif f then (bif g then x else y) else y) else y) else y))
      else (bif b then (bif c then (bif e then (bif f then (bif g then x else y) else y) else y) else (bif d then (bif e then (bif f then (bif g then x else y) else y) else y) else y)) else y)) =
    bif (a||b) && ((c||d) && (e && (f && g))) then x else y := by
  cases a <;> cases b <;> cases c <;> cases d <;> cases e <;> cases f <;> cases g <;> rfl
def nameB (s:ByteArray):Bool := match firstN (numsOf s).length (fun i=>badB ((numsOf s).getD i 0)) with
  | some _=>false
  | none=>decide ((s.size:Int)≥1) && decide ((s.size:Int)≤32)
theorem p73_is (s:ByteArray) (hs:(numsOf s).length<fu) (h63:(numsOf s).length≤9223372036854775807):p73 fu (s,())=some ((),nameB s) := by
  unfold p73
  try dsimp only
  rw [scan_is (numsOf s).length _ (fun i=>badB ((numsOf s).getD i 0)) (fun _=>((),false)) ((),decide ((s.size:Int)≥1) && decide ((s.size:Int)≤32)) (fun i hi => ?_) ?_ hs]
  · unfold nameB
    cases firstN (numsOf s).length (fun i=>badB ((numsOf s).getD i 0)) <;> rfl
  · simp only [Int.lt_irrefl,decide_false,cond_false]
    cases decide ((s.size:Int)≥1) <;> rfl
  · have hw := i64_succ hi h63
    simp only [Int.ofNat_lt,hi,decide_true,cond_true,Int.natCast_nonneg,and_self,Int.toNat_natCast,hw]
    exact nest7 _ _ _ _ _ _ _ _ _
def mayB (x:Ca):Bool := if x.kind=5 then decide (x.adm.k≥1) && decide (x.adm.k≤4) else decide (x.kind≥1) && (decide (x.kind≤6) && nameB x.topic)
theorem p55_is (x:Ca) (hs:(numsOf x.topic).length<fu) (h63:(numsOf x.topic).length≤9223372036854775807):p55 fu (x.fl (),())=some ((),mayB x) := by
  unfold p55 mayB
  simp only [p73_is x.topic hs h63,bind_val]
  by_cases k:x.kind=5
  · simp only [beqT k,cond_true,if_pos k]
    cases decide (x.adm.k≥1) <;> rfl
  · simp only [beqF k,cond_false,if_neg k]
    cases decide (x.kind≥1) <;> cases decide (x.kind≤6) <;> rfl
def chB (k:Int):Bool := k==1||(k==3||k==5)
theorem p56_is (k:Int):p56 fu (k,())=some ((),chB k) := by
  unfold p56 chB
  try dsimp only
  cases k==1 <;> cases k==3 <;> rfl
def Cl.calls (c:Cl) (x:Ca):Cl := { c with busy := true,call := x,seq := bif chB x.kind then IntKind.wrap .u64 (c.seq+1) else c.seq }
def Cl.callS (c:Cl) (x:Ca):(Cl×Out)×Int :=
  if c.busy=true then ((c,Out.zero),211) else if mayB x=false then ((c,Out.zero),212) else ((c.calls x).send,0)
set_option maxRecDepth 100000 in
theorem p33_is {n:Nat} (hn:n≤4194304) (c:Cl) (h:c.ok n) (i:Int) (x:Ca) (hx:x.ok) (r:Rep) (hs:(numsOf x.topic).length<fu) (h63:(numsOf x.topic).length≤9223372036854775807) (hf:4194304<fu) :
    p33 fu (c.fl zN,inFl i x r (),())=some (((c.callS x).1.1.fl (c.callS x).1.2.fl,(),(),(),(),(),()),(c.callS x).2) := by
  have hc:(c.calls x).ok n := ⟨h.sv,h.at0,h.at1,h.top,h.ld,hx⟩
  have e66 := p57_is (fu := fu) hn (c.calls x) hc hf
  have e64 := p55_is (fu := fu) x hs h63
  have e41 := p32_is (fu := fu) x hx
  simp only [Ca.fl] at e64 e41
  unfold p33 Cl.callS
  rw [f32_1]
  simp only [Cl.fl,decide_true,cond_true,e64,bind_val,e41,p56_is]
  by_cases b1:c.busy=true
  · simp only [condT b1,if_pos b1]; rfl
  have b1':c.busy=false := by simpa using b1
  simp only [condF b1',if_neg b1]
  cases b2:mayB x with
  | false=>simp only [Bool.not_false,cond_true,if_true]; rfl
  | true =>
    simp only [Bool.not_true,cond_false,Bool.true_eq_false,if_false]
    simp only [Cl.fl,zN,Cl.calls] at e66
    cases b3:chB x.kind with
    | true =>
      simp only [b3,cond_true] at e66
      simp only [cond_true,e66,bind_val,Cl.calls,b3]
    | false =>
      simp only [b3,cond_false] at e66
      simp only [cond_false,e66,bind_val,Cl.calls,b3]
def Cl.step (c:Cl) (k:Int) (x:Ca) (r:Rep):(Cl×Out)×Int :=
  if k=1 then c.callS x else if k=2 then (c.replyS r,0) else if k=3 then (c.tickS,0) else ((c,Out.zero),1)
end Go.Proofs.Ytnhniiannbimgaa
namespace Go.Proofs.Ytnhniiannbimgaa
open Go.RowKit
variable {fu:Nat}
theorem numsOf_len (s:ByteArray):(numsOf s).length=s.size := by simp [numsOf]
theorem p18_is (k:Int):p18 fu (k,())=some ((),(decide (k=1),((),()),(decide (k=2),((),()),(decide (k=3),((),()),())))) := by
  unfold p18
  try dsimp only
  by_cases k1:k=1
  · subst k1; rfl
  · by_cases k2:k=2
    · subst k2; rfl
    · by_cases k3:k=3
      · subst k3; rfl
      · simp only [beqF k1,beqF k2,beqF k3,cond_false,k1,k2,k3,decide_false]
set_option maxRecDepth 100000 in
theorem p10_is {n:Nat} (hn:n+1≤4194304) (c:Cl) (h:c.ok n) (k:Int) (x:Ca) (hx:x.ok) (r:Rep) (hr:r.ok) (hs:x.topic.size≤140737488355328) (hf:140737488355330<fu) :
    p10 fu (c.fl (),inFl k x r (),())=some ((),((c.step k x r).1.1.fl (),(c.step k x r).1.2.fl,(c.step k x r).2,())) := by
  have hf':4194304<fu := by omega
  have e27 := p17_is (fu := fu) (by omega) c h hf'
  have e42 := p33_is (fu := fu) (by omega) c h k x hx r (by rw [numsOf_len]; omega) (by rw [numsOf_len]; omega) hf'
  have e43 := p34_is (fu := fu) hn c h k x r hr hf'
  have e44 := p35_is (fu := fu) (by omega) c h k x r hf'
  simp only [Cl.fl,zN,inFl] at e27 e42 e43 e44
  unfold p10 Cl.step
  simp only [Cl.fl,e27,bind_val,p18_is]
  by_cases k1:k=1
  · simp only [k1,decide_true,cond_true,if_true] at e42 ⊢
    simp only [e42,bind_val]
    unfold Cl.callS
    by_cases b1:c.busy=true
    · simp only [if_pos b1]; rfl
    · simp only [if_neg b1]
      by_cases b2:mayB x=false
      · simp only [if_pos b2]; rfl
      · simp only [if_neg b2]; rfl
  · simp only [k1,decide_false,cond_false,if_false]
    by_cases k2:k=2
    · simp only [k2,decide_true,cond_true,if_true] at e43 ⊢
      simp only [e43,bind_val]; rfl
    · simp only [k2,decide_false,cond_false,if_false]
      by_cases k3:k=3
      · simp only [k3,decide_true,cond_true,if_true] at e44 ⊢
        simp only [e44,bind_val]; rfl
      · simp only [k3,decide_false,cond_false,if_false]; rfl
theorem Cl.step_ok {n:Nat} {c:Cl} (h:c.ok n) (k:Int) {x:Ca} (hx:x.ok) {r:Rep} (hr:r.ok):(c.step k x r).1.1.ok (n+1) := by
  have h1 := Cl.ok_mono h (Nat.le_succ n)
  unfold Cl.step
  split
  · unfold Cl.callS
    split
    · exact h1
    · split
      · exact h1
      · exact Cl.send_ok ⟨h1.sv,h1.at0,h1.at1,h1.top,h1.ld,hx⟩
  · split
    · unfold Cl.replyS Cl.answ Cl.toldL Cl.anew
      repeat' split
      all_goals first
        | exact h1
        | exact Cl.fini_ok (Cl.taught_ok h hr)
        | exact Cl.send_ok (Cl.taught_ok h hr)
        | exact Cl.later_ok (Cl.nextS_ok (Cl.taught_ok h hr))
        | exact Cl.send_ok (Cl.lead_ok h _)
        | exact Cl.elsew_ok h1
        | exact Cl.fini_ok h1
        | exact Cl.elsew_ok (Cl.drop_ok h1)
        | exact Cl.later_ok h1
    · split
      · unfold Cl.tickS
        have hw:c.waits.ok (n+1) := ⟨h1.sv,h1.at0,h1.at1,h1.top,h1.ld,h1.ca⟩
        repeat' split
        all_goals first
          | exact h1
          | exact Cl.send_ok h1
          | exact Cl.fini_ok (Cl.nextS_ok (Cl.forget_ok hw))
          | exact Cl.send_ok (Cl.nextS_ok (Cl.forget_ok hw))
          | exact hw
      · exact h1
def Cl.new (id:Int) (l:List Int) (pr:Int):Cl := ⟨id,l,pr,0,[],[],false,Ca.zero,0,false,0,0,0,false,0⟩
def Cl.none:Cl := Cl.new 0 [] 0
theorem Cl.new_ok (id:Int) {l:List Int} (pr:Int) (h:l.length≤1048576) (h0:0<l.length):(Cl.new id l pr).ok 0 :=
  ⟨h,Int.le_refl _,by show (0:Int)<(l.length:Int); omega,⟨Nat.le_refl _,fun _ h=>(by cases h)⟩,Nat.le_refl _,Ca.zero_ok⟩
def isN (n:Int):Bool := decide (n≥1) && decide (n≤7)
theorem p14_is (n:Int):p14 fu (n,())=some ((),isN n) := by
  unfold p14 isN
  try dsimp only
  cases decide (n≥1) <;> rfl
def newA (id:Int) (l:List Int) (pr:Int):Bool := isN id && (pr != 0 && (decide ((l.length:Int)>0) && !decide (id ∈ l)))
def newQ (l:List Int) (i:Nat):Bool := isN (l.getD i 0) && !decide (l.getD i 0 ∈ l.take i)
def newB (id:Int) (l:List Int) (pr:Int):Bool := newA id l pr && (List.range l.length).all (newQ l)
theorem may_is {R:Type} (id:Int) (l:List Int) (pr:Int) (hl:l.length≤1048576) (hf:4194304<fu) (k:(Bool×Unit)×Unit→Option R) :
    orK (E := (Bool×Unit)×Unit) (Option.bind (p14 fu (id,())) fun x=>bif x.2 then (bif (pr != 0) then (bif decide ((l.length:Int)>0) then Option.bind (p15 fu (l,id,())) fun y=>some (.inl ((!y.2,()),())) else some (.inl ((false,()),()))) else some (.inl ((false,()),()))) else some (.inl ((false,()),()))) k=k ((newA id l pr,()),()) := by
  simp only [p14_is,bind_val,p15_is l id (show l.length≤4194304 by omega) hf]
  unfold newA
  cases isN id <;> cases (pr != 0) <;> cases decide ((l.length:Int)>0) <;> rfl
theorem p5_is (id:Int) (l:List Int) (pr:Int) (hl:l.length≤1048576) (hf:4194304<fu) :
    p5 fu (id,l,pr,())=some ((),bif newB id l pr then ((Cl.new id l pr).fl (),0,()) else (Cl.none.fl (),1,())) := by
  unfold p5
  refine (may_is id l pr hl hf _).trans ?_
  try dsimp only
  refine loopO_eq (I := fun s => ∃ i:Nat,s=((newA id l pr && (List.range i).all (newQ l),(i:Int),()),())∧i≤l.length) (m := fun s=>l.length-s.1.2.1.toNat) (g := fun _=>((),bif newB id l pr then ((Cl.new id l pr).fl (),0,()) else (Cl.none.fl (),1,()))) ?_ fu _ ⟨0,by simp,Nat.zero_le _⟩ (by simp; omega)
  rintro s ⟨i,rfl,hi⟩
  by_cases hi':i<l.length
  · left
    refine ⟨((newA id l pr && (List.range (i+1)).all (newQ l),((i+1:Nat):Int),()),()),?_,⟨i+1,rfl,hi'⟩,by simp only [Int.toNat_natCast]; omega,rfl⟩
    have e2:(0≤i∧i≤l.length) := ⟨Nat.zero_le _,hi⟩
    have e3:(newA id l pr && (List.range (i+1)).all (newQ l))=((newA id l pr && (List.range i).all (newQ l)) && newQ l i) := by
      rw [List.range_succ,List.all_append]; simp [Bool.and_assoc]
    have e22 := p15_is (fu := fu) (l.take i) (l.getD i 0) (by simp; omega) hf
    rw [e3]
    unfold newQ
    cases (newA id l pr && (List.range i).all (fun i=>isN (l.getD i 0) && !decide (l.getD i 0 ∈ l.take i))) with
    | false=>simp only [Int.ofNat_lt,hi',decide_true,cond_true,Int.natCast_nonneg,and_self,Int.toNat_natCast,cond_false,Bool.false_and,i64_succ hi' (show l.length≤9223372036854775807 by omega)]
    | true =>
      have ed:l.getD i (dflt (.int .i64))=l.getD i 0 := rfl
      simp only [Int.ofNat_lt,hi',decide_true,cond_true,Int.natCast_nonneg,and_self,Int.toNat_natCast,Bool.true_and,i64_succ hi' (show l.length≤9223372036854775807 by omega),ed,p14_is,bind_val,e22,e2]
      cases isN (l.getD i 0) <;> rfl
  · right
    obtain rfl:i=l.length := by omega
    simp only [Int.lt_irrefl,decide_false,cond_false]
    have e4:(newA id l pr && (List.range l.length).all (newQ l))=newB id l pr := rfl
    rw [e4]
    cases newB id l pr with
    | false=>rfl
    | true =>
      simp only [Bool.not_true,cond_false,cond_true,p16_is l (show l.length * 8≤140737488355328 by omega),bind_val,decide_true]
      rfl
theorem newB_pos {id:Int} {l:List Int} {pr:Int} (h:newB id l pr=true):0<l.length := by
  unfold newB newA at h
  simp only [Bool.and_eq_true,decide_eq_true_eq] at h
  have := h.1.2.2.1
  omega
theorem p4_is (hf:140737488355330<fu):p4 fu ()=some ((),true) := by
  have hf':4194304<fu := by omega
  have e10 := p5_is (fu := fu) 4 [1,2,3] 4 (by decide) hf'
  have hb:newB 4 [1,2,3] 4=true := by decide
  have e16 := p10_is (fu := fu) (n := 0) (by omega) (Cl.new 4 [1,2,3] 4) (Cl.new_ok 4 4 (by decide) (by decide)) 1 ⟨1,⟨#[116]⟩,⟨#[107]⟩,[],0,0,⟨#[]⟩,Adm.zero⟩ ⟨Nat.zero_le _,Nat.zero_le _⟩ Rep.zero ⟨⟨Nat.zero_le _,fun _ h=>(by cases h)⟩,⟨Nat.zero_le _,fun _ h=>(by cases h)⟩⟩ (by decide) hf
  rw [hb] at e10
  simp only [Cl.fl,inFl,Cl.new,cond_true,Rep.zero,Adm.zero,Ca.zero] at e10 e16
  unfold p4
  simp only [e10,bind_val,decide_true,cond_true,e16]
  decide +kernel
theorem scanT_is {R:Type} (n:Nat) (f:(Int×Unit)×Unit→Option (((Int×Unit)×Unit) ⊕ R)) (rF:R)
    (h1:∀ i:Nat,i<n→f (((i:Int),()),())=some (.inl ((((i+1:Nat):Int),()),())))
    (h2:f (((n:Int),()),())=some (.inr rF)) (hf:n<fu):loopO fu f (((0:Int),()),())=some rF := by
  rw [scan_is n f (fun _=>false) (fun _=>rF) rF (fun i hi=>by rw [h1 i hi]; rfl) h2 hf]
  rw [firstN_isNone (fun _ _=>rfl)]
theorem p25_is (l:List Int) (h:l.length≤4194304) (hf:4194304<fu):p25 fu (l,l,())=some ((),true) := by
  unfold p25
  simp only [bneF rfl,cond_false]
  refine scanT_is l.length _ _ (fun i hi => ?_) ?_ (by omega)
  · simp only [Int.ofNat_lt,hi,decide_true,cond_true,Int.natCast_nonneg,and_self,Int.toNat_natCast,i64_succ hi (show l.length≤9223372036854775807 by omega)]
  · simp only [Int.lt_irrefl,decide_false,cond_false,inrO_val]
theorem p68_is (a:Adm) (h:a.ns.length≤1048576) (hf:4194304<fu):p68 fu (a.fl (),a.fl (),())=some ((),true) := by
  unfold p68
  simp only [p25_is a.ns (show a.ns.length≤4194304 by omega) hf,bind_val,cond_true,beq_self_eq_true]
theorem p24_is (c:Ca) (h:c.ok) (hf:4194304<fu):p24 fu (c.fl (),c.fl (),())=some ((),true) := by
  have e := p68_is (fu := fu) c.adm h.2 hf
  simp only [Adm.fl] at e
  unfold p24 p47
  simp only [e,bind_val,cond_true,beq_self_eq_true]
theorem ba_self (x:ByteArray):(x==x)=true := by
  obtain ⟨d⟩ := x
  show (d==d)=true
  simp
theorem p26_is (l:List D_api_Shard) (h:shsOk l) (hf:4194304<fu):p26 fu (l,l,())=some ((),true) := by
  have h1 := h.1
  unfold p26
  simp only [bneF rfl,cond_false]
  refine scanT_is l.length _ _ (fun i hi => ?_) ?_ (by omega)
  · have hm:l.getD i (dflt T_api_Shard) ∈ l := by rw [getD_lt hi]; exact List.getElem_mem _
    have hq := h.2 _ hm
    have q1 := hq.1
    have q2 := hq.2
    simp only [Int.ofNat_lt,hi,decide_true,cond_true,Int.natCast_nonneg,and_self,Int.toNat_natCast,p25_is _ (show (l.getD i (dflt T_api_Shard)).2.2.2.1.length≤4194304 by omega) hf,p25_is _ (show (l.getD i (dflt T_api_Shard)).2.2.2.2.1.length≤4194304 by omega) hf,bind_val,Bool.not_true,cond_false,ba_self,Bool.and_self,i64_succ hi (show l.length≤9223372036854775807 by omega)]
  · simp only [Int.lt_irrefl,decide_false,cond_false,inrO_val]
theorem p12_is {n:Nat} (hn:n≤4194304) (c:Cl) (h:topOk n c.topics∧c.leaders.length≤n∧c.servers.length≤1048576∧c.call.ok) (hf:4194304<fu):p12 fu (c.fl (),c.fl (),())=some ((),true) := by
  obtain ⟨ht,hl,hs,hc⟩ := h
  have ht1 := ht.1
  have e := p24_is (fu := fu) c.call hc hf
  simp only [Ca.fl] at e
  unfold p12
  simp only [e,bind_val,p25_is c.servers (show c.servers.length≤4194304 by omega) hf,Bool.not_true,bneF rfl,cond_false]
  refine scanT_is c.topics.length _ _ (fun i hi => ?_) ?_ (by omega)
  · have hm:c.topics.getD i (dflt T_api_Topic) ∈ c.topics := by rw [getD_lt hi]; exact List.getElem_mem _
    simp only [Int.ofNat_lt,hi,decide_true,cond_true,Int.natCast_nonneg,and_self,Int.toNat_natCast,p26_is _ (ht.2 _ hm) hf,bind_val,Bool.not_true,cond_false,beq_self_eq_true,i64_succ hi (show c.topics.length≤9223372036854775807 by omega)]
  · simp only [Int.lt_irrefl,decide_false,cond_false]
    rw [scanT_is c.leaders.length _ ((),true) (fun i hi => ?_) ?_ (by omega)]
    · rfl
    · simp only [Int.lt_irrefl,decide_false,cond_false,beq_self_eq_true,cond_true,inrO_val]
    · simp only [Int.ofNat_lt,hi,decide_true,cond_true,Int.natCast_nonneg,and_self,Int.toNat_natCast,beq_self_eq_true,i64_succ hi (show c.leaders.length≤9223372036854775807 by omega)]
      rfl
end Go.Proofs.Ytnhniiannbimgaa
namespace Go.Proofs.Ytnhniiannbimgaa
open Go.RowKit
variable {fu:Nat}
theorem gt_not (a b:Int):decide (a>b) = !decide (a≤b) := by
  by_cases h:a≤b
  · simp only [h,decide_true,show ¬ a>b by omega,decide_false,Bool.not_true]
  · simp only [h,decide_false,show a>b by omega,decide_true,Bool.not_false]
theorem less_flip:∀ x y:List UInt8,Op.bytesLess x y = !(Op.bytesLess y x||y==x)
  | [],[]=>by simp [Op.bytesLess]
  | [],_ :: _=>by simp [Op.bytesLess]
  | _ :: _,[]=>by simp [Op.bytesLess]
  | a :: xs,b :: ys=>by
    rw [Op.bytesLess,Op.bytesLess,less_flip xs ys]
    by_cases h:a<b
    · have h2:¬ b<a := fun h' => absurd (UInt8.lt_trans h h') (UInt8.lt_irrefl _)
      have h3:b ≠ a := fun e=>by subst e; exact h2 h
      simp [h,h2,h3]
    · by_cases h':b<a
      · have:a ≠ b := fun e=>by subst e; exact h h'
        simp [h,h',this]
      · have:a=b := UInt8.le_antisymm (UInt8.not_lt.1 h') (UInt8.not_lt.1 h)
        subst this
        simp [h]
theorem p83_is (lo hi:ByteArray):p83 fu ((lo,hi,()),())=some ((),chkK lo hi) := by
  unfold p83 chkK abvK
  simp only [gt_not]
  cases decide ((lo.size:Int)≤32) <;> cases decide ((hi.size:Int)≤32) <;> cases hi.toList==(⟨#[]⟩:ByteArray).toList <;> cases (Op.bytesLess hi.toList lo.toList||hi.toList==lo.toList) <;> rfl
theorem p67_is (lo hi k:ByteArray):p67 fu ((lo,hi,()),k,())=some ((),hasK lo hi k) := by
  unfold p67 hasK abvK
  simp only [bind_val,p83_is,less_flip k.toList hi.toList]
  cases chkK lo hi==0 <;> cases decide ((k.size:Int)≤32) <;> cases Op.bytesLess k.toList lo.toList <;> cases hi.toList==(⟨#[]⟩:ByteArray).toList <;> rfl
theorem p46_is {n:Nat} (hn:n≤4194304) (c:Cl) (h:c.ok n) (hf:4194304<fu):p46 fu (c.fl zL,())=some ((),match c.topic? with | some i=>(i:Int) | none => -1) := by
  have hl := h.top.1
  unfold p46 Cl.topic?
  simp only
  rw [scan_is c.topics.length _ (fun i=>(c.topics.getD i (dflt T_api_Topic)).1.toList==c.call.topic.toList) (fun i=>((),(i:Int))) ((),(-1:Int)) (fun i hi => ?_) ?_ (by omega)]
  · cases firstN c.topics.length (fun i=>(c.topics.getD i (dflt T_api_Topic)).1.toList==c.call.topic.toList) <;> rfl
  · simp only [Int.lt_irrefl,decide_false,cond_false,inrO_val]
  · simp only [Int.ofNat_lt,hi,decide_true,cond_true,Int.natCast_nonneg,and_self,Int.toNat_natCast,inrO_val,i64_succ hi (show c.topics.length≤9223372036854775807 by omega)]
theorem p39_is {n:Nat} (hn:n≤4194304) (c:Cl) (h:c.ok n) (g:Int) (hf:4194304<fu) (o:Out):p39 fu (c.fl o.fl,g,())=some ((),c.to g) := by
  have hl := h.ld
  have h0 := h.at0
  have h1 := h.at1
  have h2:c.at'.toNat<c.servers.length := by omega
  unfold p39 Cl.to
  simp only
  rw [scan_is c.leaders.length _ (fun i=>(c.leaders.getD i (dflt T_api_Site)).1==g) (fun i=>((),(c.leaders.getD i (dflt T_api_Site)).2)) ((),c.server) (fun i hi => ?_) ?_ (by omega)]
  · cases firstN c.leaders.length (fun i=>(c.leaders.getD i (dflt T_api_Site)).1==g) <;> rfl
  · simp only [Int.lt_irrefl,decide_false,cond_false,inrO_val,h0,h1,h2,and_self,decide_true,cond_true]
    rfl
  · simp only [Int.ofNat_lt,hi,decide_true,cond_true,Int.natCast_nonneg,and_self,Int.toNat_natCast,inrO_val,i64_succ hi (show c.leaders.length≤9223372036854775807 by omega)]
theorem p40_is (k:Int):p40 fu (k,())=some ((),if k=1 then 1 else if k=2 then 2 else if k=3 then 3 else 4) := by
  unfold p40
  by_cases k1:k=1
  · simp only [beqT k1,cond_true,if_pos k1]
  · by_cases k2:k=2
    · simp only [beqF k1,beqT k2,cond_true,cond_false,if_neg k1,if_pos k2]
    · by_cases k3:k=3
      · simp only [beqF k1,beqF k2,beqT k3,cond_true,cond_false,if_neg k1,if_neg k2,if_pos k3]
      · simp only [beqF k1,beqF k2,beqF k3,cond_false,if_neg k1,if_neg k2,if_neg k3]
theorem p42_is (c:Cl):p42 fu (c.fl zN,())=some ((c.later.fl zN,(),(),(),(),(),()),()) := by
  unfold p42 Cl.later
  simp only [Cl.fl,zN,decide_true,cond_true]
theorem p43_is {n:Nat} (c:Cl) (h:c.ok n):p43 fu (c.fl zN,())=some ((c.nextS.fl zN,(),(),(),(),(),()),()) := by
  have h0 := h.at0
  have h1 := h.at1
  have h2 := h.sv
  have e:IntKind.wrap .i64 (c.at' + 1)=c.at' + 1 := i64_wrap (by omega) (by omega)
  unfold p43 Cl.nextS
  simp only [Cl.fl,zN,e]
  by_cases k:c.at' + 1=(c.servers.length:Int)
  · have k':c.at' + 1≥(c.servers.length:Int) := by omega
    simp only [k',if_pos k,cond_true,decide_true]
  · have k':¬ c.at' + 1≥(c.servers.length:Int) := by omega
    simp only [k',if_neg k,cond_false,decide_true,decide_false,cond_true]
theorem p45_is {n:Nat} (hn:n≤4194304) (c:Cl) (h:c.ok n) (hf:4194304<fu):p45 fu (c.fl zN,c.group,())=some ((c.forget.fl zN,(),(),(),(),(),()),()) := by
  have hl := h.ld
  unfold p45 Cl.forget
  simp only [Cl.fl,zN]
  refine filt_is c.leaders (dflt T_api_Site) _ (fun s => !(s.1==c.group)) (fun v=>(({ c with leaders := v }.fl zN,(),(),(),(),(),()),())) (fun i v hi hv => ?_) (fun v => ?_) (show c.leaders.length<fu by omega)
  · have h1:v.length+1≤maxLen∧(v.length+1) * 16≤140737488355328 := ⟨by unfold maxLen; omega,by omega⟩
    simp only [Int.ofNat_lt,hi,decide_true,cond_true,Int.natCast_nonneg,and_self,Int.toNat_natCast,i64_succ hi (show c.leaders.length≤9223372036854775807 by omega),List.length_cons,List.length_nil,Nat.zero_add,h1]
    rfl
  · simp only [Int.lt_irrefl,decide_false,cond_false,decide_true,cond_true,inrO_val]
theorem p44_is {n:Nat} (hn:n+1≤4194304) (c:Cl) (h:c.ok n) (a:Int) (hf:4194304<fu):p44 fu (c.fl zN,c.group,a,()) =
    some (((if a ∈ c.servers then c.lead a else c).fl zN,(),(),(),(),(),()),decide (a ∈ c.servers)) := by
  have hl := h.ld
  have hs := h.sv
  unfold p44
  simp only [Cl.fl,zN]
  refine (loopO_eq (I := fun s => ∃ i:Nat,s=((decide (a ∈ c.servers.take i),(i:Int),()),())∧i≤c.servers.length) (m := fun s=>c.servers.length-s.1.2.1.toNat) (g := fun _=>(((if a ∈ c.servers then c.lead a else c).fl zN,(),(),(),(),(),()),decide (a ∈ c.servers))) ?_ fu _ ⟨0,by simp,Nat.zero_le _⟩ (by simp; omega))
  rintro s ⟨i,rfl,hi⟩
  by_cases hi':i<c.servers.length
  · left
    have e:decide (a ∈ c.servers.take (i+1))=(decide (a ∈ c.servers.take i)||(c.servers.getD i (dflt (.int .i64))==a)) := by
      rw [take_snoc' hi' (dflt (.int .i64)),Bool.eq_iff_iff]
      simp only [List.mem_append,List.mem_singleton,decide_eq_true_eq,Bool.or_eq_true,beq_iff_eq]
      exact ⟨fun x=>x.imp id Eq.symm,fun x=>x.imp id Eq.symm⟩
    refine ⟨((decide (a ∈ c.servers.take (i+1)),((i+1:Nat):Int),()),()),?_,⟨i+1,rfl,hi'⟩,by simp only [Int.toNat_natCast]; omega,rfl⟩
    rw [e]
    have w := i64_succ hi' (show c.servers.length≤9223372036854775807 by omega)
    cases decide (a ∈ c.servers.take i) <;>
    simp only [Int.ofNat_lt,hi',decide_true,cond_true,cond_false,Int.natCast_nonneg,and_self,Int.toNat_natCast,w,Bool.true_or,Bool.false_or]
  · right
    obtain rfl:i=c.servers.length := by omega
    simp only [Int.lt_irrefl,decide_false,cond_false,List.take_length]
    by_cases k:a ∈ c.servers
    · simp only [k,decide_true,Bool.not_true,cond_false,if_true,Cl.lead,putL]
      rw [scan_is c.leaders.length _ (fun i=>(c.leaders.getD i (dflt T_api_Site)).1==c.group)
        (fun i=>(({ c with leaders := c.leaders.set i ((c.leaders.getD i (dflt T_api_Site)).1,a) }.fl zN,(),(),(),(),(),()),true))
        (({ c with leaders := c.leaders ++ [(c.group,a)] }.fl zN,(),(),(),(),(),()),true) (fun i hi => ?_) ?_ (by omega)]
      · cases hc:firstN c.leaders.length (fun i=>(c.leaders.getD i (dflt T_api_Site)).1==c.group) with
        | none=>rfl
        | some i =>
          have e := beq_iff_eq.1 (firstN_some hc).2.1
          simp only [e]; rfl
      · have h1:c.leaders.length+1≤maxLen∧(c.leaders.length+1) * 16≤140737488355328 := ⟨by unfold maxLen; omega,by omega⟩
        simp only [Int.lt_irrefl,decide_false,cond_false,inrO_val,List.length_cons,List.length_nil,Nat.zero_add,h1,and_self,decide_true,cond_true]
      · simp only [Int.ofNat_lt,hi,decide_true,cond_true,Int.natCast_nonneg,and_self,Int.toNat_natCast,inrO_val,List.length_set,i64_succ hi (show c.leaders.length≤9223372036854775807 by omega)]
    · simp only [k,decide_false,Bool.not_false,cond_true,if_false,decide_true,inrO_val]
theorem p20_is (k:Int):p20 fu (k,())=some ((),chB k) := by
  unfold p20 chB
  dsimp only
  cases k==1 <;> cases k==3 <;> cases k==5 <;> rfl
theorem p37_is (c:Cl) (r:Rep):p37 fu (c.fl zN,r.fl (),())=some ((c.zE r,(),(),(),(),(),()),()) := by
  unfold p37
  simp only [decide_true,cond_true]
end Go.Proofs.Ytnhniiannbimgaa
namespace Go.Proofs.Ytnhniiannbimgaa
open Go.RowKit
variable {fu:Nat}
theorem push_is {α R:Type} (l:List α) (d:α) (f:(List α×Int×Unit)×Unit→Option (((List α×Int×Unit)×Unit) ⊕ R)) (g:List α→R)
    (h1:∀ (i:Nat) (v:List α),i<l.length→v.length≤i→f ((v,(i:Int),()),())=some (.inl ((v ++ [l.getD i d],((i+1:Nat):Int),()),())))
    (h2:∀ v:List α,f ((v,(l.length:Int),()),())=some (.inr (g v))) (hf:l.length<fu):loopO fu f (([],(0:Int),()),())=some (g l) := by
  rw [filt_is l d f (fun _=>true) g (fun i v hi hv=>by rw [h1 i v hi hv]; rfl) h2 hf]
  congr 2
  exact List.filter_eq_self.2 fun _ _=>rfl
theorem p8_is (l:List D_api_Shard) (h:shsOk l) (hf:4194304<fu):p8 fu (l,())=some ((),l) := by
  obtain ⟨h1,h3⟩ := h
  unfold p8
  refine push_is l (dflt T_api_Shard) _ (fun v=>((),v)) (fun i v hi hv => ?_) (fun v => ?_) (by omega)
  · have hm:l.getD i (dflt T_api_Shard) ∈ l := by rw [getD_lt hi]; exact List.getElem_mem _
    have hq := h3 _ hm
    have a1:(l.getD i (dflt T_api_Shard)).2.2.2.1.length≤maxLen∧(l.getD i (dflt T_api_Shard)).2.2.2.1.length * 8≤140737488355328 := ⟨by have := hq.1; unfold maxLen; omega,by have := hq.1; omega⟩
    have a2:(l.getD i (dflt T_api_Shard)).2.2.2.2.1.length≤maxLen∧(l.getD i (dflt T_api_Shard)).2.2.2.2.1.length * 8≤140737488355328 := ⟨by have := hq.2; unfold maxLen; omega,by have := hq.2; omega⟩
    have a3:v.length+1≤maxLen∧(v.length+1) * 104≤140737488355328 := ⟨by unfold maxLen; omega,by omega⟩
    simp only [Int.ofNat_lt,hi,decide_true,cond_true,Int.natCast_nonneg,and_self,Int.toNat_natCast,i64_succ hi (show l.length≤9223372036854775807 by omega),List.length_cons,List.length_nil,Nat.zero_add,List.nil_append,a1,a2,a3]
  · simp only [Int.lt_irrefl,decide_false,cond_false,decide_true,cond_true,inrO_val]
theorem p7_is (c:Ca) (h:c.ok):p7 fu (c.fl (),())=some ((),c.fl ()) := by
  have a1:c.value.length≤maxLen∧c.value.length * 1≤140737488355328 := ⟨by have := h.1; unfold maxLen; omega,by have := h.1; omega⟩
  have a2:c.adm.ns.length≤maxLen∧c.adm.ns.length * 8≤140737488355328 := ⟨by have := h.2; unfold maxLen; omega,by have := h.2; omega⟩
  unfold p7
  simp only [Ca.fl,List.length_nil,Nat.zero_add,List.nil_append,a1,a2,and_self,decide_true,cond_true]
theorem p9_is {n:Nat} (hn:n≤4194304) (c:Cl) (h:topOk n c.topics∧c.leaders.length≤n∧c.servers.length≤1048576∧c.call.ok) (hf:4194304<fu):p9 fu (c.fl (),())=some ((),c.fl ()) := by
  obtain ⟨ht,hl,hs,hc⟩ := h
  have ht1 := ht.1
  have a1:c.servers.length≤maxLen∧c.servers.length * 8≤140737488355328 := ⟨by unfold maxLen; omega,by omega⟩
  have a2:c.leaders.length≤maxLen∧c.leaders.length * 16≤140737488355328 := ⟨by unfold maxLen; omega,by omega⟩
  have e7 := p7_is (fu := fu) c.call hc
  simp only [Ca.fl] at e7
  unfold p9
  simp only [Cl.fl,List.length_nil,Nat.zero_add,List.nil_append,a1,and_self,decide_true,cond_true]
  refine push_is c.topics (dflt T_api_Topic) _ (fun v=>((),{ c with topics := v }.fl ())) (fun i v hi hv => ?_) (fun v => ?_) (show c.topics.length<fu by omega)
  · have hm:c.topics.getD i (dflt T_api_Topic) ∈ c.topics := by rw [getD_lt hi]; exact List.getElem_mem _
    have a3:v.length+1≤maxLen∧(v.length+1) * 40≤140737488355328 := ⟨by unfold maxLen; omega,by omega⟩
    simp only [Int.ofNat_lt,hi,decide_true,cond_true,Int.natCast_nonneg,and_self,Int.toNat_natCast,p8_is _ (ht.2 _ hm) hf,bind_val,i64_succ hi (show c.topics.length≤9223372036854775807 by omega),List.length_cons,List.length_nil,Nat.zero_add,a3]
  · simp only [Int.lt_irrefl,decide_false,cond_false,decide_true,cond_true,a2,and_self,e7,bind_val,inrO_val]
theorem p38_is {n:Nat} (hn:n≤4194304) (c:Cl) (h:c.ok n) (hf:4194304<fu):p38_2 fu (c.fl zN,())=some ((c.fl zN,(),(),(),(),(),()),(shF (c.shard?.getD (dflt T_api_Shard)) (),c.shard?.isSome,())) := by
  have e := p46_is (fu := fu) hn c h hf
  simp only [Cl.fl,zL] at e
  unfold p38_2 Cl.shard?
  simp only [Cl.fl,zN,decide_true,cond_true,e,bind_val]
  cases hc:c.topic? with
  | none=>rfl
  | some i =>
    have hi := (firstN_some (show firstN _ _=some i from hc)).1
    have h0:¬ ((i:Int)<0) := by omega
    have hm:c.topics.getD i (dflt T_api_Topic) ∈ c.topics := by rw [getD_lt hi]; exact List.getElem_mem _
    have hs := (h.top.2 _ hm).1
    simp only [h0,decide_false,cond_false,decide_true,cond_true,Int.natCast_nonneg,Int.ofNat_lt,hi,and_self,Int.toNat_natCast]
    rw [scan_is (c.topics.getD i (dflt T_api_Topic)).2.length _ (fun j=>hasK ((c.topics.getD i (dflt T_api_Topic)).2.getD j (dflt T_api_Shard)).2.1.1 ((c.topics.getD i (dflt T_api_Topic)).2.getD j (dflt T_api_Shard)).2.1.2 c.call.key)
      (fun j=>((c.fl zN,(),(),(),(),(),()),(shF ((c.topics.getD i (dflt T_api_Topic)).2.getD j (dflt T_api_Shard)) (),true,()))) ((c.fl zN,(),(),(),(),(),()),(shF (dflt T_api_Shard) (),false,())) (fun j hj => ?_) ?_ (show (c.topics.getD i (dflt T_api_Topic)).2.length<fu by omega)]
    · unfold shardN
      cases firstN (c.topics.getD i (dflt T_api_Topic)).2.length (fun j=>hasK ((c.topics.getD i (dflt T_api_Topic)).2.getD j (dflt T_api_Shard)).2.1.1 ((c.topics.getD i (dflt T_api_Topic)).2.getD j (dflt T_api_Shard)).2.1.2 c.call.key) <;> rfl
    · simp only [Int.lt_irrefl,decide_false,cond_false,inrO_val]; rfl
    · simp only [Int.ofNat_lt,hj,decide_true,cond_true,Int.natCast_nonneg,and_self,Int.toNat_natCast,p67_is,bind_val,inrO_val,i64_succ hj (show (c.topics.getD i (dflt T_api_Topic)).2.length≤9223372036854775807 by omega)]
theorem p38a_is {n:Nat} (hn:n≤4194304) (c:Cl) (h:c.ok n) (hf:4194304<fu):p38_1 fu (c.fl zN,())=some ((c.fl zN,()),(shF (c.shard?.getD (dflt T_api_Shard)) (),c.shard?.isSome,())) := by
  have e := p46_is (fu := fu) hn c h hf
  simp only [Cl.fl,zL] at e
  unfold p38_1 Cl.shard?
  simp only [Cl.fl,zN,e,bind_val]
  cases hc:c.topic? with
  | none=>rfl
  | some i =>
    have hi := (firstN_some (show firstN _ _=some i from hc)).1
    have h0:¬ ((i:Int)<0) := by omega
    have hm:c.topics.getD i (dflt T_api_Topic) ∈ c.topics := by rw [getD_lt hi]; exact List.getElem_mem _
    have hs := (h.top.2 _ hm).1
    simp only [h0,decide_false,cond_false,decide_true,cond_true,Int.natCast_nonneg,Int.ofNat_lt,hi,and_self,Int.toNat_natCast]
    rw [scan_is (c.topics.getD i (dflt T_api_Topic)).2.length _ (fun j=>hasK ((c.topics.getD i (dflt T_api_Topic)).2.getD j (dflt T_api_Shard)).2.1.1 ((c.topics.getD i (dflt T_api_Topic)).2.getD j (dflt T_api_Shard)).2.1.2 c.call.key)
      (fun j=>((c.fl zN,()),(shF ((c.topics.getD i (dflt T_api_Topic)).2.getD j (dflt T_api_Shard)) (),true,()))) ((c.fl zN,()),(shF (dflt T_api_Shard) (),false,())) (fun j hj => ?_) ?_ (show (c.topics.getD i (dflt T_api_Topic)).2.length<fu by omega)]
    · unfold shardN
      cases firstN (c.topics.getD i (dflt T_api_Topic)).2.length (fun j=>hasK ((c.topics.getD i (dflt T_api_Topic)).2.getD j (dflt T_api_Shard)).2.1.1 ((c.topics.getD i (dflt T_api_Topic)).2.getD j (dflt T_api_Shard)).2.1.2 c.call.key) <;> rfl
    · simp only [Int.lt_irrefl,decide_false,cond_false,inrO_val]; rfl
    · simp only [Int.ofNat_lt,hj,decide_true,cond_true,Int.natCast_nonneg,and_self,Int.toNat_natCast,p67_is,bind_val,inrO_val,i64_succ hj (show (c.topics.getD i (dflt T_api_Topic)).2.length≤9223372036854775807 by omega)]
theorem p41_is {n:Nat} (hn:n+1≤4194304) (c:Cl) (h:c.ok n) (l:List D_api_Shard) (hl:shsOk l) (hf:4194304<fu):p41 fu (c.fl zN,l,())=some (((c.learn l).fl zN,(),(),(),(),(),()),()) := by
  have h1 := h.top.1
  have e := p46_is (fu := fu) (by omega) c h hf
  simp only [Cl.fl,zL] at e
  have a1:c.topics.length+1≤maxLen∧(c.topics.length+1) * 40≤140737488355328 := ⟨by unfold maxLen; omega,by omega⟩
  unfold p41 Cl.learn putL
  simp only [Cl.fl,zN,decide_true,cond_true,e,bind_val,p8_is l hl hf]
  rw [show firstN c.topics.length (fun i=>(c.topics.getD i (dflt T_api_Topic)).1.toList==c.call.topic.toList)=c.topic? from rfl]
  cases hc:c.topic? with
  | none=>simp only [show ((-1:Int)<0) by omega,decide_true,cond_true,List.length_cons,List.length_nil,Nat.zero_add,a1,and_self]
  | some i =>
    have hi := (firstN_some (show firstN _ _=some i from hc)).1
    have h0:¬ ((i:Int)<0) := by omega
    simp only [h0,decide_false,cond_false,decide_true,cond_true,Int.natCast_nonneg,Int.ofNat_lt,hi,and_self,Int.toNat_natCast,List.length_set]
theorem bAt_num (s:ByteArray) (i:Nat) (hi:i<s.size):bAt s i=(numsOf s).getD i 0 := by
  unfold bAt numsOf
  simp [List.getD_eq_getElem?_getD,hi]
theorem p36_is (s:ByteArray) (hs:(numsOf s).length<fu) (h63:(numsOf s).length≤9223372036854775807):p36 fu (s,())=some ((),nameB s) := by
  rw [numsOf_len] at hs h63
  unfold p36
  by_cases k1:(s.size:Int)<1
  · have k1':¬ ((s.size:Int)≥1) := by omega
    simp only [k1,decide_true,cond_true]
    unfold nameB
    simp only [k1',decide_false,Bool.false_and]
    split <;> rfl
  · have k1':((s.size:Int)≥1) := by omega
    by_cases k2:(s.size:Int)>32
    · have k2':¬ ((s.size:Int)≤32) := by omega
      simp only [k1,k2,decide_true,decide_false,cond_false,cond_true]
      unfold nameB
      simp only [k2',decide_false,Bool.and_false]
      split <;> rfl
    · have k2':((s.size:Int)≤32) := by omega
      simp only [k1,k2,decide_false,cond_false]
      rw [scan_is s.size _ (fun i=>badB ((numsOf s).getD i 0)) (fun _=>((),false)) ((),true) (fun i hi => ?_) ?_ hs]
      · unfold nameB
        rw [numsOf_len]
        simp only [k1',k2',decide_true,Bool.and_self]
        cases firstN s.size (fun i=>badB ((numsOf s).getD i 0)) <;> rfl
      · simp only [Int.lt_irrefl,decide_false,cond_false,inrO_val]
      · have hw := i64_succ hi h63
        simp only [Int.ofNat_lt,hi,decide_true,cond_true,Int.natCast_nonneg,and_self,Int.toNat_natCast,hw,bAt_num s i hi,inrO_val]
        exact nest7 _ _ _ _ _ _ _ _ _
theorem p19_is (x:Ca) (hs:(numsOf x.topic).length<fu) (h63:(numsOf x.topic).length≤9223372036854775807):p19 fu (x.fl (),())=some ((),mayB x) := by
  unfold p19 mayB
  simp only [p36_is x.topic hs h63,bind_val]
  by_cases k1:x.kind<1
  · simp only [k1,decide_true,cond_true,show ¬ (x.kind=5) by omega,if_false,show ¬ (x.kind≥1) by omega,decide_false,Bool.false_and]
  · by_cases k6:x.kind>6
    · simp only [k1,k6,decide_true,decide_false,cond_true,cond_false,show ¬ (x.kind=5) by omega,if_false,show ¬ (x.kind≤6) by omega,Bool.false_and,Bool.and_false]
    · by_cases k5:x.kind=5
      · simp only [k1,k6,decide_false,cond_false,beqT k5,cond_true,if_pos k5]
        cases decide (x.adm.k≥1) <;> rfl
      · simp only [k1,k6,decide_false,cond_false,beqF k5,if_neg k5,show x.kind≥1 by omega,show x.kind≤6 by omega,decide_true,Bool.true_and]
end Go.Proofs.Ytnhniiannbimgaa
namespace Go.Proofs.Ytnhniiannbimgaa
open Go.RowKit
variable {fu:Nat}
def Ca.is (x:Ca):Prop := 1≤x.kind∧x.kind≤6
@[reducible] def Out.flS (o:Out) := (o.send,o.to,o.req.id,o.req.kind,o.req.group,o.req.part.kind,o.req.part.epoch,o.req.part.producer,o.req.part.seq,o.req.part.key,o.req.part.value,o.req.part.offset,o.req.part.most,o.req.part.name,o.req.part.plan,o.req.adm.k,o.req.adm.p,o.req.adm.s,o.req.adm.t,o.req.adm.ns,o.req.adm.f,o.req.adm.g,o.req.adm.ky,o.req.adm.h,o.req.adm.i,o.req.adm.j,o.req.adm.l,o.req.topic,o.done,o.rep.id,o.rep.err,o.rep.leader,o.rep.x3,o.rep.x4,o.rep.x5,(),o.rep.x7,(),o.rep.x9,o.rep.x10,o.rep.x11,())
theorem p21_is {n:Nat} (hn:n≤4194304) (c:Cl) (h:c.ok n) (hk:c.call.is) (hf:4194304<fu) :
    p21 fu (c.fl zN,())=some ((c.send.1.fl c.send.2.flS,(),(),(),(),(),()),()) := by
  have hx:∀ b g,({ c.nx with route := b,group := g }:Cl).ok n := fun b g=>⟨h.sv,h.at0,h.at1,h.top,h.ld,h.ca⟩
  have e38 := p38a_is (fu := fu) hn { c.nx with route := false,group := 0 } (hx _ _) hf
  have e39 := fun b g x t=>p39_is (fu := fu) hn { c.nx with route := b,group := g } (hx b g) x hf ⟨true,t,Req.zero,false,Rep.zero⟩
  have e7 := p7_is (fu := fu) c.call h.ca
  have h0 := h.at0
  have h1 := h.at1
  have h2:c.at'.toNat<c.servers.length := by omega
  have hv := h.ca.1
  have a1:c.call.value.length≤maxLen∧c.call.value.length * 1≤140737488355328 := ⟨by unfold maxLen; omega,by omega⟩
  simp only [Cl.fl,zN,Cl.nx] at e38
  simp only [Cl.fl,Out.fl,Req.zero,Part.zero,Adm.zero,Rep.zero,Cl.nx] at e39
  simp only [Ca.fl] at e7
  unfold p21 Cl.send
  by_cases k:24≤c.tries
  · have k':c.tries≥24 := k
    unfold p37_3
    simp only [Cl.fl,k',decide_true,cond_true,bind_val,if_pos]
    rfl
  · have k':¬ (c.tries≥24) := k
    simp only [if_neg k]
    simp only [Cl.fl,k',decide_false,cond_false,decide_true,cond_true,orK_inl,e38,bind_val]
    have hs:({ c.nx with route := false,group := 0 }:Cl).shard? = c.shard? := rfl
    have hs':c.nx.shard? = c.shard? := rfl
    simp only [Cl.nx] at hs
    simp only [hs,h0,h1,h2,and_self,decide_true,cond_true]
    by_cases k5:c.call.kind=5
    · have hq:c.nx.req=(false,⟨0,c.call.kind,0,Part.zero,{ c.call.adm with p := c.producer,s := c.seq },⟨#[]⟩⟩,c.to 0) := by unfold Cl.req; rw [if_pos (show c.nx.call.kind=5 from k5),k5]; rfl
      rw [hq]
      simp only [beqT k5,cond_true,e7,bind_val,e39,orK_inl]
      rfl
    · simp only [beqF k5,cond_false]
      cases hc:c.shard? with
      | none =>
        have hq:c.nx.req=(c.call.kind != 6,⟨0,6,0,Part.zero,Adm.zero,c.call.topic⟩,c.server) := by unfold Cl.req; rw [if_neg (show ¬ c.nx.call.kind=5 from k5),hs',hc]; rfl
        rw [hq]
        by_cases k6:c.call.kind=6
        · simp only [beqT k6,cond_true,orK_inl]; rfl
        · simp only [beqF k6,cond_false,Option.isSome_none,Bool.not_false,cond_true,orK_inl]; rfl
      | some s =>
        by_cases k6:c.call.kind=6
        · have hq:c.nx.req=(false,⟨0,6,0,Part.zero,Adm.zero,c.call.topic⟩,c.server) := by unfold Cl.req; rw [if_neg (show ¬ c.nx.call.kind=5 from k5),hs',hc]; dsimp only; rw [if_pos (show c.nx.call.kind=6 from k6)]; rfl
          rw [hq]
          simp only [beqT k6,bneF k6,cond_true,orK_inl]; rfl
        · have hq:c.nx.req=(false,⟨0,c.call.kind,s.1,c.command s.2.2.1,Adm.zero,⟨#[]⟩⟩,c.to s.1) := by unfold Cl.req; rw [if_neg (show ¬ c.nx.call.kind=5 from k5),hs',hc]; dsimp only; rw [if_neg (show ¬ c.nx.call.kind=6 from k6)]; rfl
          rw [hq]
          simp only [beqF k6,cond_false,Option.isSome_some,Bool.not_true,orK_inl,e39,bind_val,p40_is]
          unfold Cl.command
          obtain ⟨l1,l6⟩ := hk
          by_cases k1:c.call.kind=1
          · simp only [beqT k1,cond_true,if_pos k1,List.length_nil,Nat.zero_add,List.nil_append,a1,and_self,decide_true,orK_inl]; rfl
          · by_cases k2:c.call.kind=2
            · simp only [beqF k1,beqT k2,cond_true,cond_false,if_neg k1,if_pos k2,orK_inl]; rfl
            · by_cases k3:c.call.kind=3
              · simp only [beqF k1,beqF k2,beqT k3,cond_true,cond_false,if_neg k1,if_neg k2,if_pos k3,orK_inl]; rfl
              · have k4:c.call.kind=4 := by omega
                simp only [beqF k1,beqF k2,beqF k3,beqT k4,cond_true,cond_false,if_neg k1,if_neg k2,if_neg k3,orK_inl]; rfl
end Go.Proofs.Ytnhniiannbimgaa
namespace Go.Proofs.Ytnhniiannbimgaa
open Go.RowKit
variable {fu:Nat}
theorem routes2_is {R:Type} (e:Int) (k:(Bool×Unit)×Unit→Option R):orK (E := (Bool×Unit)×Unit)
    (bif e==202 then some (.inl ((true,()),())) else bif e==162 then some (.inl ((true,()),())) else bif e==164 then some (.inl ((true,()),())) else bif e==163 then some (.inl ((true,()),())) else some (.inl (((e==182),()),()))) k=k ((decide (e=202 ∨ routes e),()),()) := by
  unfold routes
  by_cases k0:e=202
  · simp [k0,orK]
  · by_cases k1:e=162
    · simp [k1,orK]
    · by_cases k2:e=164
      · simp [k2,orK]
      · by_cases k3:e=163
        · simp [k3,orK]
        · by_cases k4:e=182
          · simp [k4,orK]
          · simp [k0,k1,k2,k3,beqF k0,beqF k1,beqF k2,beqF k3,beqF k4,k4,orK]
structure Cl.inv (c:Cl):Prop where
  kd:c.busy=true→c.call.is
  rt:c.route=true → ¬ c.call.kind=6
  nm:(c.topics.map fun t=>t.1.toList).Nodup
theorem first_all:∀ (l:List D_api_Topic) (g:List UInt8) (i:Nat),(l.map fun t=>t.1.toList).Nodup→i<l.length→((l.getD i (dflt T_api_Topic)).1.toList==g)=true →
    l.filter (fun t => !(t.1.toList==g))=l.take i ++ l.drop (i+1)
  | [],_,_,_,h,_=>absurd h (Nat.not_lt_zero _)
  | x :: l,g,0,hn,_,he=>by
    have he':x.1.toList=g := beq_iff_eq.1 he
    simp only [List.map_cons,List.nodup_cons] at hn
    simp only [List.filter_cons,he',beq_self_eq_true,Bool.not_true,Bool.false_eq_true,if_false,List.take_zero,List.nil_append,Nat.zero_add,List.drop_one,List.tail_cons]
    refine List.filter_eq_self.2 fun t ht => ?_
    have:¬ t.1.toList=g := fun e=>hn.1 (List.mem_map.2 ⟨t,ht,e.trans he'.symm⟩)
    simpa using this
  | x :: l,g,i+1,hn,hi,he=>by
    simp only [List.map_cons,List.nodup_cons] at hn
    have hi':i<l.length := Nat.lt_of_succ_lt_succ hi
    have he':((l.getD i (dflt T_api_Topic)).1.toList==g)=true := he
    have hx:¬ x.1.toList=g := fun e=>hn.1 (List.mem_map.2 ⟨l.getD i (dflt T_api_Topic),by rw [getD_lt hi']; exact List.getElem_mem _,(beq_iff_eq.1 he').trans e.symm⟩)
    simp only [List.filter_cons,show (!(x.1.toList==g))=true by simpa using hx,if_true,List.take_succ_cons,List.drop_succ_cons,List.cons_append]
    rw [first_all l g i hn.2 hi' he']
theorem none_all (l:List D_api_Topic) (g:List UInt8) (h:firstN l.length (fun i=>(l.getD i (dflt T_api_Topic)).1.toList==g)=none):l.filter (fun t => !(t.1.toList==g))=l := by
  refine List.filter_eq_self.2 fun t ht => ?_
  obtain ⟨i,hi,rfl⟩ := List.getElem_of_mem ht
  have := firstN_none h i hi
  rw [getD_lt hi] at this
  simp only [this,Bool.not_false]
theorem Cl.send_recs (c:Cl):c.send.2.rep.recs=[] := by
  unfold Cl.send
  split <;> rfl
theorem Cl.send_shs (c:Cl):c.send.2.rep.shards=[] := by
  unfold Cl.send
  split <;> rfl
set_option maxRecDepth 100000 in
theorem p22_is {n:Nat} (hn:n+1≤4194304) (c:Cl) (h:c.ok n) (hv:c.inv) (r:Rep) (hr:r.ok) (hf:4194304<fu) :
    p22 fu (c.fl zN,r.fl (),())=some (((c.replyS r).1.fl (c.replyS r).2.fl,(),(),(),(),(),()),()) := by
  unfold p22 Cl.replyS
  simp only [Cl.fl,decide_true,cond_true]
  by_cases b1:c.busy=false
  · simp only [condT (show (!c.busy)=true by simp [b1]),if_pos b1]; rfl
  have b1':(!c.busy)=false := by simpa using b1
  simp only [condF b1',if_neg b1]
  have hkd := hv.kd (by simpa using b1)
  by_cases b2:c.again=true
  · simp only [condT b2,if_pos b2]; rfl
  have b2':c.again=false := by simpa using b2
  simp only [condF b2',if_neg b2]
  by_cases b3:r.id=c.number
  rotate_left
  · simp only [condT (bneT b3),if_neg b3]; rfl
  simp only [condF (bneF b3),if_pos b3]
  by_cases c0:r.err=0
  · simp only [condT (beqT c0),if_pos c0]
    have ea := p41_is (fu := fu) hn c h r.shards hr.2 hf
    have hl := Cl.learn_ok h hr.2
    unfold Cl.answ Cl.taught
    by_cases k6:c.call.kind=6
    · have hb:c.route=false := by
        cases hb:c.route with
        | false=>rfl
        | true=>exact absurd k6 (hv.rt hb)
      have hb':(c.learn r.shards).route=false := hb
      have eb := p37_is (fu := fu) (c.learn r.shards) r
      simp only [if_pos (show c.route=true ∨ c.call.kind=6 from .inr k6),hb',if_true]
      simp only [Cl.fl,zN] at ea
      simp only [condT (beqT k6),ea,bind_val,orK_inl]
      generalize c.learn r.shards=d at eb hb' ⊢
      simp only [Cl.fl,zN,Rep.fl,Cl.zE] at eb
      simp only [condT (show (!d.route)=true by simp [hb']),eb,bind_val]
      rfl
    · cases hb:c.route with
      | false =>
        have eb := p37_is (fu := fu) c r
        simp only [Cl.fl,zN,Rep.fl,Cl.zE] at eb
        rw [hb] at eb
        have hno:¬ (false=true ∨ c.call.kind=6) := fun e=>e.elim (fun e=>by cases e) k6
        simp only [if_neg hno,hb,if_true,condF (beqF k6),orK_inl,Bool.not_false,cond_true,eb,bind_val]
        rfl
      | true =>
        rw [show c = { c with route := true } by rw [← hb]] at ea
        have e38 := p38_is (fu := fu) hn (c.learn r.shards) hl hf
        have e21 := p21_is (fu := fu) hn (c.learn r.shards) hl hkd hf
        have e42 := p42_is (fu := fu) (c.learn r.shards)
        have e43 := p43_is (fu := fu) (c.learn r.shards).later (Cl.later_ok hl)
        have hb':(c.learn r.shards).route=true := hb
        have hyes:(True ∨ c.call.kind=6) := .inl trivial
        have hq:({ c with route := true }:Cl).learn r.shards=c.learn r.shards := by unfold Cl.learn; rw [← hb]
        rw [hq] at ea
        simp only [if_pos hyes,hb',Bool.true_eq_false,if_false,condF (beqF k6),orK_inl,Bool.not_true,cond_false]
        simp only [Cl.fl,zN] at ea
        simp only [ea,bind_val]
        generalize c.learn r.shards=d at e38 e21 e42 e43 ⊢
        simp only [Cl.fl,zN] at e38 e21 e42 e43
        simp only [e38,bind_val]
        cases hs:d.shard?.isSome with
        | true =>
          simp only [cond_true,e21,bind_val,if_true,Out.fl,Cl.send_recs,Cl.send_shs]
        | false =>
          simp only [cond_false,e42,bind_val,Bool.false_eq_true,if_false,e43]
          rfl
  simp only [condF (beqF c0),if_neg c0]
  by_cases c1:r.err=201
  · have e44 := p44_is (fu := fu) hn c h r.leader hf
    have e21 := p21_is (fu := fu) hn (c.lead r.leader) (Cl.lead_ok h _) hkd hf
    have e45 := p45_is (fu := fu) (by omega) c h hf
    have e43 := p43_is (fu := fu) c.forget (Cl.forget_ok h)
    have e42 := p42_is (fu := fu) c.forget.nextS
    simp only [condT (beqT c1),if_pos c1]
    unfold Cl.toldL
    by_cases k:r.leader ∈ c.servers
    · simp only [k,if_true,decide_true] at e44
      simp only [Cl.fl,zN] at e44
      simp only [e44,bind_val,cond_true,k,if_true]
      generalize c.lead r.leader=d at e21 ⊢
      simp only [Cl.fl,zN] at e21
      simp only [e21,bind_val,Out.fl,Cl.send_recs,Cl.send_shs]
    · simp only [k,if_false,decide_false] at e44
      simp only [Cl.fl,zN] at e44
      simp only [e44,bind_val,cond_false,k,if_false]
      simp only [Cl.fl,zN] at e45 e43 e42
      simp only [e45,bind_val,e43,e42]
      rfl
  simp only [condF (beqF c1),if_neg c1,routes2_is]
  by_cases c2:r.err=202 ∨ routes r.err
  · simp only [c2,decide_true,cond_true]
    have e45 := p45_is (fu := fu) (by omega) c h hf
    have e46 := p46_is (fu := fu) (by omega) c.forget (Cl.forget_ok h) hf
    simp only [Cl.fl,zN,zL] at e45 e46
    by_cases k5:c.call.kind=5
    · by_cases c3:r.err=202
      · have c3':¬ routes r.err := by unfold routes; omega
        have e43 := p43_is (fu := fu) c.forget (Cl.forget_ok h)
        have e42 := p42_is (fu := fu) c.forget.nextS
        simp only [Cl.fl,zN] at e43 e42
        simp only [if_neg c3',if_pos c3,if_pos k5,condT (beqT k5),orK_inl,condF (bneF c3),e45,bind_val,e46,condF (show (!(c.call.kind==5))=false by rw [beqT k5]; rfl),cond_false,e43,e42]
        rfl
      · have c3':routes r.err := c2.resolve_left c3
        have eb := p37_is (fu := fu) c r
        simp only [Cl.fl,zN,Rep.fl,Cl.zE] at eb
        simp only [if_pos c3',if_pos k5,condT (beqT k5),orK_inl,condT (bneT c3),eb,bind_val]
        rfl
    · have e43 := p43_is (fu := fu) c.drop.forget (Cl.forget_ok (Cl.drop_ok h))
      have e42 := p42_is (fu := fu) c.drop.forget.nextS
      have hq:(if routes r.err then (if c.call.kind=5 then (c.fini,Out.told r) else (c.anew,Out.zero)) else if r.err=202 then (if c.call.kind=5 then (c.elsew,Out.zero) else (c.anew,Out.zero))
        else if r.err=203 then (if c.call.kind=5 then (c.fini,Out.told Rep.time) else (c.later,Out.zero)) else (c.fini,Out.told r))=(c.anew,Out.zero) := by
        by_cases c3:routes r.err
        · rw [if_pos c3,if_neg k5]
        · rw [if_neg c3,if_pos (c2.resolve_right c3),if_neg k5]
      rw [hq]
      have ht:c.drop.topics=c.topics.filter fun t => !(t.1.toList==c.call.topic.toList) := rfl
      have hl := h.top.1
      simp only [condF (beqF k5),orK_inl,cond_false,e45,bind_val,e46,condT (show (!(c.call.kind==5))=true by rw [beqF k5]; rfl)]
      have htt:c.forget.topic? = c.topic? := rfl
      rw [htt]
      cases hc:c.topic? with
      | none =>
        have hd:c.drop=c := by unfold Cl.drop; rw [none_all c.topics _ hc]
        rw [hd] at e43 e42
        unfold Cl.anew
        rw [hd]
        simp only [Cl.fl,zN] at e43 e42
        simp only [show ¬ ((-1:Int)≥0) by omega,decide_false,orK_inl,cond_false,e43,bind_val,e42]
        rfl
      | some i =>
        have hc' := firstN_some (show firstN _ _=some i from hc)
        have hi := hc'.1
        have e1 := first_all c.topics _ i hv.nm hi hc'.2.1
        have w:IntKind.wrap .i64 ((i:Int)+1)=((i+1:Nat):Int) := i64_succ hi (by omega)
        have hs:sub' c.topics (i+1) (c.topics.length-(i+1))=c.topics.drop (i+1) := by
          rw [sub'_eq]
          exact List.take_of_length_le (by rw [List.length_drop]; exact Nat.le_refl _)
        have l1:(c.topics.take i).length=i := by simp; omega
        have l2:(c.topics.drop (i+1)).length=c.topics.length-(i+1) := by simp
        have g1:i≤maxLen∧i * 40≤140737488355328 := ⟨by unfold maxLen; omega,by omega⟩
        have g2:i+(c.topics.length-(i+1))≤maxLen∧(i+(c.topics.length-(i+1))) * 40≤140737488355328 := ⟨by unfold maxLen; omega,by omega⟩
        have ft:c.forget.topics=c.topics := rfl
        unfold Cl.anew
        simp only [show ((i:Int)≥0) by omega,decide_true,orK_inl,cond_true,ft,Int.natCast_nonneg,Int.toNat_natCast,w,hs,l1,l2,List.length_nil,List.nil_append,Nat.zero_add,Nat.zero_le,g1,g2,and_self,
          show i≤c.topics.length by omega,show i+1≤c.topics.length by omega,Nat.le_refl,show i+1+(c.topics.length-(i+1))≤c.topics.length by omega]
        simp only [Cl.fl,zN] at e43 e42
        simp only [← e1]
        refine (congrArg (fun y=>Option.bind y _) e43).trans ?_
        simp only [bind_val,e42]
        rfl
  simp only [c2,decide_false,cond_false]
  have c2a:¬ routes r.err := fun e=>c2 (.inr e)
  have c2b:¬ r.err=202 := fun e=>c2 (.inl e)
  simp only [if_neg c2a,if_neg c2b]
  by_cases c4:r.err=203
  · simp only [condT (beqT c4),if_pos c4]
    by_cases k5:c.call.kind=5
    · unfold p37_3
      simp only [condT (beqT k5),if_pos k5,bind_val,decide_true,cond_true]; rfl
    · have e42 := p42_is (fu := fu) c
      simp only [Cl.fl,zN] at e42
      simp only [condF (beqF k5),if_neg k5,e42,bind_val]; rfl
  · have eb := p37_is (fu := fu) c r
    simp only [Cl.fl,zN,Rep.fl,Cl.zE] at eb
    simp only [condF (beqF c4),if_neg c4,eb,bind_val]
    rfl
end Go.Proofs.Ytnhniiannbimgaa
namespace Go.Proofs.Ytnhniiannbimgaa
open Go.RowKit
variable {fu:Nat}
set_option maxRecDepth 100000 in
theorem p23_is {n:Nat} (hn:n≤4194304) (c:Cl) (h:c.ok n) (hv:c.inv) (hf:4194304<fu) :
    p23 fu (c.fl zN,())=some ((c.tickS.1.fl c.tickS.2.flS,(),(),(),(),(),()),()) := by
  have hw:c.waits.ok n := ⟨h.sv,h.at0,h.at1,h.top,h.ld,h.ca⟩
  have hw2 := Cl.nextS_ok (Cl.forget_ok hw)
  unfold p23 Cl.tickS
  simp only [Cl.fl,decide_true,cond_true]
  by_cases b1:c.busy=false
  · simp only [condT (show (!c.busy)=true by simp [b1]),if_pos b1]; rfl
  have b1':(!c.busy)=false := by simpa using b1
  have hkd := hv.kd (by simpa using b1)
  have e21 := p21_is (fu := fu) hn c h hkd hf
  have e45 := p45_is (fu := fu) hn c.waits hw hf
  have e43 := p43_is (fu := fu) c.waits.forget (Cl.forget_ok hw)
  have e21' := p21_is (fu := fu) hn c.waits.forget.nextS hw2 hkd hf
  have hk:c.waits.forget.nextS.call.kind=c.call.kind := rfl
  simp only [Cl.fl,zN] at e21
  simp only [condF b1',if_neg b1]
  by_cases b2:c.again=true
  · simp only [condT b2,if_pos b2,e21,bind_val]
  have b2':c.again=false := by simpa using b2
  simp only [condF b2',if_neg b2]
  by_cases b3:12≤c.waits.waited
  · have b3':¬ (IntKind.wrap .i64 (c.waited+1)<12) := by
      have:12≤IntKind.wrap .i64 (c.waited+1) := b3
      omega
    simp only [b3',decide_false,cond_false,if_pos b3]
    generalize hg:c.waits.forget=g at e45 e43 e21' hk ⊢
    simp only [Cl.fl,zN,Cl.waits] at e45
    simp only [Cl.fl,zN] at e43
    simp only [e45,bind_val,e43]
    generalize g.nextS=g' at e21' hk ⊢
    simp only [Cl.fl,zN] at e21'
    by_cases k5:c.call.kind=5
    · unfold p37_3
      simp only [condT (beqT (hk.trans k5)),if_pos k5,bind_val,decide_true,cond_true]; rfl
    · simp only [condF (beqF (fun e=>k5 (hk.symm.trans e))),if_neg k5,e21',bind_val]
  · have b3':(IntKind.wrap .i64 (c.waited+1)<12) := by
      have:¬ 12≤IntKind.wrap .i64 (c.waited+1) := b3
      omega
    simp only [b3',decide_true,cond_true,if_neg b3]
    rfl
theorem may_kind {x:Ca} (h:¬ mayB x=false):x.is := by
  unfold mayB at h
  by_cases k:x.kind=5
  · exact ⟨by omega,by omega⟩
  · rw [if_neg k] at h
    simp only [Bool.and_eq_false_iff,not_or,Bool.not_eq_false,decide_eq_true_eq] at h
    exact ⟨h.1,h.2.1⟩
theorem Cl.tick_recs (c:Cl):c.tickS.2.rep.recs=[] := by
  unfold Cl.tickS
  split
  · rfl
  · split
    · exact Cl.send_recs _
    · split
      · split
        · rfl
        · exact Cl.send_recs _
      · rfl
theorem Cl.tick_shs (c:Cl):c.tickS.2.rep.shards=[] := by
  unfold Cl.tickS
  split
  · rfl
  · split
    · exact Cl.send_shs _
    · split
      · split
        · rfl
        · exact Cl.send_shs _
      · rfl
theorem Cl.ok_four {n:Nat} {c:Cl} (h:c.ok n):topOk n c.topics∧c.leaders.length≤n∧c.servers.length≤1048576∧c.call.ok := ⟨h.top,h.ld,h.sv,h.ca⟩
set_option maxRecDepth 100000 in
theorem p11_is {n:Nat} (hn:n+1≤4194304) (c:Cl) (h:c.ok n) (hv:c.inv) (k:Int) (x:Ca) (hx:x.ok) (r:Rep) (hr:r.ok) (hs:x.topic.size≤140737488355328) (hf:140737488355330<fu) :
    p11 fu (c.fl (),inFl k x r (),())=some ((),((c.step k x r).1.1.fl (),(c.step k x r).1.2.fl,(c.step k x r).2,())) := by
  have hf':4194304<fu := by omega
  have e9 := p9_is (fu := fu) (by omega) c (Cl.ok_four h) hf'
  have e9' := p9_is (fu := fu) (by omega) (c.step k x r).1.1 (Cl.ok_four (Cl.step_ok h k hx hr)) hf'
  have e19 := p19_is (fu := fu) x (by rw [numsOf_len]; omega) (by rw [numsOf_len]; omega)
  have e7 := p7_is (fu := fu) x hx
  have e22 := p22_is (fu := fu) hn c h hv r hr hf'
  have e23 := p23_is (fu := fu) (by omega) c h hv hf'
  simp only [Cl.fl,Ca.fl,Rep.fl,zN] at e9 e19 e7 e22 e23
  unfold p11
  unfold Cl.step at e9' ⊢
  simp only [Cl.fl,e9,bind_val]
  by_cases k1:k=1
  · simp only [if_pos k1] at e9' ⊢
    unfold Cl.callS at e9' ⊢
    simp only [condT (beqT k1),e19,bind_val]
    by_cases b1:c.busy=true
    · simp only [condT b1,if_pos b1,decide_true,cond_true]; rfl
    · have b1':c.busy=false := by simpa using b1
      simp only [if_neg b1] at e9' ⊢
      simp only [condF b1']
      by_cases b2:mayB x=false
      · simp only [b2,Bool.not_false,cond_true,decide_true]; rfl
      · have b2':mayB x=true := by simpa using b2
        have e21 := p21_is (fu := fu) (show n≤4194304 by omega) (c.calls x) ⟨h.sv,h.at0,h.at1,h.top,h.ld,hx⟩ (may_kind b2) hf'
        simp only [if_neg b2] at e9' ⊢
        simp only [b2',Bool.not_true,cond_false,e7,bind_val,p20_is,decide_true,cond_true]
        simp only [Cl.fl] at e9'
        have hsend := Cl.send_recs (c.calls x)
        have hsend2 := Cl.send_shs (c.calls x)
        generalize hq:(c.calls x).send=q at e21 e9' hsend hsend2 ⊢
        simp only [Cl.fl,zN,Cl.calls,Out.flS] at e21
        cases b3:chB x.kind with
        | true =>
          simp only [b3,cond_true] at e21
          simp only [cond_true,e21,bind_val,orK_inl,e9',Out.fl,hsend,hsend2]
        | false =>
          simp only [b3,cond_false] at e21
          simp only [cond_false,e21,bind_val,orK_inl,e9',Out.fl,hsend,hsend2]
  · simp only [if_neg k1] at e9' ⊢
    simp only [condF (beqF k1)]
    by_cases k2:k=2
    · simp only [if_pos k2] at e9' ⊢
      simp only [condT (beqT k2)]
      generalize c.replyS r=q at e22 e9' ⊢
      simp only [Cl.fl] at e9'
      simp only [e22,bind_val,decide_true,cond_true,orK_inl,e9']
    · simp only [if_neg k2] at e9' ⊢
      simp only [condF (beqF k2)]
      by_cases k3:k=3
      · simp only [if_pos k3] at e9' ⊢
        have h1 := Cl.tick_recs c
        have h2 := Cl.tick_shs c
        generalize c.tickS=q at e23 e9' h1 h2 ⊢
        simp only [Cl.fl] at e9'
        simp only [Out.flS] at e23
        simp only [condT (beqT k3),e23,bind_val,decide_true,cond_true,orK_inl,e9',Out.fl,h1,h2]
      · simp only [condF (beqF k3),if_neg k3,decide_true,cond_true]; rfl
end Go.Proofs.Ytnhniiannbimgaa
namespace Go.Proofs.Ytnhniiannbimgaa
open Go.RowKit
variable {fu:Nat}
def badI (id:Int) (l:List Int) (i:Nat):Bool := !isN (l.getD i 0)||(l.getD i 0==id||decide (l.getD i 0 ∈ l.take i))
theorem first_mem (l:List Int) (i:Nat) (x:Int) (hi:i≤l.length):(firstN i fun k=>l.getD k 0==x).isSome=decide (x ∈ l.take i) := by
  cases hc:firstN i fun k=>l.getD k 0==x with
  | none =>
    have:¬ x ∈ l.take i := fun hm=>by
      obtain ⟨k,hk,rfl⟩ := List.getElem_of_mem hm
      have hk':k<i := by simp at hk; omega
      have := firstN_none hc k hk'
      rw [getD_lt (show k<l.length by omega),List.getElem_take] at this
      simp at this
    simp [this]
  | some k =>
    obtain ⟨h1,h2,_⟩ := firstN_some hc
    have:x ∈ l.take i := by
      rw [← beq_iff_eq.1 h2,getD_lt (show k<l.length by omega)]
      exact List.mem_take_iff_getElem.2 ⟨k,by omega,rfl⟩
    simp [this]
theorem badI_none (id:Int) (l:List Int) (h:firstN l.length (badI id l)=none):(List.range l.length).all (newQ l)=true∧decide (id ∈ l)=false := by
  have hn := firstN_none h
  refine ⟨List.all_eq_true.2 fun i hi => ?_,?_⟩
  · have := hn i (List.mem_range.1 hi)
    unfold badI at this
    unfold newQ
    simp only [Bool.or_eq_false_iff,Bool.not_eq_false'] at this
    rw [this.1,this.2.2]; rfl
  · refine decide_eq_false fun hm => ?_
    obtain ⟨i,hi,rfl⟩ := List.getElem_of_mem hm
    have := hn i hi
    unfold badI at this
    rw [getD_lt hi] at this
    simp at this
theorem badI_some (id:Int) (l:List Int) {i:Nat} (h:firstN l.length (badI id l)=some i):(!decide (id ∈ l) && (List.range l.length).all (newQ l))=false := by
  obtain ⟨h1,h2,_⟩ := firstN_some h
  unfold badI at h2
  rw [Bool.and_eq_false_iff]
  by_cases hid:l.getD i 0=id
  · left
    have:id ∈ l := by rw [← hid,getD_lt h1]; exact List.getElem_mem _
    simp [this]
  · right
    rw [beqF hid,Bool.false_or] at h2
    refine List.all_eq_false.2 ⟨i,List.mem_range.2 h1,?_⟩
    unfold newQ
    cases ha:isN (l.getD i 0) <;> cases hb:decide (l.getD i 0 ∈ l.take i) <;> rw [ha,hb] at h2 <;> first | decide | exact nomatch h2
theorem arg_is {R:Type} (id pr:Int) (l:List Int) (k:(Bool×Unit)×Unit→Option R):orK (E := (Bool×Unit)×Unit)
   (bif decide (id<(1:Int)) then some (.inl ((true,()),())) else bif decide (id>(7:Int)) then some (.inl ((true,()),())) else bif ((l.length:Int)==(0:Int)) then some (.inl ((true,()),())) else some (.inl (((pr==(0:Int)),()),()))) k
   = k ((!(isN id && (pr != 0 && decide ((l.length:Int)>0))),()),()) := by
  unfold isN
  by_cases h1:id<1
  · simp only [h1,decide_true,cond_true,show ¬ id≥1 by omega,decide_false,Bool.false_and,Bool.not_false,orK_inl]
  · by_cases h2:id>7
    · simp only [h1,h2,decide_true,decide_false,cond_true,cond_false,show ¬ id≤7 by omega,Bool.and_false,Bool.false_and,Bool.not_false,orK_inl]
    · by_cases h3:(l.length:Int)=0
      · simp only [h1,h2,decide_false,cond_false,beqT h3,cond_true,show ¬ (l.length:Int)>0 by omega,Bool.and_false,Bool.not_false,orK_inl]
      · simp only [h1,h2,decide_false,cond_false,beqF h3,show (l.length:Int)>0 by omega,show id≥1 by omega,show id≤7 by omega,decide_true,Bool.and_true,Bool.true_and,orK_inl]
        by_cases h4:pr=0
        · simp only [beqT h4,bneF h4,Bool.not_false]
        · simp only [beqF h4,bneT h4,Bool.not_true]
theorem node_is {B:Type} (x id:Int):(bif decide (x<1) then (some (.inl ((true,()),())):Option (((Bool×Unit)×Unit) ⊕ B)) else bif decide (x>7) then some (.inl ((true,()),())) else some (.inl (((x==id),()),())))=some (.inl (((!isN x||x==id),()),())) := by
  unfold isN
  by_cases h1:x<1
  · simp [h1,show ¬ 1≤x by omega]
  · by_cases h2:x>7
    · simp [h1,h2,show ¬ x≤7 by omega]
    · simp [h1,h2,show 1≤x by omega,show x≤7 by omega]
theorem p6_is (id:Int) (l:List Int) (pr:Int) (hl:l.length≤1048576) (hf:4194304<fu) :
    p6 fu (id,l,pr,())=some ((),bif newB id l pr then ((Cl.new id l pr).fl (),0,()) else (Cl.none.fl (),1,())) := by
  unfold p6
  refine (arg_is id pr l _).trans ?_
  try dsimp only
  cases ha:isN id && (pr != 0 && decide ((l.length:Int)>0)) with
  | false =>
    have:newB id l pr=false := by
      unfold newB newA
      cases h1:isN id <;> cases h2:(pr != 0) <;> cases h3:decide ((l.length:Int)>0) <;> rw [h1,h2,h3] at ha <;> first | rfl | exact nomatch ha
    rw [this]; rfl
  | true =>
    have hb:newB id l pr=(!decide (id ∈ l) && (List.range l.length).all (newQ l)) := by
      unfold newB newA
      cases h1:isN id <;> cases h2:(pr != 0) <;> cases h3:decide ((l.length:Int)>0) <;> rw [h1,h2,h3] at ha <;> first | rfl | exact nomatch ha
    have a1:l.length≤maxLen∧l.length * 8≤140737488355328 := ⟨by unfold maxLen; omega,by omega⟩
    simp only [Bool.not_true,cond_false]
    rw [scan_is l.length _ (badI id l) (fun _=>((),(Cl.none.fl (),1,()))) ((),((Cl.new id l pr).fl (),0,())) (fun i hi => ?_) ?_ (by omega)]
    · cases hc:firstN l.length (badI id l) with
      | none =>
        obtain ⟨q1,q2⟩ := badI_none id l hc
        rw [hb,q1,q2]; rfl
      | some i=>rw [hb,badI_some id l hc]; rfl
    · simp only [Int.lt_irrefl,decide_false,cond_false,List.length_nil,Nat.zero_add,List.nil_append,a1,and_self,decide_true,cond_true,inrO_val]; rfl
    · have w := i64_succ hi (show l.length≤9223372036854775807 by omega)
      have ed:l.getD i (dflt (.int .i64))=l.getD i 0 := rfl
      simp only [Int.ofNat_lt,hi,decide_true,cond_true,Int.natCast_nonneg,and_self,Int.toNat_natCast,ed]
      rw [node_is]
      simp only [orK_inl]
      unfold badI
      cases hg:(!isN (l.getD i 0)||l.getD i 0==id) with
      | true =>
        simp only [cond_true,inrO_val,← Bool.or_assoc,hg,Bool.true_or]; rfl
      | false =>
        simp only [cond_false,← Bool.or_assoc,hg,Bool.false_or,← first_mem l i (l.getD i 0) (Nat.le_of_lt hi)]
        rw [scan_is i _ (fun k=>l.getD k 0==l.getD i 0) (fun _ => .inr ((),(Cl.none.fl (),1,()))) (.inl ((((i+1:Nat):Int),()),())) (fun k hk => ?_) ?_ (by omega)]
        · cases firstN i (fun k=>l.getD k 0==l.getD i 0) <;> rfl
        · simp only [Int.lt_irrefl,decide_false,cond_false,inrO_val,w]
        · simp only [Int.ofNat_lt,hk,show k<l.length by omega,decide_true,cond_true,Int.natCast_nonneg,and_self,Int.toNat_natCast,inrO_val,i64_succ hk (show i≤9223372036854775807 by omega)]
          rfl
end Go.Proofs.Ytnhniiannbimgaa
namespace Go.Proofs.Ytnhniiannbimgaa
open Go.RowKit
variable {fu:Nat}
theorem Cl.send_inv {c:Cl} (hk:c.busy=true→c.call.is) (hn:(c.topics.map fun t=>t.1.toList).Nodup):c.send.1.inv := by
  unfold Cl.send
  split
  · exact ⟨fun e=>(by cases e),fun e=>(by cases e),hn⟩
  · refine ⟨hk,fun e => ?_,hn⟩
    show ¬ c.call.kind=6
    have e':c.nx.req.1=true := e
    unfold Cl.req at e'
    split at e'
    · cases e'
    · split at e'
      · intro h6
        rw [show c.nx.call.kind=6 from h6] at e'
        cases e'
      · split at e' <;> cases e'
theorem Cl.fini_inv {c:Cl} (h:c.inv):c.fini.inv := ⟨fun e=>(by cases e),fun e=>(by cases e),h.nm⟩
theorem put_nm (l:List D_api_Topic) (a:ByteArray) (b:List D_api_Shard) (h:(l.map fun t=>t.1.toList).Nodup):((putL l (a,b) (dflt T_api_Topic) fun t=>t.1.toList==a.toList).map fun t=>t.1.toList).Nodup := by
  unfold putL
  cases hc:firstN l.length (fun i=>(l.getD i (dflt T_api_Topic)).1.toList==a.toList) with
  | none =>
    simp only [List.map_append,List.map_cons,List.map_nil]
    refine List.nodup_append.2 ⟨h,by simp,fun x hx y hy => ?_⟩
    obtain ⟨t,ht,rfl⟩ := List.mem_map.1 hx
    obtain ⟨i,hi,rfl⟩ := List.getElem_of_mem ht
    have := firstN_none hc i hi
    rw [getD_lt hi] at this
    rw [List.mem_singleton.1 hy]
    simpa using this
  | some i =>
    obtain ⟨h1,h2,_⟩ := firstN_some hc
    have e:(l.set i (a,b)).map (fun t=>t.1.toList)=l.map fun t=>t.1.toList := by
      rw [List.map_set]
      rw [getD_lt h1] at h2
      have e2:a.toList=(l.map fun t=>t.1.toList)[i]'(by simpa using h1) := by
        rw [List.getElem_map]; exact (beq_iff_eq.1 h2).symm
      show (l.map fun t=>t.1.toList).set i a.toList=_
      rw [e2,List.set_getElem_self]
    simp only [e]
    exact h
theorem Cl.learn_inv {c:Cl} (h:c.inv) (l:List D_api_Shard):(c.learn l).inv := ⟨h.kd,h.rt,put_nm c.topics c.call.topic l h.nm⟩
theorem Cl.step_inv {c:Cl} (h:c.inv) (k:Int) (x:Ca) (r:Rep):(c.step k x r).1.1.inv := by
  unfold Cl.step
  split
  · unfold Cl.callS
    split
    · exact h
    · split
      · exact h
      · rename_i hm
        exact Cl.send_inv (fun _=>may_kind hm) h.nm
  · split
    · have he:c.elsew.inv := ⟨h.kd,h.rt,h.nm⟩
      have ha:c.anew.inv := ⟨h.kd,h.rt,List.Pairwise.sublist (List.Sublist.map _ List.filter_sublist) h.nm⟩
      have ht:(c.taught r).inv := by
        unfold Cl.taught
        split
        · exact Cl.learn_inv h _
        · exact h
      unfold Cl.replyS
      split
      · exact h
      · split
        · exact h
        · split
          · split
            · unfold Cl.answ
              split
              · exact Cl.fini_inv ht
              · split
                · exact Cl.send_inv ht.kd ht.nm
                · exact ⟨ht.kd,ht.rt,ht.nm⟩
            · split
              · unfold Cl.toldL
                split
                · exact Cl.send_inv h.kd h.nm
                · exact he
              · split
                · split
                  · exact Cl.fini_inv h
                  · exact ha
                · split
                  · split
                    · exact he
                    · exact ha
                  · split
                    · split
                      · exact Cl.fini_inv h
                      · exact ⟨h.kd,h.rt,h.nm⟩
                    · exact Cl.fini_inv h
          · exact h
    · split
      · unfold Cl.tickS
        split
        · exact h
        · split
          · exact Cl.send_inv h.kd h.nm
          · split
            · split
              · exact Cl.fini_inv ⟨h.kd,h.rt,h.nm⟩
              · exact Cl.send_inv h.kd h.nm
            · exact ⟨h.kd,h.rt,h.nm⟩
      · exact h
theorem Cl.new_inv (id:Int) (l:List Int) (pr:Int):(Cl.new id l pr).inv := ⟨fun e=>(by cases e),fun e=>(by cases e),List.nodup_nil⟩
def Out.ok (o:Out):Prop := o.rep.ok∧o.req.adm.ns.length≤1048576∧o.req.part.value.length≤1048576
theorem Out.zero_ok:Out.zero.ok := ⟨⟨⟨Nat.zero_le _,fun _ h=>(by cases h)⟩,⟨Nat.zero_le _,fun _ h=>(by cases h)⟩⟩,Nat.zero_le _,Nat.zero_le _⟩
theorem Out.told_ok {r:Rep} (h:r.ok):(Out.told r).ok := ⟨h,Nat.zero_le _,Nat.zero_le _⟩
theorem Cl.send_out {n:Nat} {c:Cl} (h:c.ok n):c.send.2.ok := by
  unfold Cl.send
  split
  · exact Out.told_ok Rep.time_ok
  · refine ⟨Out.zero_ok.1,?_⟩
    show c.nx.req.2.1.adm.ns.length≤1048576∧c.nx.req.2.1.part.value.length≤1048576
    unfold Cl.req
    split
    · exact ⟨h.ca.2,Nat.zero_le _⟩
    · split
      · exact ⟨Nat.zero_le _,Nat.zero_le _⟩
      · split
        · exact ⟨Nat.zero_le _,Nat.zero_le _⟩
        · refine ⟨Nat.zero_le _,?_⟩
          show (c.nx.command _).value.length≤1048576
          unfold Cl.command
          split
          · exact h.ca.1
          · split
            · exact Nat.zero_le _
            · split <;> exact Nat.zero_le _
theorem Cl.step_out {n:Nat} {c:Cl} (h:c.ok n) (k:Int) {x:Ca} (hx:x.ok) {r:Rep} (hr:r.ok):(c.step k x r).1.2.ok := by
  unfold Cl.step
  split
  · unfold Cl.callS
    split
    · exact Out.zero_ok
    · split
      · exact Out.zero_ok
      · exact Cl.send_out (c := c.calls x) (n := n) ⟨h.sv,h.at0,h.at1,h.top,h.ld,hx⟩
  · split
    · have ht := Cl.taught_ok h hr
      unfold Cl.replyS
      split
      · exact Out.zero_ok
      · split
        · exact Out.zero_ok
        · split
          · split
            · unfold Cl.answ
              split
              · exact Out.told_ok hr
              · split
                · exact Cl.send_out ht
                · exact Out.zero_ok
            · split
              · unfold Cl.toldL
                split
                · exact Cl.send_out (Cl.lead_ok h _)
                · exact Out.zero_ok
              · split
                · split
                  · exact Out.told_ok hr
                  · exact Out.zero_ok
                · split
                  · split <;> exact Out.zero_ok
                  · split
                    · split
                      · exact Out.told_ok Rep.time_ok
                      · exact Out.zero_ok
                    · exact Out.told_ok hr
          · exact Out.zero_ok
    · split
      · have hw:c.waits.ok n := ⟨h.sv,h.at0,h.at1,h.top,h.ld,h.ca⟩
        unfold Cl.tickS
        split
        · exact Out.zero_ok
        · split
          · exact Cl.send_out h
          · split
            · split
              · exact Out.told_ok Rep.time_ok
              · exact Cl.send_out (Cl.nextS_ok (Cl.forget_ok hw))
            · exact Out.zero_ok
      · exact Out.zero_ok
theorem p84_is (l:List D_api_Record) (h:l.length≤1048576) (hf:4194304<fu):p84 fu (l,l,())=some ((),true) := by
  unfold p84
  simp only [bneF rfl,cond_false]
  refine scanT_is l.length _ _ (fun i hi => ?_) ?_ (by omega)
  · simp only [Int.ofNat_lt,hi,decide_true,cond_true,Int.natCast_nonneg,and_self,Int.toNat_natCast,cond_false,beq_self_eq_true,Bool.not_true,i64_succ hi (show l.length≤9223372036854775807 by omega)]
  · simp only [Int.lt_irrefl,decide_false,cond_false,inrO_val]
theorem p13_is (o:Out) (h:o.ok) (hf:4194304<fu):p13 fu (o.fl,o.fl,())=some ((),true) := by
  have e26 := p26_is (fu := fu) o.rep.shards h.1.2 hf
  have e84 := p84_is (fu := fu) o.rep.recs h.1.1.1 hf
  have e68 := p68_is (fu := fu) o.req.adm h.2.1 hf
  simp only [Adm.fl] at e68
  unfold p13 p27 p28 p48 p49 p70 p69
  simp only [e26,e84,e68,bind_val,cond_true,beq_self_eq_true]
end Go.Proofs.Ytnhniiannbimgaa
namespace Go.Proofs.Ytnhniiannbimgaa
open Go.RowKit
variable {fu:Nat}
@[reducible] def admOf (a:D_api_PlaceCommand):Adm := ⟨a.1,a.2.1,a.2.2.1,a.2.2.2.1,a.2.2.2.2.1,a.2.2.2.2.2.1,a.2.2.2.2.2.2.1,a.2.2.2.2.2.2.2.1,a.2.2.2.2.2.2.2.2.1,a.2.2.2.2.2.2.2.2.2.1,a.2.2.2.2.2.2.2.2.2.2.1,a.2.2.2.2.2.2.2.2.2.2.2⟩
@[reducible] def caOf (c:D_api_Call):Ca := ⟨c.1,c.2.1,c.2.2.1,c.2.2.2.1,c.2.2.2.2.1,c.2.2.2.2.2.1,c.2.2.2.2.2.2.1,admOf c.2.2.2.2.2.2.2⟩
@[reducible] def repOf (r:D_api_Reply):Rep := ⟨r.1,r.2.1,r.2.2.1,r.2.2.2.1.1,r.2.2.2.1.2.1,r.2.2.2.1.2.2.1,r.2.2.2.1.2.2.2,r.2.2.2.2.1,r.2.2.2.2.2.1,r.2.2.2.2.2.2.1,r.2.2.2.2.2.2.2.1,r.2.2.2.2.2.2.2.2⟩
def inOk (x:D_api_ClientInput):Prop := (caOf x.2.1).ok∧(repOf x.2.2).ok∧x.2.1.2.1.size≤140737488355328
theorem over_is {α S R:Type} (F:List α→S) (n:Nat) (f:((Int×Unit)×(S×Unit))→Option (((Int×Unit)×(S×Unit)) ⊕ R)) (res:R)
    (h1:∀ (i:Nat) (v:List α),i<n→v.length=n → ∃ w:List α,w.length=n∧f (((i:Int),()),(F v,()))=some (.inl ((((i+1:Nat):Int),()),(F w,()))))
    (h2:∀ v:List α,v.length=n→f (((n:Int),()),(F v,()))=some (.inr res)) (v:List α) (hv:v.length=n) (hf:n<fu):loopO fu f (((0:Int),()),(F v,()))=some res := by
  refine loopO_eq (I := fun s => ∃ (i:Nat) (v:List α),s=(((i:Int),()),(F v,()))∧i≤n∧v.length=n) (m := fun s=>n-s.1.1.toNat) (g := fun _=>res) ?_ fu _ ⟨0,v,rfl,Nat.zero_le _,hv⟩ (by simp; omega)
  rintro s ⟨i,v,rfl,hi,hv⟩
  by_cases hi':i<n
  · left
    obtain ⟨w,hw,e⟩ := h1 i v hi' hv
    exact ⟨_,e,⟨i+1,w,rfl,hi',hw⟩,by simp only [Int.toNat_natCast]; omega,rfl⟩
  · right
    obtain rfl:i=n := by omega
    exact h2 v hv
def spoil1 (v:List D_api_Shard) (j:Nat):List D_api_Shard := v.set j ((v.getD j (dflt T_api_Shard)).1,(v.getD j (dflt T_api_Shard)).2.1,(v.getD j (dflt T_api_Shard)).2.2.1,[],(v.getD j (dflt T_api_Shard)).2.2.2.2)
def spoilS (v:List D_api_Shard) (j:Nat):List D_api_Shard := (spoil1 v j).set j (99,((spoil1 v j).getD j (dflt T_api_Shard)).2)
theorem spoilS_len (v:List D_api_Shard) (j:Nat):(spoilS v j).length=v.length := by simp [spoilS,spoil1]
set_option maxRecDepth 100000 in
set_option maxHeartbeats 1000000 in
theorem p3_is (id:Int) (sv:List Int) (l:List D_api_ClientInput) (hs:sv.length≤1048576) (hl:l.length≤1048576) (hx:∀ x ∈ l,inOk x) (hf:140737488355330<fu) :
    p3 fu (id,sv,l,())=some ((),true) := by
  have hf':4194304<fu := by omega
  have e5 := p5_is (fu := fu) id sv 9 hs hf'
  have e6 := p6_is (fu := fu) id sv 9 hs hf'
  unfold p3
  rw [f10_7]
  cases hb:newB id sv 9 with
  | false =>
    rw [hb] at e5 e6
    simp only [cond_false,Cl.fl] at e5 e6
    simp only [p4_is hf,bind_val,e5,e6,Bool.not_true,cond_false,bneF rfl]
    rfl
  | true =>
    rw [hb] at e5 e6
    have hc0 := Cl.new_ok id 9 hs (newB_pos hb)
    have hv0 := Cl.new_inv id sv 9
    generalize Cl.new id sv 9=c0 at e5 e6 hc0 hv0
    simp only [cond_true,Cl.fl] at e5 e6
    simp only [p4_is hf,bind_val,e5,e6,Bool.not_true,bneF rfl,decide_true,cond_true,cond_false]
    refine loopO_eq (I := fun s => ∃ (i:Nat) (c:Cl),s=(((i:Int),()),(c.fl (),(c.fl (),())))∧i≤l.length∧c.ok i∧c.inv) (m := fun s=>l.length-s.1.1.toNat) (g := fun _=>((),true)) ?_ fu _ ⟨0,c0,rfl,Nat.zero_le _,hc0,hv0⟩ (by simp; omega)
    rintro s ⟨i,c,rfl,hi,hc,hv⟩
    by_cases hi':i<l.length
    · left
      have hm:l.getD i (dflt T_api_ClientInput) ∈ l := by rw [getD_lt hi']; exact List.getElem_mem _
      generalize hxx:l.getD i (dflt T_api_ClientInput)=x at hm
      obtain ⟨k1,k2,k3⟩ := hx x hm
      have e7 := p7_is (fu := fu) (caOf x.2.1) k1
      have e8 := p8_is (fu := fu) (repOf x.2.2).shards k2.2 hf'
      have e9 := p9_is (fu := fu) (n := i) (by omega) c (Cl.ok_four hc) hf'
      have e10 := p10_is (fu := fu) (n := i) (by omega) c hc x.1 (caOf x.2.1) k1 (repOf x.2.2) k2 k3 hf
      have e11 := p11_is (fu := fu) (n := i) (by omega) c hc hv x.1 (caOf x.2.1) k1 (repOf x.2.2) k2 k3 hf
      have e12 := p12_is (fu := fu) (n := i) (by omega) c (Cl.ok_four hc) hf'
      have hc' := Cl.step_ok hc x.1 k1 k2
      have hv' := Cl.step_inv hv x.1 (caOf x.2.1) (repOf x.2.2)
      have e12' := p12_is (fu := fu) (n := i+1) (by omega) (c.step x.1 (caOf x.2.1) (repOf x.2.2)).1.1 (Cl.ok_four hc') hf'
      have ho := Cl.step_out hc x.1 k1 k2
      have e13 := p13_is (fu := fu) (c.step x.1 (caOf x.2.1) (repOf x.2.2)).1.2 ho hf'
      generalize c.step x.1 (caOf x.2.1) (repOf x.2.2)=st at e10 e11 e12' e13 hc' hv' ho
      obtain ⟨⟨d,o⟩,e⟩ := st
      simp only at e10 e11 e12' e13 hc' hv' ho
      refine ⟨((((i+1:Nat):Int),()),(d.fl (),(d.fl (),()))),?_,⟨i+1,d,rfl,hi',hc',hv'⟩,by simp only [Int.toNat_natCast]; omega,rfl⟩
      simp only [Cl.fl,inFl,Out.fl] at e10 e11
      simp only [Ca.fl] at e7
      simp only [Cl.fl] at e9 e12 e12'
      simp only [Out.fl] at e13
      simp only [Cl.fl,Int.ofNat_lt,hi',decide_true,cond_true,Int.natCast_nonneg,and_self,Int.toNat_natCast,hxx,e7,e8,e9,e10,e11,e12,e12',e13,bind_val,Bool.not_true,cond_false,bneF rfl]
      have w:IntKind.wrap .i64 ((i:Int)+1)=((i+1:Nat):Int) := i64_succ hi' (by omega)
      have ho2 := ho.2.2
      have k11 := k1.1
      have k21 := k2.2.1
      refine over_is (F := fun v=>({ o with req := { o.req with part := { o.req.part with value := v } } }:Out).fl) o.req.part.value.length _ _ (fun j v hj hv=>⟨v.set j (IntKind.wrap .u8 (v.getD j (dflt (.int .u8))+1)),by rw [List.length_set]; exact hv,?_⟩) (fun v hv => ?_) o.req.part.value rfl (by omega)
      · simp only [Int.ofNat_lt,hv,hj,decide_true,cond_true,Int.natCast_nonneg,and_self,Int.toNat_natCast,List.length_set,i64_succ hj (show o.req.part.value.length≤9223372036854775807 by omega)]
      · simp only [hv,Int.lt_irrefl,decide_false,cond_false]
        rw [over_is (F := fun v=>inFl x.1 (caOf x.2.1) { repOf x.2.2 with shards := v } ()) (repOf x.2.2).shards.length _ (.inl ((((i+1:Nat):Int),()),(d.fl (),(d.fl (),())))) (fun j v hj hv=>⟨spoilS v j,by rw [spoilS_len]; exact hv,?_⟩) (fun v hv => ?_) (repOf x.2.2).shards rfl (by omega)]
        · rfl
        · simp only [Int.ofNat_lt,hv,hj,decide_true,cond_true,Int.natCast_nonneg,and_self,Int.toNat_natCast,List.length_set,i64_succ hj (show (repOf x.2.2).shards.length≤9223372036854775807 by omega)]
          rfl
        · simp only [hv,Int.lt_irrefl,decide_false,cond_false]
          rw [over_is (F := fun u=>inFl x.1 { caOf x.2.1 with value := u } { repOf x.2.2 with shards := v } ()) (caOf x.2.1).value.length _ (.inl ((((i+1:Nat):Int),()),(d.fl (),(d.fl (),())))) (fun j v hj hv=>⟨v.set j (IntKind.wrap .u8 (v.getD j (dflt (.int .u8))+1)),by rw [List.length_set]; exact hv,?_⟩) (fun v hv => ?_) (caOf x.2.1).value rfl (by omega)]
          · rfl
          · simp only [Int.ofNat_lt,hv,hj,decide_true,cond_true,Int.natCast_nonneg,and_self,Int.toNat_natCast,List.length_set,i64_succ hj (show (caOf x.2.1).value.length≤9223372036854775807 by omega)]
          · simp only [hv,Int.lt_irrefl,decide_false,cond_false,w,inrO_val]
    · right
      obtain rfl:i=l.length := by omega
      simp only [Int.lt_irrefl,decide_false,cond_false,inrO_val]
end Go.Proofs.Ytnhniiannbimgaa
