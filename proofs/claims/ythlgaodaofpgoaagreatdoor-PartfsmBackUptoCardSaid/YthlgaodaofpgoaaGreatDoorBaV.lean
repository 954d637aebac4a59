/-
  Layer 16, from layer 14: names, consumers, records, ranges.
-/
import Derived.Test.YthlgaodaofpgoaaGreatDoorPtL
import Derived.Test.YthlgaodaofpgoaaGreatDoorDaP
namespace Go.Proofs.YthlgaodaofpgoaaGreatDoor
open Go.RowKit
section
variable {fu:Nat}
abbrev Cn := D_runtime_errorAddressString
theorem loop_any {X S R:Type} {f:S→Option (S ⊕ R)}:∀ (l:List X) (mk:Nat→S) (q:X→Bool) (r fin:R),l.length<fu →
  (∀ i (h:i<l.length),f (mk i)=some (bif q l[i] then .inr r else .inl (mk (i+1))))→f (mk l.length)=some (.inr fin)→loopO fu f (mk 0)=some (bif l.any q then r else fin) := by
 intro l mk q r fin hf hs he
 have key:∀ k i n,i+k=l.length→k<n→loopO n f (mk i)=some (bif (l.drop i).any q then r else fin) := by
  intro k
  induction k with
  | zero =>
   intro i n hi hn
   obtain ⟨m,rfl⟩:∃ m,n=m+1 := ⟨n-1,by omega⟩
   obtain rfl:i=l.length := by omega
   simp only [loopO,he,List.drop_length,List.any_nil,cond_false]
  | succ k ih =>
   intro i n hi hn
   obtain ⟨m,rfl⟩:∃ m,n=m+1 := ⟨n-1,by omega⟩
   have hlt:i<l.length := by omega
   rw [List.drop_eq_getElem_cons hlt]
   simp only [loopO,hs i hlt,List.any_cons]
   cases q l[i] with
   | true=>rfl
   | false=>exact ih (i+1) m (by omega) (by omega)
 exact key l.length 0 fu (by omega) hf
theorem loop_for {X S R:Type} {f:S→Option (S ⊕ R)} {res:R} (l:List X) (mk:Nat→S) (q:X→Bool) (r fin:R) (hf:l.length<fu)
  (hs:∀ i (h:i<l.length),f (mk i)=some (bif q l[i] then .inr r else .inl (mk (i+1)))) (he:f (mk l.length)=some (.inr fin)) (hr:(bif l.any q then r else fin)=res):loopO fu f (mk 0)=some res :=
 hr ▸ loop_any l mk q r fin hf hs he
abbrev ky (s:ByteArray):List UInt8 := s.data.toList
/-! ### Names -/
def sq (x:Int):Bool := bif x != 45 then bif x != 95 then bif x != 46 then true else false else false else false
def qb (x:Int):Bool := bif decide (x<97) then (bif decide (x<48) then sq x else bif decide (x>57) then sq x else false) else bif decide (x>122) then (bif decide (x<48) then sq x else bif decide (x>57) then sq x else false) else false
def nameB (a:ByteArray):Bool := bif (numsOf a).any qb then false else decide (1≤a.size∧a.size≤32)
theorem step_qb {S R:Type} {r:R} {s:S} (x:Int):(bif decide (x<97) then
  bif decide (x<48) then
   bif x != 45 then bif x != 95 then bif x != 46 then some (.inr r) else some (.inl s) else some (.inl s) else some (.inl s)
  else bif decide (x>57) then
   bif x != 45 then bif x != 95 then bif x != 46 then some (.inr r) else some (.inl s) else some (.inl s) else some (.inl s)
  else some (.inl s)
 else bif decide (x>122) then
  bif decide (x<48) then
   bif x != 45 then bif x != 95 then bif x != 46 then some (.inr r) else some (.inl s) else some (.inl s) else some (.inl s)
  else bif decide (x>57) then
   bif x != 45 then bif x != 95 then bif x != 46 then some (.inr r) else some (.inl s) else some (.inl s) else some (.inl s)
  else some (.inl s)
 else some (.inl s):Option (S ⊕ R))=some (bif qb x then .inr r else .inl s) := by
 unfold qb sq
 generalize decide (x<97)=b1; generalize decide (x<48)=b2; generalize decide (x>57)=b3; generalize decide (x>122)=b4
 generalize (x != 45)=b5; generalize (x != 95)=b6; generalize (x != 46)=b7
 cases b1 <;> cases b2 <;> cases b3 <;> cases b4 <;> cases b5 <;> cases b6 <;> cases b7 <;> rfl
theorem bAt_num (a:ByteArray) (i:Nat) (h:i<(numsOf a).length):bAt a i=(numsOf a)[i] := by
 have h':i<a.data.toList.length := by simpa [numsOf] using h
 have:(numsOf a)[i]=((a.data.toList[i].toNat:Int)) := List.getElem_map ..
 rw [this,bAt,getD_lt h']
theorem p102_is (a:ByteArray) (ha:a.size≤1048576) (hf:a.size<fu):p102 fu (a,())=some ((),nameB a) := by
 unfold p102 nameB
 have hl := numsOf_length a
 refine loop_for (numsOf a) (fun i=>(((i:Int),()),())) qb ((),false) ((),decide (1≤a.size∧a.size≤32)) (by omega) (fun i h => ?_) ?_ (by cases (numsOf a).any qb <;> rfl)
 ·simp only [Int.ofNat_lt,Int.natCast_nonneg,h,decide_true,cond_true,and_self,Int.toNat_natCast,getD_lt h,i64_succ h (by omega)]
  exact step_qb _
 ·simp only [Int.ofNat_lt,Nat.lt_irrefl,decide_false,cond_false]
  by_cases h1:1≤a.size
  ·have h2:(a.size:Int)≥1 := by omega
   have h3:decide ((a.size:Int)≤32)=decide (a.size≤32) := decide_eq_decide.2 (by omega)
   simp only [h1,h2,h3,decide_true,cond_true,true_and]; rfl
  ·have h2:¬ (a.size:Int)≥1 := by omega
   simp only [h1,h2,decide_false,cond_false,false_and]; rfl
def okL (l:List Cn):Prop := l.length≤2097152 ∧ ∀ x ∈ l,x.1.size≤1048576∧0≤x.2∧x.2<18446744073709551616
theorem okL_at {l:List Cn} (h:okL l) {i:Nat} (hi:i<l.length):l[i].1.size≤1048576 := (h.2 _ (List.getElem_mem hi)).1
def bad (l:List Cn) (i:Nat):Bool := bif !nameB (l.getD i (⟨#[]⟩,0)).1 then true else bif decide (0<i) then !Op.bytesLess (l.getD (i-1) (⟨#[]⟩,0)).1.toList (l.getD i (⟨#[]⟩,0)).1.toList else false
def okC (l:List Cn):Bool := bif (List.range l.length).any (bad l) then false else decide (l.length≤64)
theorem p39_is (l:List Cn) (hl:okL l) (hf:4194304<fu):p39 fu (l,())=some ((),okC l) := by
 unfold p39 okC
 have hn:l.length≤2097152 := hl.1
 refine loop_for (List.range l.length) (fun i=>(((i:Int),()),())) (bad l) ((),false) ((),decide (l.length≤64)) (by simp only [List.length_range]; omega) (fun i h => ?_) ?_ (by cases (List.range l.length).any (bad l) <;> rfl)
 ·simp only [List.length_range] at h
  have hs := okL_at hl h
  have hg:∀ d,l.getD i d=l[i] := fun d=>getD_lt h
  simp only [List.getElem_range,Int.ofNat_lt,Int.natCast_nonneg,h,decide_true,cond_true,and_self,Int.toNat_natCast,hg,p102_is _ hs (fu := fu) (by omega),bind_val,i64_succ h (by omega),bad]
  cases nameB l[i].1
  ·rfl
  simp only [Bool.not_true,cond_false]
  by_cases h0:0<i
  ·have h1:(i:Int)>0 := by omega
   have h2:i-1<l.length := by omega
   have h3:∀ d,l.getD (i-1) d=l[i-1] := fun d=>getD_lt h2
   simp only [h0,h1,decide_true,cond_true,i64_pred h0 (by omega),Int.natCast_nonneg,Int.ofNat_lt,h2,and_self,Int.toNat_natCast,h3]
   cases Op.bytesLess l[i-1].1.toList l[i].1.toList <;> rfl
  ·have h1:¬ (i:Int)>0 := by omega
   simp only [h0,h1,decide_false,cond_false]
 ·simp only [List.length_range,Int.ofNat_lt,Nat.lt_irrefl,decide_false,cond_false]
  have h3:decide ((l.length:Int)≤64)=decide (l.length≤64) := decide_eq_decide.2 (by omega)
  rw [h3]; rfl
theorem any_no {α:Type} (l:List α):l.any (fun _=>false)=false := by induction l <;> simp_all
theorem self_beq (s:ByteArray):(s==s)=true := by
 cases s with
 | mk d=>show (d==d)=true; exact beq_self_eq_true d
theorem p72_is (l:List Cn) (hl:l.length≤2097152) (hf:4194304<fu):p72 fu (l,l,())=some ((),true) := by
 unfold p72
 simp only [bne_self_eq_false,cond_false]
 refine loop_for l (fun i=>(((i:Int),()),())) (fun _=>false) ((),false) ((),true) (by omega) (fun i h => ?_) ?_ (by rw [any_no]; rfl)
 ·simp only [Int.ofNat_lt,Int.natCast_nonneg,h,decide_true,cond_true,and_self,Int.toNat_natCast,i64_succ h (by omega),beq_self_eq_true,Bool.and_true]
  generalize (l.getD i (dflt T_runtime_errorAddressString)).fst=s
  have:(s==s)=true := self_beq s
  simp only [this,Bool.not_true,cond_false]
 ·simp only [Int.ofNat_lt,Nat.lt_irrefl,decide_false,cond_false]; rfl
theorem loop_val {S R:Type} {f:S→Option (S ⊕ R)} (I:S→Prop) (m:S→Nat) {n:Nat} {s:S} {r:R} (hI:I s) (hm:m s<n) (h:∀ s,I s → ∃ o,f s=some o∧LStep I m (fun q=>q=r) s o):loopO n f s=some r := by
 obtain ⟨q,e,rfl⟩ := loopO_rule I m (fun q=>q=r) h n s hI hm
 exact e
theorem mid_is {lo hi:Nat} (h:lo+hi≤9223372036854775807):IntKind.wrap .i64 (Int.fdiv (IntKind.wrap .u64 (IntKind.wrap .i64 ((lo:Int)+(hi:Int)))) (2 ^ (min (Int.toNat (1:Int)) (IntKind.bits .u64))))=(((lo+hi) / 2:Nat):Int) := by
 have e1:IntKind.wrap .i64 ((lo:Int)+(hi:Int))=((lo+hi:Nat):Int) := by rw [i64_wrap (by omega) (by omega)]; omega
 have e2:IntKind.wrap .u64 ((lo+hi:Nat):Int)=((lo+hi:Nat):Int) := wrap_u64 (by omega) (by omega)
 have e3:(2:Int) ^ (min (Int.toNat (1:Int)) (IntKind.bits .u64))=2 := rfl
 have e4:Int.fdiv ((lo+hi:Nat):Int) 2=(((lo+hi) / 2:Nat):Int) := by
  rw [Int.fdiv_eq_ediv_of_nonneg _ (by omega)]; omega
 rw [e1,e2,e3,e4,i64_wrap (by omega) (by omega)]
def At (l:List Cn) (c:ByteArray) (n:Nat):Prop := n≤l.length∧(∀ k (h:k<l.length),k<n→ky l[k].1<ky c) ∧ ∀ k (h:k<l.length),n≤k → ¬ ky l[k].1<ky c
/-! ### Commit -/
abbrev Rd := D_api_Record
theorem u64_wrap {x:Int} (h1:0≤x) (h2:x<18446744073709551616):IntKind.wrap .u64 x=x := by
 show x % 18446744073709551616=x
 omega
/-! ### Logs -/
def noRec:Rd := (0,⟨#[]⟩,[],0,0)
def wrong (l:List Rd) (i:Nat):Bool := bif ((l.getD i noRec).1 != (i:Int)) then true else bif decide ((l.getD i noRec).2.1.size>32) then true else decide ((l.getD i noRec).2.2.1.length>256)
def logOk (l:List Rd):Bool := bif (List.range l.length).any (wrong l) then false else decide (l.length≤4096)
theorem p99_is (a:Int) (c:ByteArray) (l:List Int) (x y:Int):p99 fu ((a,c,l,x,y,()),())=some ((),bif decide (c.size>32) then 131 else bif decide (l.length>256) then 144 else 0) := by
 unfold p99
 have h1:decide ((c.size:Int)>32)=decide (c.size>32) := decide_eq_decide.2 (by omega)
 have h2:decide ((l.length:Int)>256)=decide (l.length>256) := decide_eq_decide.2 (by omega)
 simp only [h1,h2]
 cases decide (c.size>32) <;> cases decide (l.length>256) <;> rfl
theorem p37_is (l:List Rd) (hl:l.length≤2097152) (hf:4194304<fu):p37 fu (l,())=some ((),logOk l) := by
 unfold p37 logOk
 refine loop_for (List.range l.length) (fun i=>(((i:Int),()),())) (wrong l) ((),false) ((),decide (l.length≤4096)) (by simp only [List.length_range]; omega) (fun i h => ?_) ?_ (by cases (List.range l.length).any (wrong l) <;> rfl)
 ·simp only [List.length_range] at h
  have hg:∀ d,l.getD i d=l[i] := fun d=>getD_lt h
  have hw:IntKind.wrap .u64 (i:Int)=(i:Int) := u64_wrap (by omega) (by omega)
  simp only [List.getElem_range,Int.ofNat_lt,Int.natCast_nonneg,h,decide_true,cond_true,and_self,Int.toNat_natCast,hg,hw,p99_is,bind_val,i64_succ h (by omega),wrong]
  cases (l[i].1 != (i:Int))
  ·simp only [cond_false]
   cases decide (l[i].2.1.size>32) <;> cases decide (l[i].2.2.1.length>256) <;> rfl
  ·rfl
 ·simp only [List.length_range,Int.ofNat_lt,Nat.lt_irrefl,decide_false,cond_false]
  have h3:decide ((l.length:Int)≤4096)=decide (l.length≤4096) := decide_eq_decide.2 (by omega)
  rw [h3]; rfl
def befB (c f:ByteArray):Bool := bif (ByteArray.toList c==ByteArray.toList (⟨#[]⟩:ByteArray)) then true else !(Op.bytesLess (ByteArray.toList c) (ByteArray.toList f)||ByteArray.toList c==ByteArray.toList f)
def chkB (a c:ByteArray):Int := bif !decide ((a.size:Int)≤32) then 131 else bif !decide ((c.size:Int)≤32) then 131 else bif !befB c a then 132 else 0
def hasB (a c f:ByteArray):Bool := bif (chkB a c==0) then (bif decide ((f.size:Int)≤32) then (bif !Op.bytesLess f.toList a.toList then befB c f else false) else false) else false
theorem p98_is (c f:ByteArray):p98 fu ((c,ByteArray.toList c==ByteArray.toList (⟨#[]⟩:ByteArray),()),f,())=some ((),befB c f) := by
 unfold p98 befB
 cases (ByteArray.toList c==ByteArray.toList (⟨#[]⟩:ByteArray)) <;> rfl
theorem p36_is (a c:ByteArray):p36 fu ((a,c,()),())=some ((),chkB a c) := by
 unfold p36 chkB
 simp only [p96,p97,bind_val,p98_is]
 cases decide ((a.size:Int)≤32)
 ·rfl
 cases decide ((c.size:Int)≤32)
 ·rfl
 cases befB c a <;> rfl
theorem p106_is (a c f:ByteArray):p106 fu ((a,c,()),f,())=some ((),hasB a c f) := by
 unfold p106 hasB
 simp only [p36_is,p96,p97,bind_val,p98_is]
 cases (chkB a c==0)
 ·rfl
 cases decide ((f.size:Int)≤32)
 ·rfl
 cases Op.bytesLess f.toList a.toList <;> rfl
theorem p70_same (l:List Rd) (hl:l.length≤2097152) (hf:4194304<fu):p70 fu (l,l,())=some ((),true) := by
 unfold p70
 simp only [bne_self_eq_false,cond_false]
 refine loop_for l (fun i=>(((i:Int),()),())) (fun _=>false) ((),false) ((),true) (by omega) (fun i h => ?_) ?_ (by rw [any_no]; rfl)
 ·simp only [Int.ofNat_lt,Int.natCast_nonneg,h,decide_true,cond_true,and_self,Int.toNat_natCast,i64_succ h (by omega),cond_false,beq_self_eq_true,Bool.not_true]
 ·simp only [Int.ofNat_lt,Nat.lt_irrefl,decide_false,cond_false]; rfl
end
section
variable {fu:Nat}
abbrev Pr := Int×Int×Bool×Int
def seqB (s:Int):Bool := decide (1≤s) && decide (s≤9223372036854775807)
def cmpZ (a b:Int):Int := if a<b then -1 else if a>b then 1 else 0
theorem p101_is (s:Int):p101 fu (s,())=some ((),seqB s) := by
 unfold p101 seqB
 by_cases h:1≤s
 ·simp [h]
 ·simp [h]
theorem p140_is (a:Int):p140 fu (a,())=some ((),false) := by simp [p140]
theorem p105_is (a b:Int):p105 fu (a,b,())=some ((),cmpZ a b) := by
 simp only [p105,p140_is,bind_val,cond_false]
 unfold cmpZ
 by_cases h:a<b
 ·simp [h]
 ·by_cases h2:a>b
  ·simp [h,h2]
  ·simp [h,h2]
theorem p100_is (x y:Pr):p100 fu ((x.1,x.2.1,x.2.2.1,x.2.2.2,()),(y.1,y.2.1,y.2.2.1,y.2.2.2,()),())=some ((),cmpZ x.1 y.1) := by
 simp only [p100,p105_is,bind_val]
def findI (l:List Pr) (id:Int):Nat := l.findIdx fun x=>x.1==id
theorem findI_eq {l:List Pr} {id:Int} {i:Nat} (h:i≤findI l id) (hi:i<l.length) (hx:(l[i].1==id)=true):findI l id=i := by
 rcases Nat.lt_or_ge i (findI l id) with h1 | h1
 ·have := List.not_of_lt_findIdx h1
  rw [hx] at this; simp at this
 ·omega
theorem findI_lt {l:List Pr} {id:Int} {i:Nat} (h:i≤findI l id) (hi:i<l.length) (hx:(l[i].1==id)=false):i+1≤findI l id := by
 rcases Nat.lt_or_ge i (findI l id) with h1 | h1
 ·exact h1
 ·exfalso
  have e:findI l id=i := by omega
  have hw:findI l id<l.length := by omega
  have := List.findIdx_getElem (w := hw)
  simp only [show l.findIdx (fun x=>x.1==id)=i from e] at this
  rw [hx] at this; cases this
theorem findI_le (l:List Pr) (id:Int):findI l id≤l.length := List.findIdx_le_length
theorem p163_is (l:List Pr) (id:Int) (hl:l.length≤9223372036854775806) (hf:l.length<fu) :
  p163 fu (l,((),((id,()),())),())=some (((id,()),()),(((findI l id:Nat):Int),decide (findI l id<l.length),())) := by
 unfold p163
 refine loopO_eq (I := fun s => ∃ i:Nat,s=(((i:Int),()),())∧i≤l.length∧i≤findI l id) (m := fun s=>l.length-s.1.1.toNat)
  (g := fun _=>(((id,()),()),(((findI l id:Nat):Int),decide (findI l id<l.length),()))) ?_ fu _ ⟨0,rfl,Nat.zero_le _,Nat.zero_le _⟩ (by simpa using hf)
 rintro s ⟨i,rfl,h1,h2⟩
 by_cases hi:i<l.length
 ·cases hx:(l[i].1==id) with
  | true =>
   right
   have e := findI_eq h2 hi hx
   simp [hi,p164,inrO,hx,e]
  | false =>
   left
   refine ⟨((((i+1:Nat):Int),()),()),?_,⟨i+1,rfl,hi,findI_lt h2 hi hx⟩,?_,rfl⟩
   ·simp [hi,p164,hx,i64_succ hi (by omega)]
   ·simp; omega
 ·right
  have e:i=l.length := by omega
  have e2:findI l id=l.length := by have := findI_le l id; omega
  subst e
  simp [inrO,e2]
def find (l:List Pr) (id:Int):Option Pr := l.find? fun x=>x.1==id
theorem findP_is (l:List Pr) (id:Int) (d:Pr):find l id=if findI l id<l.length then some (l.getD (findI l id) d) else none := by
 unfold find findI
 induction l with
 | nil=>rfl
 | cons x l ih =>
  rw [List.find?_cons,List.findIdx_cons]
  cases hx:(x.1==id) with
  | true=>simp
  | false =>
   simp only [cond_false,List.length_cons,Nat.add_lt_add_iff_right,List.getD_cons_succ]
   exact ih
def judge (l:List Pr) (id seq:Int):Int×Int :=
 if id=0 then (4,0) else if seqB seq=false then (4,0) else match find l id with
  | none=>(1,0)
  | some x=>if seq>x.2.1 then (1,0) else if seq=x.2.1∧x.2.2.1=true then (2,x.2.2.2) else (3,0)
theorem p157_is (l:List Pr) (id seq:Int) (hl:l.length≤9223372036854775806) (hf:l.length<fu):p157 fu (l,id,seq,())=some ((),((judge l id seq).1,(judge l id seq).2,())) := by
 unfold p157 judge
 by_cases h0:id=0
 ·simp [h0]
 ·simp only [h0,if_false,show (id==(0:Int))=false by simpa using h0,cond_false,p101_is,bind_val]
  cases hs:seqB seq with
  | false=>simp
  | true =>
   simp only [Bool.not_true,cond_false,p163_is l id hl hf,bind_val,Bool.true_eq_false,if_false,findP_is l id (dflt T_api_Producer)]
   by_cases hk:findI l id<l.length
   ·simp only [hk,decide_true,Bool.not_true,cond_false,if_true,Int.toNat_natCast,Int.natCast_nonneg,true_and,Int.ofNat_lt,cond_true,orK_inl]
    by_cases h1:seq>(l.getD (findI l id) (dflt T_api_Producer)).2.1
    ·simp only [h1,decide_true,cond_true,if_true]
    ·by_cases h2:seq=(l.getD (findI l id) (dflt T_api_Producer)).2.1
     ·have h3:(seq==(l.getD (findI l id) (dflt T_api_Producer)).2.1)=true := by rw [← h2]; exact beq_self_eq_true _
      simp only [h1,h3,decide_false,cond_false,cond_true,if_false,orK_inl,eq_true h2,true_and]
      cases (l.getD (findI l id) (dflt T_api_Producer)).2.2.1 <;> simp
     ·have h3:(seq==(l.getD (findI l id) (dflt T_api_Producer)).2.1)=false := by simpa using h2
      simp only [h1,h2,h3,decide_false,cond_false,if_false,orK_inl,false_and]
   ·simp [hk,orK]
def okP (x:Pr):Bool := !(x.1==0) && (seqB x.2.1 && (x.2.2.1||x.2.2.2==0))
def rowOK (l:List Pr) (i:Nat):Bool := (i==0||decide ((l.getD (i-1) (dflt T_api_Producer)).1<(l.getD i (dflt T_api_Producer)).1)) && okP (l.getD i (dflt T_api_Producer))
def tabI (l:List Pr):Bool := (List.range l.length).all (rowOK l) && decide (l.length≤256)
theorem tabI_no {l:List Pr} {i:Nat} (hi:i<l.length) (h:rowOK l i=false):tabI l=false := by
 unfold tabI
 have:(List.range l.length).all (rowOK l)=false := by
  rw [List.all_eq_false]
  exact ⟨i,List.mem_range.2 hi,by simp [h]⟩
 rw [this]; rfl
theorem cmpZ_neg (a b:Int):decide (cmpZ a b<0)=decide (a<b) := by
 unfold cmpZ
 by_cases h:a<b
 ·simp [h]
 ·by_cases h2:a>b
  ·simp [h,h2]
  ·simp [h,h2]
theorem p38_is (l:List Pr) (hl:l.length≤9223372036854775806) (hf:l.length<fu):p38 fu (l,())=some ((),tabI l) := by
 unfold p38
 refine loopO_eq (I := fun s => ∃ i:Nat,s=(((i:Int),()),())∧i≤l.length ∧ ∀ j,j<i→rowOK l j=true) (m := fun s=>l.length-s.1.1.toNat)
  (g := fun _=>((),tabI l)) ?_ fu _ ⟨0,rfl,Nat.zero_le _,fun j hj=>absurd hj (Nat.not_lt_zero _)⟩ (by simpa using hf)
 rintro s ⟨i,rfl,h1,h2⟩
 by_cases hi:i<l.length
 ·-- what stands ahead of it
  have hd:∀ {R:Type} (k:(Bool×Unit)×Unit→Option R),orK (E := (Bool×Unit)×Unit)
    (bif ((i:Int)==(0:Int)) then some (.inl ((true,()),())) else
     bif decide ((0:Int)≤IntKind.wrap .i64 ((i:Int)-(1:Int))∧IntKind.wrap .i64 ((i:Int)-(1:Int))<(List.length l:Int)) then
      bif decide (Int.toNat (IntKind.wrap .i64 ((i:Int)-(1:Int)))<List.length l) then
       Option.bind (p100 fu (((List.getD l (Int.toNat (IntKind.wrap .i64 ((i:Int)-(1:Int)))) (dflt T_api_Producer)).1,((List.getD l (Int.toNat (IntKind.wrap .i64 ((i:Int)-(1:Int)))) (dflt T_api_Producer)).2).1,(((List.getD l (Int.toNat (IntKind.wrap .i64 ((i:Int)-(1:Int)))) (dflt T_api_Producer)).2).2).1,(((List.getD l (Int.toNat (IntKind.wrap .i64 ((i:Int)-(1:Int)))) (dflt T_api_Producer)).2).2).2,()),((List.getD l i (dflt T_api_Producer)).1,((List.getD l i (dflt T_api_Producer)).2).1,(((List.getD l i (dflt T_api_Producer)).2).2).1,(((List.getD l i (dflt T_api_Producer)).2).2).2,()),())) fun ⟨_,r33⟩ =>
       some (.inl ((decide (r33<(0:Int)),()),()))
      else none
     else none) k=k ((i==0||decide ((l.getD (i-1) (dflt T_api_Producer)).1<(l.getD i (dflt T_api_Producer)).1),()),()) := by
   intro R k
   by_cases h0:i=0
   ·subst h0; simp [orK]
   ·have hw := i64_pred (i := i) (by omega) (by omega)
    have hlt:i-1<l.length := by omega
    have h0':((i:Int)==0)=false := by simpa using h0
    have h0'':(i==0)=false := by simpa using h0
    simp only [h0',h0'',cond_false,hw,Int.natCast_nonneg,Int.ofNat_lt,hlt,true_and,decide_true,cond_true,Int.toNat_natCast,p100_is,bind_val,orK_inl,cmpZ_neg,Bool.false_or]
  simp only [Int.ofNat_lt,hi,decide_true,cond_true,Int.natCast_nonneg,true_and,Int.toNat_natCast,hd]
  generalize hb:(i==0||decide ((l.getD (i-1) (dflt T_api_Producer)).1<(l.getD i (dflt T_api_Producer)).1))=b
  generalize hx:l.getD i (dflt T_api_Producer)=x
  obtain ⟨x1,x2,x3,x4⟩ := x
  have hrow:rowOK l i=(b && okP (x1,x2,x3,x4)) := by unfold rowOK; rw [hb,hx]
  have bad:rowOK l i=false→((),tabI l)=((),false) := fun h=>by rw [tabI_no hi h]
  have good:rowOK l i=true→(∃ s':((Int×Unit)×Unit),(some (.inl ((IntKind.wrap .i64 ((i:Int)+(1:Int)),()),())):Option (((Int×Unit)×Unit) ⊕ (Unit×Bool)))=some (.inl s') ∧
    (∃ i:Nat,s' = (((i:Int),()),())∧i≤l.length ∧ ∀ j,j<i→rowOK l j=true)∧l.length-s'.1.1.toNat<l.length-i∧((),tabI l)=((),tabI l)) := fun h =>
   ⟨((((i+1:Nat):Int),()),()),by rw [i64_succ hi (by omega)],⟨i+1,rfl,hi,fun j hj=>by
     rcases Nat.lt_succ_iff_lt_or_eq.1 hj with h' | rfl
     ·exact h2 j h'
     ·exact h⟩,by simp; omega,rfl⟩
  simp only [okP] at hrow
  by_cases hz:x1=0
  ·right; rw [bad (by rw [hrow]; simp [hz])]; simp [hz,inrO]
  ·have hz':(x1==(0:Int))=false := by simpa using hz
   simp only [hz',cond_false,p101_is,bind_val,Bool.not_false,Bool.true_and] at hrow ⊢
   cases hs:seqB x2 with
   | false=>right; rw [bad (by rw [hrow,hs]; simp)]; simp [inrO]
   | true =>
    cases b with
    | false=>right; rw [bad (by rw [hrow]; simp)]; simp [inrO]
    | true =>
     cases x3 with
     | true =>
      have hr:rowOK l i=true := by rw [hrow,hs]; rfl
      left; simpa using good hr
     | false =>
      by_cases h4:x4=0
      ·have hr:rowOK l i=true := by rw [hrow,hs]; simp [h4]
       left; simpa [h4] using good hr
      ·right; rw [bad (by rw [hrow,hs]; simp [h4])]
       have h4':(x4 != (0:Int))=true := by simpa using h4
       simp [h4',inrO]
 ·right
  have e:i=l.length := by omega
  subst e
  have:(List.range l.length).all (rowOK l)=true := List.all_eq_true.2 fun j hj=>h2 j (List.mem_range.1 hj)
  simp [inrO,tabI,this]
  omega
def mrg (both:Pr→Pr→Pr):Nat→List Pr→List Pr→List Pr
 | 0,a,b=>a ++ b
 | _+1,[],b=>b
 | _+1,x :: a,[]=>x :: a
 | n+1,x :: a,y :: b=>if x.1<y.1 then x :: mrg both n a (y :: b) else if x.1>y.1 then y :: mrg both n (x :: a) b else both x y :: mrg both n a b
def merge (both:Pr→Pr→Pr) (a b:List Pr):List Pr := mrg both (a.length+b.length) a b
def SP (l:List Pr):Prop := l.Pairwise fun a b=>a.1<b.1
theorem tab_iff (l:List Pr):tabI l=true ↔ (∀ x ∈ l,okP x=true)∧SP l∧l.length≤256 := by
 unfold tabI
 simp only [Bool.and_eq_true,List.all_eq_true,List.mem_range,decide_eq_true_eq]
 constructor
 ·rintro ⟨h1,h2⟩
  refine ⟨fun x hx => ?_,?_,h2⟩
  ·obtain ⟨i,hi,rfl⟩ := List.getElem_of_mem hx
   have := h1 i hi
   unfold rowOK at this
   rw [getD_lt hi] at this
   simp only [Bool.and_eq_true] at this
   exact this.2
  ·have step:∀ i (hi:i+1<l.length),(l[i]'(by omega)).1<l[i+1].1 := fun i hi=>by
    have := h1 (i+1) hi
    unfold rowOK at this
    simp only [Bool.and_eq_true] at this
    have h3 := this.1
    rw [show i+1-1=i by omega,getD_lt hi,getD_lt (show i<l.length by omega)] at h3
    simpa using h3
   unfold SP
   rw [List.pairwise_iff_getElem]
   have key:∀ d i (hi:i+d+1<l.length),(l[i]'(by omega)).1<(l[i+d+1]'hi).1 := by
    intro d
    induction d with
    | zero=>intro i hi; exact step i hi
    | succ d ih =>
     intro i hi
     have h1 := ih i (by omega)
     have h2 := step (i+d+1) (by omega)
     have e:i+(d+1)+1=i+d+1+1 := by omega
     simp only [e]
     omega
   intro i j hi hj hij
   have := key (j-i-1) i (by omega)
   have e:i+(j-i-1)+1=j := by omega
   simp only [e] at this
   exact this
 ·rintro ⟨h1,h2,h3⟩
  refine ⟨fun i hi => ?_,h3⟩
  unfold rowOK
  rw [getD_lt hi]
  simp only [Bool.and_eq_true]
  refine ⟨?_,h1 _ (List.getElem_mem _)⟩
  cases i with
  | zero=>rfl
  | succ i =>
   have := (List.pairwise_iff_getElem.1 h2) i (i+1) (by omega) hi (by omega)
   rw [show i+1-1=i by omega,getD_lt (show i<l.length by omega)]
   simp [this]
theorem p71_refl (l:List Pr) (hl:l.length≤9223372036854775806) (hf:l.length<fu):p71 fu (l,l,())=some ((),true) := by
 unfold p71
 simp only [bne_self_eq_false,cond_false]
 refine loopO_eq (I := fun s => ∃ i:Nat,s=(((i:Int),()),())∧i≤l.length) (m := fun s=>l.length-s.1.1.toNat) (g := fun _=>((),true)) ?_ fu _ ⟨0,rfl,Nat.zero_le _⟩ (by simpa using hf)
 rintro s ⟨i,rfl,h1⟩
 by_cases hi:i<l.length
 ·left
  refine ⟨((((i+1:Nat):Int),()),()),?_,⟨i+1,rfl,hi⟩,by simp only [Int.toNat_natCast]; omega,rfl⟩
  simp only [Int.ofNat_lt,hi,decide_true,cond_true,Int.natCast_nonneg,true_and,Int.toNat_natCast,beq_self_eq_true,Bool.and_self,Bool.not_true,cond_false,i64_succ hi (by omega)]
 ·right
  obtain rfl:i=l.length := by omega
  simp [inrO]
end
section
variable {fu:Nat}
theorem take_snoc' {α:Type} {l:List α} {i:Nat} (h:i<l.length) (d:α):l.take (i+1)=l.take i ++ [l.getD i d] := by
 rw [List.take_add_one,List.getD_eq_getElem?_getD,List.getElem?_eq_getElem h]; rfl
def AtP (l:List Pr) (c:Int) (n:Nat):Prop := n≤l.length∧(∀ k (h:k<l.length),k<n→l[k].1<c) ∧ ∀ k (h:k<l.length),n≤k → ¬ l[k].1<c
theorem atP_some (c:Int):∀ l:List Pr,SP l → ∃ n,AtP l c n
 | [],_=>⟨0,Nat.le_refl _,fun k h=>absurd h (Nat.not_lt_zero _),fun k h=>absurd h (Nat.not_lt_zero _)⟩
 | x :: l,hr=>by
  obtain ⟨hx,hr'⟩ := List.pairwise_cons.1 hr
  by_cases h:x.1<c
  ·obtain ⟨n,h1,h2,h3⟩ := atP_some c l hr'
   refine ⟨n+1,Nat.succ_le_succ h1,fun k hk hn => ?_,fun k hk hn => ?_⟩
   ·cases k with
    | zero=>exact h
    | succ k=>exact h2 k (Nat.lt_of_succ_lt_succ hk) (by omega)
   ·cases k with
    | zero=>omega
    | succ k=>exact h3 k (Nat.lt_of_succ_lt_succ hk) (by omega)
  ·refine ⟨0,Nat.zero_le _,fun k hk hn=>absurd hn (Nat.not_lt_zero _),fun k hk _ => ?_⟩
   cases k with
   | zero=>exact h
   | succ k =>
    have := hx _ (List.getElem_mem (Nat.lt_of_succ_lt_succ hk))
    simp only [List.getElem_cons_succ]
    omega
theorem p104_is (x:Pr) (c:Int):p104 fu ((x.1,x.2.1,x.2.2.1,x.2.2.2,()),c,())=some ((),cmpZ x.1 c) := by
 unfold p104
 simp only [p105_is,bind_val]
theorem p103_is (l:List Pr) (c:Int) (n:Nat) (hl:l.length≤2097152) (hf:4194304<fu) (ha:AtP l c n) :
  p103 fu (l,c,((),()),())=some ((),(n:Int),(if h:n<l.length then decide (l[n].1=c) else false),()) := by
 obtain ⟨hn,ha1,ha2⟩ := ha
 unfold p103
 refine loop_val (I := fun s => ∃ h i:Nat,s=(((h:Int),(i:Int),()),())∧h≤n∧n≤i∧i≤l.length) (m := fun s=>Int.toNat s.1.2.1-Int.toNat s.1.1) ⟨0,l.length,rfl,Nat.zero_le _,hn,Nat.le_refl _⟩ (by simp only [Int.toNat_natCast]; omega) fun s hs => ?_
 obtain ⟨h,i,rfl,h1,h2,h3⟩ := hs
 by_cases hlt:h<i
 ·have hm:(h+i) / 2<l.length := by omega
  have hg:∀ d,l.getD ((h+i) / 2) d=l[(h+i) / 2] := fun d=>getD_lt hm
  simp only [mid_is (lo := h) (hi := i) (by omega),Int.ofNat_lt,hlt,Int.natCast_nonneg,hm,decide_true,cond_true,and_self,Int.toNat_natCast,hg,p104_is,bind_val,cmpZ_neg]
  by_cases hc:l[(h+i) / 2].1<c
  ·simp only [hc,decide_true,cond_true,i64_succ hm (by omega)]
   refine ⟨_,rfl,⟨_,_,rfl,?_,h2,h3⟩,by simp only [Int.toNat_natCast]; omega⟩
   rcases Nat.lt_or_ge ((h+i) / 2) n with g | g
   ·exact g
   ·exact absurd hc (ha2 _ hm g)
  ·simp only [hc,decide_false,cond_false]
   refine ⟨_,rfl,⟨_,_,rfl,h1,?_,by omega⟩,by simp only [Int.toNat_natCast]; omega⟩
   rcases Nat.lt_or_ge ((h+i) / 2) n with g | g
   ·exact absurd (ha1 _ hm g) hc
   ·exact g
 ·obtain rfl:h=n := by omega
  simp only [Int.ofNat_lt,hlt,decide_false,cond_false]
  by_cases hm:h<l.length
  ·have hg:∀ d,l.getD h d=l[h] := fun d=>getD_lt hm
   simp only [hm,Int.natCast_nonneg,decide_true,cond_true,and_self,Int.toNat_natCast,hg,p104_is,bind_val,dite_true]
   refine ⟨_,rfl,?_⟩
   have:(cmpZ l[h].1 c==0)=decide (l[h].1=c) := by
    have h5 := ha2 _ hm (Nat.le_refl _)
    unfold cmpZ
    by_cases hx:l[h].1>c
    ·have:¬ l[h].1=c := by omega
     simp [h5,hx,this]
    ·have:l[h].1=c := by omega
     simp [this]
   rw [this]
  ·simp only [hm,decide_false,cond_false,dite_false]
   exact ⟨_,rfl,rfl⟩
theorem p103_find (l:List Pr) (c:Int) (hl:l.length≤2097152) (hf:4194304<fu) (hs:SP l) :
  ∃ n:Nat,p103 fu (l,c,((),()),())=some ((),(n:Int),decide (findI l c<l.length),())∧(findI l c<l.length→n=findI l c) := by
 obtain ⟨n,hn⟩ := atP_some c l hs
 have key:(if h:n<l.length then decide (l[n].1=c) else false)=decide (findI l c<l.length)∧(findI l c<l.length→n=findI l c) := by
  by_cases hk:findI l c<l.length
  ·have e1:l[findI l c].1=c := by
    have hw:findI l c<l.length := hk
    have := List.findIdx_getElem (w := hw)
    have h2:l[List.findIdx (fun x=>x.1==c) l].1=c := by simpa using this
    exact h2
   have e2:n=findI l c := by
    rcases Nat.lt_trichotomy n (findI l c) with g | g | g
    ·have hnl:n<l.length := by omega
     have h1 := hn.2.2 n hnl (Nat.le_refl _)
     have h2 := List.pairwise_iff_getElem.1 hs n (findI l c) hnl hk g
     omega
    ·exact g
    ·have := hn.2.1 _ hk g
     omega
   subst e2
   simp [hk,e1]
  ·have hne:∀ h:n<l.length,¬ l[n].1=c := fun h e=>by
    have := findI_le l c
    have h1:findI l c≤n := by
     rcases Nat.lt_or_ge n (findI l c) with g | g
     ·have := List.not_of_lt_findIdx g
      rw [e] at this
      simp at this
     ·exact g
    omega
   refine ⟨?_,fun h=>absurd h hk⟩
   by_cases h:n<l.length
   ·simp [h,hne h,hk]
   ·simp [h,hk]
 refine ⟨n,?_,key.2⟩
 rw [p103_is l c n hl hf hn,key.1]
end
section
variable {fu:Nat}
def noPr:Pr := (0,0,false,0)
def lastS (rs:List Rd) (id:Int):Int := rs.foldl (fun a x=>if x.2.2.2.1=id then x.2.2.2.2 else a) 0
theorem lastS_snoc (rs:List Rd) (x:Rd) (id:Int):lastS (rs ++ [x]) id=if x.2.2.2.1=id then x.2.2.2.2 else lastS rs id := by
 unfold lastS
 rw [List.foldl_append]
 rfl
def recOk1 (lo hi:ByteArray) (ps:List Pr) (before:List Rd) (x:Rd):Bool :=
 decide (findI ps x.2.2.2.1<ps.length) && (hasB lo hi x.2.1 && (decide (lastS before x.2.2.2.1<x.2.2.2.2) && decide (x.2.2.2.2≤(ps.getD (findI ps x.2.2.2.1) noPr).2.1)))
def recOk (lo hi:ByteArray) (ps:List Pr) (l:List Rd) (j:Nat):Bool := recOk1 lo hi ps (l.take j) (l.getD j noRec)
def lastL (ps:List Pr) (l:List Rd) (i:Nat):List Int := ps.map fun y=>lastS (l.take i) y.1
theorem find_id {ps:List Pr} {id:Int} (hk:findI ps id<ps.length):(ps[findI ps id]).1=id := by
 have hw:findI ps id<ps.length := hk
 have := List.findIdx_getElem (w := hw)
 have h2:ps[List.findIdx (fun x=>x.1==id) ps].1=id := by simpa using this
 exact h2
theorem sp_inj {ps:List Pr} (hs:SP ps) {i j:Nat} (hi:i<ps.length) (hj:j<ps.length) (h:ps[i].1=ps[j].1):i=j := by
 rcases Nat.lt_trichotomy i j with g | g | g
 ·have := List.pairwise_iff_getElem.1 hs i j hi hj g; omega
 ·exact g
 ·have := List.pairwise_iff_getElem.1 hs j i hj hi g; omega
theorem last_set {ps:List Pr} (hs:SP ps) {id s:Int} (F:Int→Int) (hk:findI ps id<ps.length) :
  (ps.map fun y=>F y.1).set (findI ps id) s=ps.map fun y=>if id=y.1 then s else F y.1 := by
 apply List.ext_getElem
 ·simp
 ·intro j h1 h2
  have hj:j<ps.length := by simpa using h2
  rw [List.getElem_set,List.getElem_map,List.getElem_map]
  by_cases e:findI ps id=j
  ·subst e
   simp [find_id hk]
  ·have:¬ id=ps[j].1 := fun g=>e (sp_inj hs hk hj ((find_id hk).trans g))
   simp [e,this]
theorem lastL_get {ps:List Pr} {l:List Rd} {i:Nat} {id:Int} (hk:findI ps id<ps.length) (d:Int):(lastL ps l i).getD (findI ps id) d=lastS (l.take i) id := by
 have hlen:findI ps id<(ps.map fun y=>lastS (l.take i) y.1).length := by simpa using hk
 show (ps.map fun y=>lastS (l.take i) y.1).getD _ d=_
 rw [getD_lt hlen,List.getElem_map,find_id hk]
theorem lastL_succ {ps:List Pr} {l:List Rd} {i:Nat} (hs:SP ps) (hi:i<l.length) (hk:findI ps l[i].2.2.2.1<ps.length) :
  (lastL ps l i).set (findI ps l[i].2.2.2.1) l[i].2.2.2.2=lastL ps l (i+1) := by
 unfold lastL
 rw [last_set hs (fun id=>lastS (l.take i) id) hk]
 apply List.map_congr_left
 intro y _
 rw [take_snoc' hi noRec,getD_lt hi,lastS_snoc]
theorem p40_is (lo up:ByteArray) (e z:Int) (l:List Rd) (ps:List Pr) (cs:List Cn) (hl:l.length≤2097152) (hp:ps.length≤2097152) (hs:SP ps) (hf:4194304<fu) :
  p40 fu ((lo,up,e,z,l,ps,cs,()),())=some ((),(List.range l.length).all (recOk lo up ps l)) := by
 unfold p40
 have h1:(0:Int)≤(ps.length:Int)∧(ps.length:Int)≤(ps.length:Int)∧(ps.length:Int)≤9223372036854775807∧(8:Int) * (ps.length:Int)≤140737488355328 := by omega
 simp only [h1,and_self,decide_true,cond_true,Int.toNat_natCast,List.length_replicate]
 have e0:((List.replicate ps.length (0:Int),(0:Int),()),())=(fun i:Nat=>((lastL ps l i,(i:Int),()),())) 0 := by
  simp only [lastL,List.take_zero,lastS,List.foldl_nil,List.map_const']
  rfl
 rw [e0]
 refine loop_for (List.range l.length) (fun i:Nat=>((lastL ps l i,(i:Int),()),())) (fun j => !recOk lo up ps l j) ((),false) ((),true) (by simp; omega) (fun i h => ?_) ?_ ?_
 ·have hi:i<l.length := by simpa using h
  have hll:(lastL ps l i).length=ps.length := by simp [lastL]
  obtain ⟨n,e1,e2⟩ := p103_find (fu := fu) ps l[i].2.2.2.1 hp hf hs
  have hg:∀ d,l.getD i d=l[i] := fun d=>getD_lt hi
  simp only [Int.ofNat_lt,hi,decide_true,cond_true,Int.natCast_nonneg,true_and,Int.toNat_natCast,hg,e1,bind_val,List.getElem_range,p106_is,recOk,recOk1]
  by_cases hk:findI ps l[i].2.2.2.1<ps.length
  ·obtain rfl := e2 hk
   have hgp:∀ d,ps.getD (findI ps l[i].2.2.2.1) d=ps[findI ps l[i].2.2.2.1] := fun d=>getD_lt hk
   simp only [hk,decide_true,Bool.not_true,cond_false,Bool.true_and]
   cases hh:hasB lo up l[i].2.1 with
   | false=>simp only [Bool.not_false,cond_true,Bool.false_and,inrO_val]
   | true =>
    simp only [Bool.not_true,cond_false,Bool.true_and,hll,hk,decide_true,cond_true,lastL_get hk,hgp,List.length_set]
    by_cases h3:lastS (l.take i) l[i].2.2.2.1<l[i].2.2.2.2
    ·have h3':¬ l[i].2.2.2.2≤lastS (l.take i) l[i].2.2.2.1 := by omega
     by_cases h4:l[i].2.2.2.2≤(ps[findI ps l[i].2.2.2.1]).2.1
     ·have h4':¬ l[i].2.2.2.2>(ps[findI ps l[i].2.2.2.1]).2.1 := by omega
      simp only [h3,h3',h4,h4',decide_true,decide_false,cond_false,Bool.and_self,Bool.not_true,lastL_succ hs hi hk,i64_succ hi (by omega)]
     ·have h4':l[i].2.2.2.2>(ps[findI ps l[i].2.2.2.1]).2.1 := by omega
      simp only [h3,h3',h4,h4',decide_true,decide_false,cond_false,cond_true,Bool.and_false,Bool.not_false,inrO_val]
    ·have h3':l[i].2.2.2.2≤lastS (l.take i) l[i].2.2.2.1 := by omega
     simp only [h3,h3',decide_true,decide_false,cond_true,Bool.false_and,Bool.not_false,inrO_val]
  ·simp only [hk,decide_false,Bool.not_false,cond_true,Bool.false_and,inrO_val]
 ·simp only [List.length_range,Int.lt_irrefl,decide_false,cond_false,inrO_val]
 ·rw [← List.not_all_eq_any_not]
  cases (List.range l.length).all (recOk lo up ps l) <;> rfl
def proOk (l:List Rd) (y:Pr):Bool := !y.2.2.1||(decide (y.2.2.2<(l.length:Int)) && ((l.getD y.2.2.2.toNat noRec).2.2.2.1==y.1 && (l.getD y.2.2.2.toNat noRec).2.2.2.2==y.2.1))
theorem p41_is (lo up:ByteArray) (e z:Int) (l:List Rd) (ps:List Pr) (cs:List Cn) (hl:l.length≤2097152) (hp:ps.length≤2097152) (h0:∀ y ∈ ps,0≤y.2.2.2) (hf:4194304<fu) :
  p41 fu ((lo,up,e,z,l,ps,cs,()),())=some ((),ps.all (proOk l)) := by
 unfold p41
 refine loop_for ps (fun i:Nat=>(((i:Int),()),())) (fun y => !proOk l y) ((),false) ((),true) (by omega) (fun i hi => ?_) ?_ ?_
 ·have hg:∀ d,ps.getD i d=ps[i] := fun d=>getD_lt hi
  have hz := h0 _ (List.getElem_mem hi)
  simp only [Int.ofNat_lt,hi,decide_true,cond_true,Int.natCast_nonneg,true_and,Int.toNat_natCast,hg,proOk,u64_wrap (x := (l.length:Int)) (by omega) (by omega)]
  cases hh:ps[i].2.2.1 with
  | false=>simp only [Bool.not_false,cond_true,Bool.true_or,Bool.not_true,cond_false,i64_succ hi (by omega)]
  | true =>
   simp only [Bool.not_true,cond_false,Bool.false_or]
   by_cases h3:ps[i].2.2.2<(l.length:Int)
   ·have h3':¬ ps[i].2.2.2≥(l.length:Int) := by omega
    have h3n:ps[i].2.2.2.toNat<l.length := by omega
    have hgl:∀ d,l.getD ps[i].2.2.2.toNat d=l[ps[i].2.2.2.toNat] := fun d=>getD_lt h3n
    simp only [h3,h3',h3n,hz,and_self,decide_true,decide_false,cond_true,cond_false,hgl,Bool.true_and]
    cases h4:(l[ps[i].2.2.2.toNat].2.2.2.1==ps[i].1) with
    | false=>simp only [bne,h4,Bool.not_false,cond_true,Bool.false_and,inrO_val]
    | true =>
     simp only [bne,h4,Bool.not_true,cond_false,Bool.true_and]
     cases h5:(l[ps[i].2.2.2.toNat].2.2.2.2==ps[i].2.1) with
     | false=>simp only [Bool.not_false,cond_true,inrO_val]
     | true=>simp only [Bool.not_true,cond_false,i64_succ hi (by omega)]
   ·have h3':ps[i].2.2.2≥(l.length:Int) := by omega
    simp only [h3,h3',decide_true,decide_false,cond_true,Bool.false_and,Bool.not_false,inrO_val]
 ·simp only [Int.lt_irrefl,decide_false,cond_false,inrO_val]
 ·rw [← List.not_all_eq_any_not]
  cases ps.all (proOk l) <;> rfl
def conOk (l:List Rd) (y:Cn):Bool := decide (y.2≤(l.length:Int))
theorem p42_is (lo up:ByteArray) (e z:Int) (l:List Rd) (ps:List Pr) (cs:List Cn) (hl:l.length≤2097152) (hp:cs.length≤2097152) (hf:4194304<fu) :
  p42 fu ((lo,up,e,z,l,ps,cs,()),())=some ((),cs.all (conOk l)) := by
 unfold p42
 refine loop_for cs (fun i:Nat=>(((i:Int),()),())) (fun y => !conOk l y) ((),false) ((),true) (by omega) (fun i hi => ?_) ?_ ?_
 ·have hg:∀ d,cs.getD i d=cs[i] := fun d=>getD_lt hi
  simp only [Int.ofNat_lt,hi,decide_true,cond_true,Int.natCast_nonneg,true_and,Int.toNat_natCast,hg,conOk,u64_wrap (x := (l.length:Int)) (by omega) (by omega)]
  by_cases h3:cs[i].2≤(l.length:Int)
  ·have h3':¬ cs[i].2>(l.length:Int) := by omega
   simp only [h3,h3',decide_true,decide_false,cond_false,Bool.not_true,i64_succ hi (by omega)]
  ·have h3':cs[i].2>(l.length:Int) := by omega
   simp only [h3,h3',decide_true,decide_false,cond_true,Bool.not_false,inrO_val]
 ·simp only [Int.lt_irrefl,decide_false,cond_false,inrO_val]
 ·rw [← List.not_all_eq_any_not]
  cases cs.all (conOk l) <;> rfl
abbrev St16 := ByteArray×ByteArray×Int×Int×List Rd×List Pr×List Cn×Unit
def chkS:St16→Bool
 | (lo,hi,e,_,l,ps,cs,_)=>(chkB lo hi==0) && ((e != 0) && (logOk l && (tabI ps && (okC cs && ((List.range l.length).all (recOk lo hi ps l) && (ps.all (proOk l) && cs.all (conOk l)))))))
def bndS:St16→Prop
 | (_,_,_,_,l,ps,cs,_)=>l.length≤2097152∧ps.length≤2097152∧okL cs ∧ ∀ y ∈ ps,0≤y.2.2.2
theorem p10_is (p:St16) (hb:bndS p) (hf:4194304<fu):p10 fu (p,())=some ((),bif chkS p then 0 else 165) := by
 obtain ⟨lo,hi,e,z,l,ps,cs,⟨⟩⟩ := p
 obtain ⟨h1,h2,h3,h4⟩ := hb
 unfold p10
 simp only [p36_is,bind_val,p37_is l (by omega) hf,p38_is ps (by omega) (show ps.length<fu by omega),p39_is cs h3 hf,p41_is lo hi e z l ps cs h1 h2 h4 hf,p42_is lo hi e z l ps cs h1 h3.1 hf,chkS]
 cases (chkB lo hi==0)
 ·rfl
 cases (e != 0)
 ·rfl
 cases logOk l
 ·rfl
 cases ht:tabI ps
 ·rfl
 simp only [p40_is lo hi e z l ps cs h1 h2 ((tab_iff ps).1 ht).2.1 hf,bind_val]
 cases okC cs
 ·rfl
 cases (List.range l.length).all (recOk lo hi ps l)
 ·rfl
 cases ps.all (proOk l)
 ·rfl
 cases cs.all (conOk l) <;> rfl
end
section
variable {fu:Nat}
abbrev Cm16 := Int×Int×Int×Int×ByteArray×List Int×Int×Int×ByteArray×Int×Unit
def wfS:Cm16→Bool
 | (k,_,pr,sq,key,v,_,most,name,plan,_) =>
  if k=1 then ((judge [] pr sq).1 != 4) && (decide (key.size≤32) && decide (v.length≤256))
  else if k=2 then decide (1≤most) && decide (most≤64)
  else if k=3 then ((judge [] pr sq).1 != 4) && nameB name
  else if k=4 then nameB name
  else if k=5 then plan != 0
  else if k=6 then plan != 0
  else false
theorem p134_is (k ep pr sq:Int) (key:ByteArray) (v:List Int) (off most:Int) (name:ByteArray) (plan:Int) (hf:4194304<fu) :
  p134 fu ((k,ep,pr,sq,key,v,off,most,name,plan,()),())=some ((),(judge [] pr sq).1 != 4) := by
 unfold p134
 simp only [p157_is [] pr sq (by simp) (show ([]:List Pr).length<fu by simp only [List.length_nil]; omega),bind_val]
theorem p88_is (k ep pr sq:Int) (key:ByteArray) (v:List Int) (off most:Int) (name:ByteArray) (plan:Int) (hn:name.size≤1048576) (hf:4194304<fu) :
  p88 fu ((k,ep,pr,sq,key,v,off,most,name,plan,()),())=some ((),wfS (k,ep,pr,sq,key,v,off,most,name,plan,())) := by
 unfold p88 wfS
 simp only [p134_is _ _ _ _ _ _ _ _ _ _ hf,p102_is name hn (show name.size<fu by omega),bind_val]
 by_cases h1:k=1
 ·subst h1
  have e1:decide ((ByteArray.size key:Int)≤32)=decide (key.size≤32) := by rw [decide_eq_decide]; omega
  have e2:decide ((List.length v:Int)≤256)=decide (v.length≤256) := by rw [decide_eq_decide]; omega
  simp only [beq_self_eq_true,cond_true,if_true,e1,e2]
  cases ((judge [] pr sq).1 != 4)
  ·rfl
  cases decide (key.size≤32) <;> rfl
 have b1:(k==1)=false := by simpa using h1
 simp only [b1,h1,cond_false,if_false]
 by_cases h2:k=2
 ·subst h2
  simp only [beq_self_eq_true,cond_true,if_true]
  by_cases g:most≥1
  ·have g':1≤most := g
   simp only [g,decide_true,cond_true,Bool.true_and]
   rfl
  ·have g':¬ 1≤most := g
   simp only [g,decide_false,cond_false,Bool.false_and]
   rfl
 have b2:(k==2)=false := by simpa using h2
 simp only [b2,h2,cond_false,if_false]
 by_cases h3:k=3
 ·subst h3
  simp only [beq_self_eq_true,cond_true,if_true]
  cases ((judge [] pr sq).1 != 4) <;> rfl
 have b3:(k==3)=false := by simpa using h3
 simp only [b3,h3,cond_false,if_false]
 by_cases h4:k=4
 ·subst h4
  simp only [beq_self_eq_true,cond_true,if_true]
  rfl
 have b4:(k==4)=false := by simpa using h4
 simp only [b4,h4,cond_false,if_false]
 by_cases h5:k=5
 ·subst h5
  simp only [beq_self_eq_true,cond_true,if_true]
  rfl
 have b5:(k==5)=false := by simpa using h5
 simp only [b5,h5,cond_false,if_false]
 by_cases h6:k=6
 ·subst h6
  simp only [beq_self_eq_true,cond_true,if_true]
  rfl
 have b6:(k==6)=false := by simpa using h6
 simp only [b6,h6,cond_false,if_false]
 rfl
theorem wf_kind {c:Cm16} (h:wfS c=true):c.1=1 ∨ c.1=2 ∨ c.1=3 ∨ c.1=4 ∨ c.1=5 ∨ c.1=6 := by
 obtain ⟨k,ep,pr,sq,key,v,off,most,name,plan,⟨⟩⟩ := c
 unfold wfS at h
 by_cases h1:k=1
 ·exact .inl h1
 by_cases h2:k=2
 ·exact .inr (.inl h2)
 by_cases h3:k=3
 ·exact .inr (.inr (.inl h3))
 by_cases h4:k=4
 ·exact .inr (.inr (.inr (.inl h4)))
 by_cases h5:k=5
 ·exact .inr (.inr (.inr (.inr (.inl h5))))
 by_cases h6:k=6
 ·exact .inr (.inr (.inr (.inr (.inr h6))))
 simp [h1,h2,h3,h4,h5,h6] at h
end
section
variable {fu:Nat}
theorem wuk {x:Int} (k:IntKind) (hk:k.signed=false) (h1:0≤x) (h2:x<2 ^ k.bits):IntKind.wrap k x=x := by
 unfold IntKind.wrap
 simp only [hk,Bool.false_and,Bool.false_eq_true,if_false]
 exact Int.emod_eq_of_lt h1 h2
theorem wu64 {x:Int} (h1:0≤x) (h2:x<18446744073709551616):IntKind.wrap .u64 x=x := wuk .u64 rfl h1 h2
theorem wu8 {x:Int} (h1:0≤x) (h2:x<256):IntKind.wrap .u8 x=x := wuk .u8 rfl h1 h2
theorem wrap_u8m (n:Nat):IntKind.wrap .u8 (n:Int)=((n % 256:Nat):Int) := by
 show (n:Int) % 256=_
 omega
theorem wi64 {x:Int} (h1:-9223372036854775808≤x) (h2:x<9223372036854775808):IntKind.wrap .i64 x=x := by
 have e1:(2:Int) ^ IntKind.bits .i64=18446744073709551616 := rfl
 have e2:(2:Int) ^ (IntKind.bits .i64-1)=9223372036854775808 := rfl
 unfold IntKind.wrap
 simp only [e1,e2]
 split
 ·rename_i h
  simp at h
  omega
 ·rename_i h
  simp [IntKind.signed] at h
  omega
theorem fdiv7 (n:Nat):Int.fdiv (n:Int) (2 ^ (min (Int.toNat (7:Int)) (IntKind.bits .u64)))=((n / 128:Nat):Int) := by
 show Int.fdiv (n:Int) 128=_
 rw [Int.fdiv_eq_ediv_of_nonneg _ (by decide)]
 rfl
theorem or128:∀ x:BitVec 8,(x ||| 128#8).toNat=x.toNat % 128+128 := by decide +kernel
theorem or8 (n m:Nat):((BitVec.ofInt (IntKind.bits .u8) (n:Int) ||| BitVec.ofInt (IntKind.bits .u8) (m:Int)).toNat)=(BitVec.ofNat 8 n ||| BitVec.ofNat 8 m).toNat := by
 show (BitVec.ofInt 8 (n:Int) ||| BitVec.ofInt 8 (m:Int)).toNat=_
 rw [BitVec.ofInt_natCast,BitVec.ofInt_natCast]
theorem and64 (n m:Nat):((BitVec.ofInt (IntKind.bits .u64) (n:Int) &&& BitVec.ofInt (IntKind.bits .u64) (m:Int)).toNat)=(BitVec.ofNat 64 n &&& BitVec.ofNat 64 m).toNat := by
 show (BitVec.ofInt 64 (n:Int) &&& BitVec.ofInt 64 (m:Int)).toNat=_
 rw [BitVec.ofInt_natCast,BitVec.ofInt_natCast]
theorem xor64 (n m:Nat):((BitVec.ofInt (IntKind.bits .u64) (n:Int) ^^^ BitVec.ofInt (IntKind.bits .u64) (m:Int)).toNat)=(BitVec.ofNat 64 n ^^^ BitVec.ofNat 64 m).toNat := by
 show (BitVec.ofInt 64 (n:Int) ^^^ BitVec.ofInt 64 (m:Int)).toNat=_
 rw [BitVec.ofInt_natCast,BitVec.ofInt_natCast]
theorem lowP (n:Nat):IntKind.wrap .u8 ((BitVec.ofInt (IntKind.bits .u8) (IntKind.wrap .u8 (n:Int)) ||| BitVec.ofInt (IntKind.bits .u8) (128:Int)).toNat:Int)=((n % 128+128:Nat):Int) := by
 have e1:(BitVec.ofInt (IntKind.bits .u8) (IntKind.wrap .u8 (n:Int)) ||| BitVec.ofInt (IntKind.bits .u8) (128:Int)).toNat=n % 128+128 := by
  rw [wrap_u8m]
  have := or8 (n % 256) 128
  have e3 := or128 (BitVec.ofNat 8 (n % 256))
  rw [BitVec.toNat_ofNat] at e3
  refine this.trans (e3.trans ?_)
  omega
 rw [e1]
 exact wu8 (by omega) (by omega)
def zz (c:Int):Int := if c<0 then -2 * c-1 else 2 * c
def isI (c:Int):Prop := -9223372036854775808≤c∧c≤9223372036854775807
def isU (c:Int):Prop := 0≤c∧c≤18446744073709551615
theorem zz_u {c:Int} (h:isI c):isU (zz c) := by
 unfold isI at h
 unfold zz isU
 split <;> omega
theorem xorAll (n:Nat) (h:n<18446744073709551616):((BitVec.ofNat 64 n ^^^ BitVec.ofNat 64 18446744073709551615)).toNat=18446744073709551615-n := by
 have e:BitVec.ofNat 64 18446744073709551615=BitVec.allOnes 64 := by decide
 rw [e,BitVec.xor_allOnes,BitVec.toNat_not,BitVec.toNat_ofNat,Nat.mod_eq_of_lt h]
theorem zzP {c:Int} (h:isI c):IntKind.wrap .u64 ((BitVec.ofInt (IntKind.bits .u64) (IntKind.wrap .u64 ((IntKind.wrap .u64 c) * 2 ^ (min (Int.toNat (1:Int)) (IntKind.bits .u64)))) ^^^ BitVec.ofInt (IntKind.bits .u64) (IntKind.wrap .u64 (Int.fdiv c (2 ^ (min (Int.toNat (63:Int)) (IntKind.bits .i64)))))).toNat:Int)=zz c := by
 obtain ⟨h1,h2⟩ := h
 have e2:(2:Int) ^ (min (Int.toNat (1:Int)) (IntKind.bits .u64))=2 := rfl
 have e63:(2:Int) ^ (min (Int.toNat (63:Int)) (IntKind.bits .i64))=9223372036854775808 := rfl
 have em:∀ x:Int,IntKind.wrap .u64 x=x % 18446744073709551616 := fun x=>rfl
 rw [e2,e63,Int.fdiv_eq_ediv_of_nonneg _ (by decide)]
 unfold zz
 by_cases hc:c<0
 ·rw [if_pos hc]
  have d1:IntKind.wrap .u64 (c / 9223372036854775808)=((18446744073709551615:Nat):Int) := by rw [em]; omega
  have d2:IntKind.wrap .u64 (IntKind.wrap .u64 c * 2)=((18446744073709551616+2 * c).toNat:Int) := by rw [em,em]; omega
  rw [d1,d2,xor64,xorAll _ (by omega),em]
  omega
 ·rw [if_neg hc]
  have d1:IntKind.wrap .u64 (c / 9223372036854775808)=((0:Nat):Int) := by rw [em]; omega
  have d2:IntKind.wrap .u64 (IntKind.wrap .u64 c * 2)=((2 * c).toNat:Int) := by rw [em,em]; omega
  rw [d1,d2,xor64,show BitVec.ofNat 64 0=0#64 from rfl,BitVec.xor_zero,BitVec.toNat_ofNat,Nat.mod_eq_of_lt (by omega),em]
  omega
def ub (v:Nat):List Int := if v<128 then [(v:Int)] else ((v % 128+128:Nat):Int) :: ub (v / 128)
termination_by v
decreasing_by omega
theorem ub_small {v:Nat} (h:v<128):ub v=[(v:Int)] := by rw [ub,if_pos h]
theorem ub_big {v:Nat} (h:¬ v<128):ub v=((v % 128+128:Nat):Int) :: ub (v / 128) := by rw [ub,if_neg h]
theorem ub_len:∀ (k v:Nat),v<128 ^ (k+1)→(ub v).length≤k+1
 | 0,v,h=>by rw [ub_small (by simpa using h)]; simp
 | k+1,v,h=>by
  by_cases hv:v<128
  ·rw [ub_small hv]; simp
  ·rw [ub_big hv]
   have h2:v / 128<128 ^ (k+1) := by
    rw [Nat.div_lt_iff_lt_mul (by decide)]
    rw [Nat.pow_succ] at h
    exact h
   have := ub_len k (v / 128) h2
   simp only [List.length_cons]
   omega
def uB (v:Int):List Int := ub v.toNat
theorem uB_len {v:Int} (h:isU v):(uB v).length≤10 := by
 obtain ⟨h1,h2⟩ := h
 exact ub_len 9 _ (by have : (128 : Nat) ^ 10 = 1180591620717411303424 := by decide
                      omega)
def iB (c:Int):List Int := uB (zz c)
def tB (l:List Int):List Int := uB (l.length:Int) ++ l
theorem fits_top {n:Nat} (h:n≤140737488355328):n≤maxLen := Nat.le_trans h (by decide)
theorem p74_is {a:List Int} {v:Int} (hv:isU v) (ha:a.length+(uB v).length≤140737488355328) (hfu:10<fu):p74_1 fu ((a,()),v,())=some (((a ++ uB v,()),(),()),()) := by
 unfold p74_1
 simp only [eqL_t,cond_true]
 refine loopO_eq (fun (s:(Int×Unit)×((List Int×Unit)×Unit))=>isU s.1.1∧s.2.1.1.length+(uB s.1.1).length≤140737488355328) (fun s=>(uB s.1.1).length) (fun s=>(((s.2.1.1 ++ uB s.1.1,()),(),()),())) ?_ fu _ ⟨hv,ha⟩ (Nat.lt_of_le_of_lt (uB_len hv) hfu)
 rintro ⟨⟨f,⟨⟩⟩,⟨⟨h,⟨⟩⟩,⟨⟩⟩⟩ ⟨⟨h0,h1⟩,h2⟩
 dsimp only at h0 h1 h2
 obtain ⟨n,rfl⟩ := Int.eq_ofNat_of_zero_le h0
 have e:uB ((n:Nat):Int)=ub n := rfl
 simp only [e] at h2 ⊢
 by_cases hn:n<128
 ·right
  rw [ub_small hn] at h2 ⊢
  simp only [List.length_singleton] at h2
  have hw:IntKind.wrap .u8 (n:Int)=(n:Int) := wu8 (by omega) (by omega)
  have hl:h.length+1≤maxLen∧(h.length+1) * 1≤140737488355328 := ⟨fits_top h2,by omega⟩
  have hge:¬ ((n:Int)≥128) := by omega
  simp only [hge,hw,hl,List.length_singleton,decide_false,decide_true,cond_false,cond_true,and_self,inrO,Option.map_some]
 ·left
  rw [ub_big hn] at h2 ⊢
  simp only [List.length_cons] at h2
  have hl:h.length+1≤maxLen∧(h.length+1) * 1≤140737488355328 := ⟨fits_top (by omega),by omega⟩
  refine ⟨((((n / 128:Nat):Int),()),((h ++ [((n % 128+128:Nat):Int)],()),())),?_,⟨⟨by dsimp only; omega,by dsimp only; omega⟩,?_⟩,?_,?_⟩
  ·have hge:(n:Int)≥128 := by omega
   simp only [lowP,fdiv7,List.length_singleton,hl,hge,decide_true,cond_true,and_self]
  ·show (h ++ [((n % 128+128:Nat):Int)]).length+(ub (n / 128)).length≤_
   simp only [List.length_append,List.length_singleton]
   omega
  ·show (ub (n / 128)).length<_
   simp
  ·show ((((h ++ [((n % 128+128:Nat):Int)]) ++ ub (n / 128),()),(),()),())=_
   simp
theorem isU_len {n:Nat} (h:n≤140737488355328):isU (n:Int) := ⟨by omega,by omega⟩
theorem wu_len {n:Nat} (h:n≤140737488355328):IntKind.wrap .u64 (n:Int)=(n:Int) := wu64 (by omega) (by omega)
theorem fits2 {n:Nat} (h:n≤140737488355328):(n≤maxLen∧n * 1≤140737488355328)=True := eq_true ⟨fits_top h,by omega⟩
theorem p73_is {a:List Int} {c:Int} (hc:isI c) (ha:a.length+(iB c).length≤140737488355328) (hfu:10<fu):p73_1 fu ((a,()),c,())=some (((a ++ iB c,()),(),()),()) := by
 unfold p73_1
 simp only [eqL_t,cond_true,zzP hc]
 rw [p74_is (zz_u hc) ha hfu]
 simp only [Option.bind_some]
 rfl
theorem p76_is {a l:List Int} (ha:a.length+(tB l).length≤140737488355328) (hfu:10<fu):p76 fu ((a,()),l,())=some (((a ++ tB l,()),(),()),()) := by
 unfold tB at ha
 rw [List.length_append] at ha
 unfold p76
 simp only [eqL_t,cond_true]
 rw [wu_len (by omega),p74_is (isU_len (by omega)) (by omega) hfu]
 have h2:(a ++ uB (l.length:Int)).length+l.length≤140737488355328 := by rw [List.length_append]; omega
 simp only [Option.bind_some,decide_true,cond_true,fits2 h2,tB,List.append_assoc]
theorem and8 (n m:Nat):((BitVec.ofInt (IntKind.bits .u8) (n:Int) &&& BitVec.ofInt (IntKind.bits .u8) (m:Int)).toNat)=(BitVec.ofNat 8 n &&& BitVec.ofNat 8 m).toNat := by
 show (BitVec.ofInt 8 (n:Int) &&& BitVec.ofInt 8 (m:Int)).toNat=_
 rw [BitVec.ofInt_natCast,BitVec.ofInt_natCast]
theorem or64 (n m:Nat):((BitVec.ofInt (IntKind.bits .u64) (n:Int) ||| BitVec.ofInt (IntKind.bits .u64) (m:Int)).toNat)=(BitVec.ofNat 64 n ||| BitVec.ofNat 64 m).toNat := by
 show (BitVec.ofInt 64 (n:Int) ||| BitVec.ofInt 64 (m:Int)).toNat=_
 rw [BitVec.ofInt_natCast,BitVec.ofInt_natCast]
theorem low7 (x:Nat) (h:x<256):IntKind.wrap .u8 ((BitVec.ofInt (IntKind.bits .u8) (x:Int) &&& BitVec.ofInt (IntKind.bits .u8) (127:Int)).toNat:Int)=((x % 128:Nat):Int) := by
 have h2:(BitVec.ofInt (IntKind.bits .u8) (x:Int) &&& BitVec.ofInt (IntKind.bits .u8) (127:Int)).toNat=x % 128 := by
  refine (and8 x 127).trans ?_
  rw [BitVec.toNat_and,BitVec.toNat_ofNat,BitVec.toNat_ofNat,Nat.mod_eq_of_lt h]
  exact Nat.and_two_pow_sub_one_eq_mod x 7
 rw [h2,wu8 (by omega) (by omega)]
theorem pow7 (i:Nat) (h:i≤9):(2:Int) ^ (min (Int.toNat (IntKind.wrap .i64 ((7:Int) * (i:Int)))) (IntKind.bits .u64))=((128 ^ i:Nat):Int) := by
 have e:IntKind.wrap .i64 ((7:Int) * (i:Int))=((7 * i:Nat):Int) := by rw [wi64 (by omega) (by omega)]; omega
 rw [e,Int.toNat_natCast,Nat.min_eq_left (by show 7 * i≤64; omega),show (128:Nat)=2 ^ 7 from rfl,← Nat.pow_mul]
 simp
theorem accum (c y i:Nat) (hi:i≤9) (hc:c<128 ^ i) (hy:c+y * 128 ^ i<18446744073709551616) :
  IntKind.wrap .u64 ((BitVec.ofInt (IntKind.bits .u64) (c:Int) ||| BitVec.ofInt (IntKind.bits .u64) (IntKind.wrap .u64 ((IntKind.wrap .u64 (y:Int)) * 2 ^ (min (Int.toNat (IntKind.wrap .i64 ((7:Int) * (i:Int)))) (IntKind.bits .u64))))).toNat:Int)=((c+y * 128 ^ i:Nat):Int) := by
 have hpos:0<128 ^ i := Nat.pow_pos (by decide)
 have hy1:y≤y * 128 ^ i := Nat.le_mul_of_pos_right y hpos
 rw [pow7 i hi,wu64 (x := (y:Int)) (by omega) (by omega),← Int.natCast_mul,wu64 (x := ((y * 128 ^ i:Nat):Int)) (by omega) (by omega)]
 have e1:(BitVec.ofInt (IntKind.bits .u64) (c:Int) ||| BitVec.ofInt (IntKind.bits .u64) ((y * 128 ^ i:Nat):Int)).toNat=c+y * 128 ^ i := by
  rw [or64,BitVec.toNat_or,BitVec.toNat_ofNat,BitVec.toNat_ofNat,Nat.mod_eq_of_lt (by omega),Nat.mod_eq_of_lt (by omega)]
  have e:(128:Nat) ^ i=2 ^ (7 * i) := by rw [show (128:Nat)=2 ^ 7 from rfl,← Nat.pow_mul]
  rw [e] at hc ⊢
  have := Nat.two_pow_add_eq_or_of_lt hc y
  rw [Nat.or_comm,Nat.mul_comm y,← this,Nat.add_comm]
 rw [e1,wu64 (by omega) (by omega)]
def numS:Nat→Nat→List Int→Int×Int×Int
 | _,_,[]=>(0,0,11)
 | i,acc,x :: r=>if i=9∧x ≠ 1 then (0,0,12) else if x=0∧0<i then (0,0,12) else if x<128 then (((acc+x.toNat % 128 * 128 ^ i:Nat):Int),((i+1:Nat):Int),0) else numS (i+1) (acc+x.toNat % 128 * 128 ^ i) r
theorem p130_any {a:List Int} (hb:∀ x ∈ a,0≤x∧x≤255) (_:a.length≤140737488355328) (hfu:10<fu):p130 fu (a,())=some ((),((numS 0 0 a).1,(numS 0 0 a).2.1,(numS 0 0 a).2.2,())) := by
 unfold p130
 dsimp only
 refine loopO_eq (fun (s:(Int×(Int×Unit))×Unit) => ∃ (i acc:Nat) (pre r:List Int),i≤9∧s=(((acc:Int),(i:Int),()),())∧a=pre ++ r∧pre.length=i∧acc<128 ^ i∧numS i acc r=numS 0 0 a) (fun s=>10-s.1.2.1.toNat) (fun _=>((),((numS 0 0 a).1,(numS 0 0 a).2.1,(numS 0 0 a).2.2,()))) ?_ fu _ ⟨0,0,[],a,by omega,rfl,rfl,rfl,by simp,rfl⟩ (by dsimp only; omega)
 rintro _ ⟨i,acc,pre,r,hi,rfl,ha,hp,hacc,hnum⟩
 have e1:decide ((i:Int)<10)=true := by simp; omega
 have wi:IntKind.wrap .i64 ((i:Int)+1)=((i+1:Nat):Int) := by rw [wi64 (by omega) (by omega)]; omega
 cases r with
 | nil =>
  right
  have hl:a.length=i := by rw [ha,List.append_nil,hp]
  have e2:((i:Int)==(a.length:Int))=true := by rw [hl]; exact beq_self_eq_true _
  rw [← hnum]
  simp only [e1,e2,cond_true,numS,inrO,Option.map_some]
 | cons x r =>
  have hlen:a.length=i+(r.length+1) := by rw [ha,List.length_append,hp,List.length_cons]
  have hx := hb x (by rw [ha]; simp)
  obtain ⟨n,rfl⟩ := Int.eq_ofNat_of_zero_le hx.1
  have hxg:List.getD a i (dflt (.int .u8))=(n:Int) := by
   rw [ha,List.getD_eq_getElem?_getD,List.getElem?_append_right (by omega),hp,Nat.sub_self]
   rfl
  have e2:((i:Int)==(a.length:Int))=false := by rw [hlen]; simp; omega
  have e3:decide ((0:Int)≤(i:Int)∧(i:Int)<(a.length:Int))=true := by rw [hlen]; simp; omega
  have e4:decide (i<a.length)=true := by rw [hlen]; simp
  have e7:decide ((0:Int)≤IntKind.wrap .i64 ((7:Int) * (i:Int)))=true := by rw [wi64 (by omega) (by omega)]; simp; omega
  by_cases h9:i=9∧(n:Int) ≠ 1
  ·right
   obtain ⟨h9,hn1⟩ := h9
   have hd:numS i acc ((n:Int) :: r)=(0,0,12) := by rw [numS,if_pos ⟨h9,hn1⟩]
   rw [← hnum,hd]
   have g1:((i:Int)==9)=true := by rw [h9]; rfl
   have g2:((n:Int) != 1)=true := bne_iff_ne.2 hn1
   simp only [e1,e2,e3,e4,Int.toNat_natCast,hxg,cond_true,cond_false,g1,g2,inrO,Option.map_some,orK_inr]
  ·by_cases h0:(n:Int)=0∧0<i
   ·right
    obtain ⟨hn0,hi0⟩ := h0
    have hi9:i ≠ 9 := fun e=>h9 ⟨e,by omega⟩
    have hd:numS i acc ((n:Int) :: r)=(0,0,12) := by rw [numS,if_neg h9,if_pos ⟨hn0,hi0⟩]
    rw [← hnum,hd]
    have g1:((i:Int)==9)=false := by simp; omega
    have g2:((n:Int)==0)=true := beq_iff_eq.2 hn0
    have g3:decide ((i:Int)>0)=true := by simp; omega
    simp only [e1,e2,e3,e4,Int.toNat_natCast,hxg,cond_true,cond_false,g1,g2,g3,inrO,Option.map_some,orK_inr]
   ·have hpow:i=9→(128:Nat) ^ i=9223372036854775808 := fun e=>by rw [e]
    have hpow8:i≤8→(128:Nat) ^ i≤72057594037927936 := fun e=>by
     have := Nat.pow_le_pow_right (n := 128) (by decide) e
     have e8:(128:Nat) ^ 8=72057594037927936 := by decide
     omega
    have hmul:n % 128 * 128 ^ i≤127 * 128 ^ i := Nat.mul_le_mul_right _ (by omega)
    have hbound:acc+n % 128 * 128 ^ i<18446744073709551616 := by
     by_cases e9:i=9
     ·have hn1:(n:Int)=1 := Decidable.byContradiction fun k=>h9 ⟨e9,k⟩
      have hn1':n=1 := by omega
      have := hpow e9
      rw [hn1'] at hmul ⊢
      rw [this] at hacc ⊢
      omega
     ·have := hpow8 (by omega)
      generalize 128 ^ i=q at *
      omega
    have hac := accum acc (n % 128) i hi hacc hbound
    by_cases h128:(n:Int)<128
    ·right
     have hd:numS i acc ((n:Int) :: r)=(((acc+n % 128 * 128 ^ i:Nat):Int),((i+1:Nat):Int),0) := by rw [numS,if_neg h9,if_neg h0,if_pos h128]; rfl
     rw [← hnum,hd]
     have e8:decide ((n:Int)<128)=true := decide_eq_true h128
     simp only [e1,e2,e3,e4,Int.toNat_natCast,hxg,cond_true,cond_false,e7,e8,low7 n (by omega),hac,wi]
     by_cases e9:i=9
     ·have hn1:(n:Int)=1 := Decidable.byContradiction fun k=>h9 ⟨e9,k⟩
      have hn1':n=1 := by omega
      subst e9 hn1'
      rfl
     ·have g1:((i:Int)==9)=false := by simp; omega
      rw [g1]
      by_cases hn0:n=0
      ·have hi0:i=0 := Decidable.byContradiction fun k=>h0 ⟨by omega,by omega⟩
       subst hi0 hn0
       rfl
      ·have g2:((n:Int)==0)=false := by simp; omega
       rw [g2]
       rfl
    ·left
     have e9:i ≠ 9 := fun e=>h9 ⟨e,by omega⟩
     have hd:numS i acc ((n:Int) :: r)=numS (i+1) (acc+n % 128 * 128 ^ i) r := by rw [numS,if_neg h9,if_neg h0,if_neg h128]; rfl
     have e8:decide ((n:Int)<128)=false := decide_eq_false h128
     have g1:((i:Int)==9)=false := by simp; omega
     have g2:((n:Int)==0)=false := by simp; omega
     refine ⟨((((acc+n % 128 * 128 ^ i:Nat):Int),((i+1:Nat):Int),()),()),?_,⟨i+1,acc+n % 128 * 128 ^ i,pre ++ [(n:Int)],r,by omega,rfl,?_,?_,?_,?_⟩,?_,rfl⟩
     ·simp only [e1,e2,e3,e4,Int.toNat_natCast,hxg,cond_true,cond_false,e7,e8,g1,g2,low7 n (by omega),hac,wi,orK_inl]
     ·rw [ha]; simp
     ·simp [hp]
     ·rw [Nat.pow_succ]
      generalize 128 ^ i=q at *
      omega
     ·rw [← hd]; exact hnum
     ·dsimp only
      omega
def unzz (v:Int):Int := if v % 2=1 then -(v / 2)-1 else v / 2
theorem numS_facts:∀ (r:List Int) (i acc:Nat),(∃ v k:Nat,numS i acc r=((v:Int),(k:Int),0)∧i<k∧k≤i+r.length) ∨ (∃ e:Int,e ≠ 0∧numS i acc r=(0,0,e))
 | [],_,_ => .inr ⟨11,by decide,rfl⟩
 | x :: r,i,acc=>by
  rw [numS]
  split
  ·exact .inr ⟨12,by decide,rfl⟩
  ·split
   ·exact .inr ⟨12,by decide,rfl⟩
   ·split
    ·exact .inl ⟨_,_,rfl,by omega,by simp only [List.length_cons]; omega⟩
    ·rcases numS_facts r (i+1) (acc+x.toNat % 128 * 128 ^ i) with ⟨v,k,h1,h2,h3⟩ | h
     ·exact .inl ⟨v,k,h1,by omega,by simp only [List.length_cons]; omega⟩
     ·exact .inr h
theorem numS_u:∀ (r:List Int) (i acc:Nat) (v k:Int),(∀ x ∈ r,0≤x∧x≤255)→i≤9→acc<128 ^ i→numS i acc r=(v,k,0)→isU v
 | [],i,acc,v,k,_,_,_,h=>by simp [numS] at h
 | x :: r,i,acc,v,k,hb,hi,ha,h=>by
  have hx := hb x (by simp)
  obtain ⟨n,rfl⟩ := Int.eq_ofNat_of_zero_le hx.1
  have hpow:i=9→(128:Nat) ^ i=9223372036854775808 := fun e=>by rw [e]
  have hpow8:i≤8→(128:Nat) ^ i≤72057594037927936 := fun e=>by
   have := Nat.pow_le_pow_right (n := 128) (by decide) e
   have e8:(128:Nat) ^ 8=72057594037927936 := by decide
   omega
  have hmul:n % 128 * 128 ^ i≤127 * 128 ^ i := Nat.mul_le_mul_right _ (by omega)
  rw [numS] at h
  split at h
  ·simp at h
  ·rename_i h9
   split at h
   ·simp at h
   ·split at h
    ·simp only [Prod.mk.injEq,Int.toNat_natCast,and_true] at h
     rw [← h.1]
     unfold isU
     by_cases e9:i=9
     ·have hn1:(n:Int)=1 := Decidable.byContradiction fun k=>h9 ⟨e9,k⟩
      have hn1':n=1 := by omega
      have := hpow e9
      rw [hn1'] at hmul ⊢
      rw [this] at ha ⊢
      omega
     ·have := hpow8 (by omega)
      generalize 128 ^ i=q at *
      omega
    ·rename_i h128
     have e9:i ≠ 9 := fun e=>h9 ⟨e,by omega⟩
     refine numS_u r (i+1) _ v k (fun y hy=>hb y (by simp [hy])) (by omega) ?_ h
     rw [Nat.pow_succ,Int.toNat_natCast]
     generalize 128 ^ i=q at *
     omega
theorem unzz_i {v:Int} (h:isU v):isI (unzz v) := by
 obtain ⟨h1,h2⟩ := h
 unfold unzz isI
 split <;> omega
theorem xor1 (n:Nat) (h:n<18446744073709551616):IntKind.wrap .i64 (IntKind.wrap .u64 ((BitVec.ofInt (IntKind.bits .u64) (Int.fdiv (n:Int) (2 ^ (min (Int.toNat (1:Int)) (IntKind.bits .u64)))) ^^^ BitVec.ofInt (IntKind.bits .u64) (IntKind.wrap .u64 (0-(IntKind.wrap .u64 ((BitVec.ofInt (IntKind.bits .u64) (n:Int) &&& BitVec.ofInt (IntKind.bits .u64) (1:Int)).toNat:Int))))).toNat:Int))=unzz (n:Int) := by
 have e1:(BitVec.ofInt (IntKind.bits .u64) (n:Int) &&& BitVec.ofInt (IntKind.bits .u64) (1:Int)).toNat=n % 2 := by
  refine (and64 n 1).trans ?_
  rw [BitVec.toNat_and,BitVec.toNat_ofNat,BitVec.toNat_ofNat,Nat.mod_eq_of_lt h]
  exact Nat.and_two_pow_sub_one_eq_mod n 1
 have e2:Int.fdiv (n:Int) (2 ^ (min (Int.toNat (1:Int)) (IntKind.bits .u64)))=((n / 2:Nat):Int) := by
  show Int.fdiv (n:Int) 2=_
  rw [Int.fdiv_eq_ediv_of_nonneg _ (by decide)]
  rfl
 have em:∀ x:Int,IntKind.wrap .u64 x=x % 18446744073709551616 := fun x=>rfl
 rw [e1,e2,wu64 (x := ((n % 2:Nat):Int)) (by omega) (by omega)]
 unfold unzz
 by_cases hodd:n % 2=1
 ·have d1:IntKind.wrap .u64 (0-((n % 2:Nat):Int))=((18446744073709551615:Nat):Int) := by rw [em]; omega
  rw [d1,xor64,xorAll _ (by omega),if_pos (by omega),wu64 (by omega) (by omega)]
  have hm:IntKind.wrap .i64 ((18446744073709551615-n / 2:Nat):Int) = -((n:Int) / 2)-1 := by
   have e1:(2:Int) ^ IntKind.bits .i64=18446744073709551616 := rfl
   have e2:(2:Int) ^ (IntKind.bits .i64-1)=9223372036854775808 := rfl
   unfold IntKind.wrap
   simp only [e1,e2]
   split
   ·omega
   ·rename_i h
    simp [IntKind.signed] at h
    omega
  rw [hm]
 ·have d1:IntKind.wrap .u64 (0-((n % 2:Nat):Int))=((0:Nat):Int) := by rw [em]; omega
  rw [d1,xor64,show BitVec.ofNat 64 0=0#64 from rfl,BitVec.xor_zero,BitVec.toNat_ofNat,Nat.mod_eq_of_lt (by omega),wu64 (by omega) (by omega),wi64 (by omega) (by omega),if_neg (by omega)]
  omega
theorem sub_all {a:List Int} {c:Nat} (_:c≤a.length):sub' a c (a.length-c)=a.drop c := by
 rw [sub'_eq,List.take_of_length_le (by rw [List.length_drop]; omega)]
theorem xor0:IntKind.wrap .i64 (IntKind.wrap .u64 ((BitVec.ofInt (IntKind.bits .u64) (Int.fdiv (0:Int) (2 ^ (min (Int.toNat (1:Int)) (IntKind.bits .u64)))) ^^^ BitVec.ofInt (IntKind.bits .u64) (IntKind.wrap .u64 (0-(IntKind.wrap .u64 ((BitVec.ofInt (IntKind.bits .u64) (0:Int) &&& BitVec.ofInt (IntKind.bits .u64) (1:Int)).toNat:Int))))).toNat:Int))=0 := xor1 0 (by decide)
def byt (l:List Int):Prop := ∀ x ∈ l,0≤x∧x≤255
theorem byt_app {a b:List Int} (h1:byt a) (h2:byt b):byt (a ++ b) := fun x hx=>by
 rcases List.mem_append.1 hx with h | h
 ·exact h1 x h
 ·exact h2 x h
theorem byt_nil:byt [] := fun x hx=>by simp at hx
theorem byt_ub:∀ (k v:Nat),v<k→byt (ub v)
 | 0,v,h=>absurd h (Nat.not_lt_zero v)
 | k+1,v,h=>by
  by_cases hv:v<128
  ·rw [ub_small hv]
   intro x hx
   rw [List.mem_singleton.1 hx]
   omega
  ·rw [ub_big hv]
   intro x hx
   rcases List.mem_cons.1 hx with e | e
   ·rw [e]; omega
   ·exact byt_ub k (v / 128) (by omega) x e
theorem byt_uB (v:Int):byt (uB v) := byt_ub _ _ (Nat.lt_succ_self _)
theorem byt_tB {l:List Int} (h:byt l):byt (tB l) := byt_app (byt_uB _) h
theorem numS_ub:∀ (k n i acc:Nat) (r:List Int),n<k→(0<i→1≤n)→i≤9→acc<128 ^ i→acc+n * 128 ^ i<18446744073709551616→numS i acc (ub n ++ r)=(((acc+n * 128 ^ i:Nat):Int),((i+(ub n).length:Nat):Int),0)
 | 0,n,_,_,_,h,_,_,_,_=>absurd h (Nat.not_lt_zero n)
 | k+1,n,i,acc,r,hk,h1,hi,ha,hb=>by
  have hpow:i=9→(128:Nat) ^ i=9223372036854775808 := fun e=>by rw [e]
  by_cases hn:n<128
  ·rw [ub_small hn]
   have c1:¬ (i=9∧(n:Int) ≠ 1) := by
    rintro ⟨e,hne⟩
    have := hpow e
    rw [this] at hb
    have h2 := h1 (by omega)
    omega
   have c2:¬ ((n:Int)=0∧0<i) := by
    rintro ⟨e,h3⟩
    have := h1 h3
    omega
   show numS i acc ((n:Int) :: r)=_
   rw [numS,if_neg c1,if_neg c2,if_pos (by omega),Int.toNat_natCast,Nat.mod_eq_of_lt hn]
   rfl
  ·rw [ub_big hn]
   have hi9:i ≠ 9 := fun e=>by
    have := hpow e
    rw [this] at hb
    omega
   show numS i acc (((n % 128+128:Nat):Int) :: (ub (n / 128) ++ r))=_
   rw [numS,if_neg (fun h=>hi9 h.1),if_neg (by omega),if_neg (by omega),Int.toNat_natCast,show (n % 128+128) % 128=n % 128 by omega]
   have hq:n % 128 * 128 ^ i+n / 128 * 128 ^ (i+1)=n * 128 ^ i := by
    rw [Nat.pow_succ,Nat.mul_comm (128 ^ i) 128,← Nat.mul_assoc,← Nat.add_mul]
    congr 1
    omega
   have hm:n % 128 * 128 ^ i≤127 * 128 ^ i := Nat.mul_le_mul_right _ (by omega)
   rw [numS_ub k (n / 128) (i+1) (acc+n % 128 * 128 ^ i) r (by omega) (fun _=>by omega) (by omega) (by rw [Nat.pow_succ]; omega) (by rw [Nat.add_assoc,hq]; exact hb),Nat.add_assoc,hq,List.length_cons]
   congr 2
   rw [show i+1+(ub (n / 128)).length=i+((ub (n / 128)).length+1) by omega]
theorem unzz_zz {c:Int}:unzz (zz c)=c := by
 unfold unzz zz
 split <;> split <;> omega
theorem numS_canon:∀ (r:List Int) (i acc:Nat) (v k:Int),(∀ x ∈ r,0≤x∧x≤255)→numS i acc r=(v,k,0) →
  ∃ w m:Nat,v=((acc+w * 128 ^ i:Nat):Int)∧k=((i+m:Nat):Int)∧r.take m=ub w∧(0<i→1≤w)
 | [],i,acc,v,k,_,h=>by
  simp [numS] at h
 | x :: r,i,acc,v,k,hb,h=>by
  have hx := hb x (by simp)
  obtain ⟨n,rfl⟩ := Int.eq_ofNat_of_zero_le hx.1
  rw [numS] at h
  split at h
  ·simp at h
  ·split at h
   ·simp at h
   ·rename_i h0
    split at h
    ·rename_i h128
     simp only [Prod.mk.injEq,Int.toNat_natCast,and_true] at h
     refine ⟨n,1,?_,?_,?_,fun hi => ?_⟩
     ·rw [← h.1,Nat.mod_eq_of_lt (by omega)]
     ·rw [← h.2]
     ·rw [ub_small (by omega)]
      rfl
     ·by_cases hn:n=0
      ·exact absurd ⟨by omega,hi⟩ h0
      ·omega
    ·rename_i h128
     obtain ⟨w,m,e1,e2,e3,e4⟩ := numS_canon r (i+1) _ v k (fun y hy=>hb y (by simp [hy])) h
     have hw := e4 (Nat.succ_pos i)
     refine ⟨n % 128+128 * w,m+1,?_,?_,?_,fun _=>by omega⟩
     ·rw [e1]
      congr 1
      rw [Int.toNat_natCast,Nat.pow_succ,Nat.add_mul,Nat.add_assoc]
      congr 2
      rw [Nat.mul_comm (128 ^ i) 128,← Nat.mul_assoc,Nat.mul_comm w 128]
     ·rw [e2]
      omega
     ·rw [List.take_succ_cons,e3,ub_big (v := n % 128+128 * w) (by omega),show (n % 128+128 * w) % 128+128=n by omega,show (n % 128+128 * w) / 128=w by omega]
theorem zz_unzz {v:Int} (h:isU v):zz (unzz v)=v := by
 obtain ⟨h1,h2⟩ := h
 unfold unzz zz
 split <;> split <;> omega
end
section
variable {fu:Nat}
structure okA (fu:Nat) (a:List Int):Prop where
 hb:byt a
 hn:a.length≤140737488355328
 hfu:10<fu
theorem okA.dr {a:List Int} (h:okA fu a) (c:Nat):byt (a.drop c) := fun x hx=>h.hb x (List.mem_of_mem_drop hx)
def uS (a:List Int) (c:Nat):Option (Nat×Int) :=
 if (numS 0 0 (a.drop c)).2.2=0 then some (c+(numS 0 0 (a.drop c)).2.1.toNat,(numS 0 0 (a.drop c)).1) else none
def iS (a:List Int) (c:Nat):Option (Nat×Int) := (uS a c).bind fun r=>some (r.1,unzz r.2)
def cntS (m:Int) (a:List Int) (c:Nat):Option (Nat×Int) :=
 (uS a c).bind fun r=>if m<0 ∨ r.2>m ∨ r.2>((a.length-r.1:Nat):Int) then none else some r
def bytS (m:Int) (a:List Int) (c:Nat):Option (Nat×List Int) := (cntS m a c).bind fun r=>some (r.1+r.2.toNat,(a.drop r.1).take r.2.toNat)
def strS (m:Int) (a:List Int) (c:Nat):Option (Nat×ByteArray) := (bytS m a c).bind fun r=>some (r.1,strOfNums r.2)
def boolS (a:List Int) (c:Nat):Option (Nat×Bool) := if c<a.length∧a.getD c 0≤1 then some (c+1,a.getD c 0==1) else none
abbrev ER := Bool×((Int×(Int×Unit))×Unit)
abbrev PT := List Int×Int×ER×Unit
abbrev stO (a:List Int) (c h i:Int):PT := (a,c,(false,(h,i,()),()),())
abbrev stE (a:List Int) (c e q:Int):PT := (a,c,(true,(e,q,()),()),())
theorem dfu:(dflt .unit:den .unit)=() := rfl
theorem dfp:dflt (.pair (.int .i64) (.pair (.int .i64) .unit))=((0:Int),(0:Int),()) := rfl
def PR {α:Type} (a:List Int) (d:α) (r:Option (Nat×α)) (P:α→Prop) (o:Option ((PT×Unit×Unit)×α)):Prop :=
 (∃ (c:Nat) (v:α) (h i:Int),r=some (c,v)∧c≤a.length∧P v∧o=some ((stO a c h i,(),()),v)) ∨ (r=none ∧ ∃ c e q:Int,e ≠ 0∧o=some ((stE a c e q,(),()),d))
theorem p135_er {a:List Int} {c e q j k:Int}:p135_1 fu (stE a c e q,j,k,())=some ((stE a c e q,(),()),()) := by
 unfold p135_1
 simp only [cond_true,eqL_t]
theorem p135_ok {a:List Int} {c h i j k:Int} (hk:k ≠ 0):p135_1 fu (stO a c h i,j,k,())=some ((stE a c k j,(),()),()) := by
 have g:(k != 0)=true := bne_iff_ne.2 hk
 unfold p135_1
 simp only [cond_true,cond_false,eqL_t,g]
theorem p131_ok {a:List Int} {c:Int}:p131 fu ((a,c,(),()),0,())=some ((stO a c 0 0,(),()),()) := by
 unfold p131 p135
 simp only [bne_self_eq_false,cond_false,Option.bind_some,eqL_t,cond_true]
theorem p131_er {a:List Int} {c e:Int} (he:e ≠ 0):p131 fu ((a,c,(),()),e,())=some ((stE a c e c,(),()),()) := by
 have g:(e != 0)=true := bne_iff_ne.2 he
 unfold p131 p135
 simp only [g,cond_true,Option.bind_some,eqL_t]
theorem p84_er {a:List Int} {c e q:Int}:p84_2 fu (stE a c e q,())=some ((stE a c e q,(),()),0) := by
 unfold p84_2
 simp only [cond_true,eqL_t]
theorem uS_cases {a:List Int} {c:Nat} (h:okA fu a) (hc:c≤a.length) :
  (∃ v k:Nat,numS 0 0 (a.drop c)=((v:Int),(k:Int),0)∧uS a c=some (c+k,(v:Int))∧c+k≤a.length∧isU (v:Int)) ∨ (∃ e:Int,e ≠ 0∧numS 0 0 (a.drop c)=(0,0,e)∧uS a c=none) := by
 rcases numS_facts (a.drop c) 0 0 with ⟨v,k,hnum,hk0,hk⟩ | ⟨e,he,hnum⟩
 ·refine .inl ⟨v,k,hnum,?_,?_,numS_u _ 0 0 _ _ (h.dr c) (by omega) (by decide) hnum⟩
  ·unfold uS
   rw [hnum,if_pos rfl]
   rfl
  ·rw [List.length_drop] at hk; omega
 ·refine .inr ⟨e,he,hnum,?_⟩
  unfold uS
  rw [hnum,if_neg he]
theorem p84P {a:List Int} {c:Nat} {x y:Int} (h:okA fu a) (hc:c≤a.length):PR a 0 (uS a c) isU (p84_2 fu (stO a c x y,())) := by
 have e1:decide ((0:Int)≤(c:Int))=true := by simp
 have e2:decide (c≤a.length∧0+a.length≤a.length)=true := by simp; omega
 have e3:decide (c+(a.length-c)≤a.length)=true := by simp; omega
 have hl := h.hn
 rcases uS_cases h hc with ⟨v,k,hnum,hu,hk,hv⟩ | ⟨e,he,hnum,hu⟩
 ·have hw:IntKind.wrap .i64 ((c:Int)+(k:Int))=((c+k:Nat):Int) := by rw [wi64 (by omega) (by omega)]; omega
  refine .inl ⟨_,_,0,0,hu,hk,hv,?_⟩
  ·unfold p84_2
   simp only [cond_false,e1,Int.toNat_natCast,e2,e3,cond_true,eqL_t]
   rw [sub_all hc,p130_any (h.dr c) (by rw [List.length_drop]; omega) h.hfu,hnum]
   simp only [Option.bind_some]
   rw [p131_ok]
   simp only [Option.bind_some,hw]
 ·have hw:IntKind.wrap .i64 ((c:Int)+0)=(c:Int) := by rw [wi64 (by omega) (by omega)]; omega
  refine .inr ⟨hu,c,e,c,he,?_⟩
  unfold p84_2
  simp only [cond_false,e1,Int.toNat_natCast,e2,e3,cond_true,eqL_t]
  rw [sub_all hc,p130_any (h.dr c) (by rw [List.length_drop]; omega) h.hfu,hnum]
  simp only [Option.bind_some]
  rw [p131_er he]
  simp only [Option.bind_some,hw]
theorem p84N {a:List Int} {c:Nat} (h:okA fu a) (hc:c≤a.length):PR a 0 (uS a c) isU (p84 fu ((a,(c:Int),(),()),())) := by
 have e1:decide ((0:Int)≤(c:Int))=true := by simp
 have e2:decide (c≤a.length∧0+a.length≤a.length)=true := by simp; omega
 have e3:decide (c+(a.length-c)≤a.length)=true := by simp; omega
 have hl := h.hn
 rcases uS_cases h hc with ⟨v,k,hnum,hu,hk,hv⟩ | ⟨e,he,hnum,hu⟩
 ·have hw:IntKind.wrap .i64 ((c:Int)+(k:Int))=((c+k:Nat):Int) := by rw [wi64 (by omega) (by omega)]; omega
  refine .inl ⟨_,_,0,0,hu,hk,hv,?_⟩
  ·unfold p84
   simp only [e1,Int.toNat_natCast,e2,e3,cond_true,eqL_t]
   rw [sub_all hc,p130_any (h.dr c) (by rw [List.length_drop]; omega) h.hfu,hnum]
   simp only [Option.bind_some]
   rw [p131_ok]
   simp only [Option.bind_some,hw]
 ·have hw:IntKind.wrap .i64 ((c:Int)+0)=(c:Int) := by rw [wi64 (by omega) (by omega)]; omega
  refine .inr ⟨hu,c,e,c,he,?_⟩
  unfold p84
  simp only [e1,Int.toNat_natCast,e2,e3,cond_true,eqL_t]
  rw [sub_all hc,p130_any (h.dr c) (by rw [List.length_drop]; omega) h.hfu,hnum]
  simp only [Option.bind_some]
  rw [p131_er he]
  simp only [Option.bind_some,hw]
theorem p83_er {a:List Int} {c e q:Int}:p83_1 fu (stE a c e q,())=some ((stE a c e q,(),()),0) := by
 unfold p83_1
 simp only [cond_true,dfu,p84_er,Option.bind_some,eqL_t]
 rw [xor0]
theorem p83P {a:List Int} {c:Nat} {x y:Int} (h:okA fu a) (hc:c≤a.length):PR a 0 (iS a c) isI (p83_1 fu (stO a c x y,())) := by
 unfold iS p83_1
 simp only [cond_false,eqL_t,cond_true]
 rcases p84P (x := 0) (y := 0) h hc with ⟨c1,v,x1,y1,hr,h1,h2,h3⟩ | ⟨hr,c1,e,q,he,h3⟩
 ·obtain ⟨n,rfl⟩ := Int.eq_ofNat_of_zero_le h2.1
  simp only [h3,hr,Option.bind_some]
  rw [xor1 n (by have := h2.2; omega)]
  exact .inl ⟨_,_,_,_,rfl,h1,unzz_i h2,rfl⟩
 ·simp only [h3,hr,Option.bind_some,Option.bind_none]
  rw [xor0]
  exact .inr ⟨rfl,_,_,_,he,rfl⟩
theorem p83N {a:List Int} {c:Nat} (h:okA fu a) (hc:c≤a.length):PR a 0 (iS a c) isI (p83 fu ((a,(c:Int),(),()),())) := by
 unfold iS p83
 simp only [eqL_t,cond_true]
 rcases p84N h hc with ⟨c1,v,x1,y1,hr,h1,h2,h3⟩ | ⟨hr,c1,e,q,he,h3⟩
 ·obtain ⟨n,rfl⟩ := Int.eq_ofNat_of_zero_le h2.1
  simp only [h3,hr,Option.bind_some]
  rw [xor1 n (by have := h2.2; omega)]
  exact .inl ⟨_,_,_,_,rfl,h1,unzz_i h2,rfl⟩
 ·simp only [h3,hr,Option.bind_some,Option.bind_none]
  rw [xor0]
  exact .inr ⟨rfl,_,_,_,he,rfl⟩
theorem p138_er {a:List Int} {c e q j:Int}:p138 fu (stE a c e q,j,())=some ((stE a c e q,(),()),0) := by
 unfold p138
 simp only [cond_true,eqL_t]
theorem p138_ok {a:List Int} {c x y j:Int}:p138 fu (stO a c x y,j,())=some ((stO a c 0 0,(),()),j) := by
 unfold p138
 simp only [cond_true,cond_false,eqL_t]
theorem p93_er {a:List Int} {c e q j:Int}:p93_2 fu (stE a c e q,j,())=some ((stE a c e q,(),()),0) := by
 unfold p93_2
 simp only [cond_true,dfu,p84_er,Option.bind_some,eqL_t,p135_er]
 rcases Bool.eq_false_or_eq_true (decide (j<0)) with g | g <;> rcases Bool.eq_false_or_eq_true (decide ((0:Int)>IntKind.wrap .u64 j)) with g2 | g2 <;> rcases Bool.eq_false_or_eq_true (decide ((0:Int)>IntKind.wrap .u64 (IntKind.wrap .i64 ((a.length:Int)-c)))) with g3 | g3 <;> simp only [g,g2,g3,cond_true,cond_false,orK_inl,Option.bind_some,p135_er,p138_er]
def isC (a:List Int) (j:Int) (c:Nat) (n:Int):Prop := 0≤n∧n≤j ∧ ∃ c1,cntS j a c=some (c1,n)∧(c1:Int)+n≤a.length
theorem p93P {a:List Int} {c:Nat} {j x y:Int} (h:okA fu a) (hc:c≤a.length) (hj:isI j):PR a 0 (cntS j a c) (isC a j c) (p93_2 fu (stO a c x y,j,())) := by
 have hl := h.hn
 obtain ⟨hj1,hj2⟩ := hj
 unfold isC
 rcases p84P (x := 0) (y := 0) h hc with ⟨c1,v,x1,y1,hr,h1,⟨h2,h2'⟩,h3⟩ | ⟨hr,c1,e,q,he,h3⟩
 ·have hw2:IntKind.wrap .u64 (IntKind.wrap .i64 ((a.length:Int)-(c1:Int)))=((a.length-c1:Nat):Int) := by rw [wi64 (by omega) (by omega),wu64 (by omega) (by omega)]; omega
  by_cases hbad:j<0 ∨ v>j ∨ v>((a.length-c1:Nat):Int)
  ·refine .inr ⟨by unfold cntS; rw [hr,Option.bind_some,if_pos hbad],?_⟩
   unfold p93_2
   simp only [cond_false,eqL_t,cond_true,h3,Option.bind_some]
   by_cases g:j<0
   ·simp only [decide_eq_true g,cond_true,orK_inl,p135_ok (show (13:Int) ≠ 0 by decide),Option.bind_some,p135_er,p138_er,Bool.cond_self]
    exact ⟨_,_,_,by decide,rfl⟩
   ·by_cases g2:v>j
    ·have g2':v>IntKind.wrap .u64 j := by rw [wu64 (by omega) (by omega)]; omega
     simp only [decide_eq_false g,decide_eq_true g2',cond_true,orK_inl,p135_ok (show (13:Int) ≠ 0 by decide),Option.bind_some,p135_er,p138_er,Bool.cond_self]
     exact ⟨_,_,_,by decide,rfl⟩
    ·have g2':¬ v>IntKind.wrap .u64 j := by rw [wu64 (by omega) (by omega)]; omega
     have g3:v>((a.length-c1:Nat):Int) := by omega
     simp only [decide_eq_false g,decide_eq_false g2',cond_true,cond_false,orK_inl,hw2,decide_eq_true g3,p135_ok (show (11:Int) ≠ 0 by decide),Option.bind_some,p138_er]
     exact ⟨_,_,_,by decide,rfl⟩
  ·have hcn:cntS j a c=some (c1,v) := by unfold cntS; rw [hr,Option.bind_some,if_neg hbad]
   have g:¬ j<0 := fun k=>hbad (.inl k)
   have g2:¬ v>IntKind.wrap .u64 j := by rw [wu64 (by omega) (by omega)]; omega
   have g3:¬ v>((a.length-c1:Nat):Int) := by omega
   have hwv:IntKind.wrap .i64 v=v := wi64 (by omega) (by omega)
   refine .inl ⟨c1,v,0,0,hcn,h1,⟨h2,by omega,c1,hcn,by omega⟩,?_⟩
   unfold p93_2
   simp only [cond_false,eqL_t,cond_true,h3,Option.bind_some,decide_eq_false g,decide_eq_false g2,orK_inl,hw2,decide_eq_false g3,p138_ok,hwv]
 ·refine .inr ⟨by unfold cntS; rw [hr]; rfl,?_⟩
  unfold p93_2
  simp only [cond_false,eqL_t,cond_true,h3,Option.bind_some,p135_er]
  refine ⟨c1,e,q,he,?_⟩
  rcases Bool.eq_false_or_eq_true (decide (j<0)) with g | g <;> rcases Bool.eq_false_or_eq_true (decide ((0:Int)>IntKind.wrap .u64 j)) with g2 | g2 <;> rcases Bool.eq_false_or_eq_true (decide ((0:Int)>IntKind.wrap .u64 (IntKind.wrap .i64 ((a.length:Int)-c1)))) with g3 | g3 <;> simp only [g,g2,g3,cond_true,cond_false,orK_inl,Option.bind_some,p135_er,p138_er]
theorem p132_er {a:List Int} {c e q j:Int}:p132 fu (stE a c e q,j,())=some ((stE a c e q,(),()),[]) := by
 unfold p132
 simp only [cond_true,eqL_t,orK_inl,dfu]
theorem p132_short {a:List Int} {c j:Nat} {x y:Int} (hc:c≤a.length) (hn:a.length≤140737488355328) (h:a.length<c+j):p132 fu (stO a c x y,(j:Int),())=some ((stE a c 11 c,(),()),[]) := by
 have e1:decide ((j:Int)>IntKind.wrap .i64 ((a.length:Int)-(c:Int)))=true := by rw [wi64 (by omega) (by omega)]; simp; omega
 unfold p132
 simp only [cond_false,e1,cond_true,eqL_t]
 rw [p131_er (by decide)]
 simp only [Option.bind_some,cond_true,orK_inl,dfu]
theorem p132_ok {a:List Int} {c j:Nat} {x y:Int} (hn:a.length≤140737488355328) (h:c+j≤a.length):p132 fu (stO a c x y,(j:Int),())=some ((stO a ((c+j:Nat):Int) 0 0,(),()),(a.drop c).take j) := by
 have e1:decide ((j:Int)>IntKind.wrap .i64 ((a.length:Int)-(c:Int)))=false := by rw [wi64 (by omega) (by omega)]; simp; omega
 have w1:IntKind.wrap .i64 ((c:Int)+(j:Int))=((c+j:Nat):Int) := by rw [wi64 (by omega) (by omega)]; omega
 have w2:IntKind.wrap .i64 (((c+j:Nat):Int)-(j:Int))=(c:Int) := by rw [wi64 (by omega) (by omega)]; omega
 have e2:decide ((0:Int)≤(c:Int))=true := by simp
 have e3:decide ((0:Int)≤((c+j:Nat):Int))=true := by simp; omega
 have e4:decide (c≤c+j∧0+(c+j)≤a.length)=true := by simp; omega
 have e6:decide (c+(c+j-c)≤a.length)=true := by simp; omega
 have es:sub' a c (c+j-c)=(a.drop c).take j := by rw [sub'_eq,Nat.add_sub_cancel_left]
 have hl:((a.drop c).take j).length≤140737488355328 := by rw [List.length_take,List.length_drop]; omega
 have e5:(((a.drop c).take j).length≤maxLen∧((a.drop c).take j).length * 1≤140737488355328)=True := eq_true ⟨Nat.le_trans hl (by decide),by omega⟩
 unfold p132
 simp only [cond_false,e1,orK_inl,w1,w2,e2,e3,Int.toNat_natCast,e4,e6,es,e5,decide_true,eqL_t,cond_true,dfu]
theorem p86_er {a:List Int} {c e q j:Int}:p86_2 fu (stE a c e q,j,())=some ((stE a c e q,(),()),[]) := by
 unfold p86_2
 simp only [cond_true,dfu,p93_er,p132_er,Option.bind_some,eqL_t]
def isBs (a:List Int) (j:Int) (l:List Int):Prop := l.length≤a.length∧(l.length:Int)≤j∧byt l
theorem p86P {a:List Int} {c:Nat} {j x y:Int} (h:okA fu a) (hc:c≤a.length) (hj:isI j):PR a [] (bytS j a c) (isBs a j) (p86_2 fu (stO a c x y,j,())) := by
 unfold bytS p86_2
 simp only [cond_false,eqL_t,cond_true]
 rcases p93P (x := 0) (y := 0) h hc hj with ⟨c1,v,x1,y1,hr,h1,⟨h2,h4,c2,h5,h6⟩,h3⟩ | ⟨hr,c1,e,q,he,h3⟩
 ·rw [hr] at h5
  injection h5 with h5
  injection h5 with h5 h7
  subst h5
  obtain ⟨n,rfl⟩ := Int.eq_ofNat_of_zero_le h2
  simp only [h3,hr,Option.bind_some,Int.toNat_natCast]
  rw [p132_ok h.hn (by omega)]
  simp only [Option.bind_some]
  exact .inl ⟨_,_,_,_,rfl,by omega,⟨by rw [List.length_take,List.length_drop]; omega,by rw [List.length_take,List.length_drop]; omega,fun x hx=>h.hb x (List.mem_of_mem_drop (List.mem_of_mem_take hx))⟩,rfl⟩
 ·simp only [h3,hr,Option.bind_some,Option.bind_none,p132_er]
  exact .inr ⟨rfl,_,_,_,he,rfl⟩
theorem p93N {a:List Int} {c:Nat} {j:Int} (h:okA fu a) (hc:c≤a.length) (hj:isI j):PR a 0 (cntS j a c) (isC a j c) (p93 fu ((a,(c:Int),(),()),j,())) := by
 have hl := h.hn
 obtain ⟨hj1,hj2⟩ := hj
 unfold isC
 rcases p84N h hc with ⟨c1,v,x1,y1,hr,h1,⟨h2,h2'⟩,h3⟩ | ⟨hr,c1,e,q,he,h3⟩
 ·have hw2:IntKind.wrap .u64 (IntKind.wrap .i64 ((a.length:Int)-(c1:Int)))=((a.length-c1:Nat):Int) := by rw [wi64 (by omega) (by omega),wu64 (by omega) (by omega)]; omega
  by_cases hbad:j<0 ∨ v>j ∨ v>((a.length-c1:Nat):Int)
  ·refine .inr ⟨by unfold cntS; rw [hr,Option.bind_some,if_pos hbad],?_⟩
   unfold p93
   simp only [eqL_t,cond_true,h3,Option.bind_some]
   by_cases g:j<0
   ·simp only [decide_eq_true g,cond_true,orK_inl,p135_ok (show (13:Int) ≠ 0 by decide),Option.bind_some,p135_er,p138_er,Bool.cond_self]
    exact ⟨_,_,_,by decide,rfl⟩
   ·by_cases g2:v>j
    ·have g2':v>IntKind.wrap .u64 j := by rw [wu64 (by omega) (by omega)]; omega
     simp only [decide_eq_false g,decide_eq_true g2',cond_true,orK_inl,p135_ok (show (13:Int) ≠ 0 by decide),Option.bind_some,p135_er,p138_er,Bool.cond_self]
     exact ⟨_,_,_,by decide,rfl⟩
    ·have g2':¬ v>IntKind.wrap .u64 j := by rw [wu64 (by omega) (by omega)]; omega
     have g3:v>((a.length-c1:Nat):Int) := by omega
     simp only [decide_eq_false g,decide_eq_false g2',cond_true,cond_false,orK_inl,hw2,decide_eq_true g3,p135_ok (show (11:Int) ≠ 0 by decide),Option.bind_some,p138_er]
     exact ⟨_,_,_,by decide,rfl⟩
  ·have hcn:cntS j a c=some (c1,v) := by unfold cntS; rw [hr,Option.bind_some,if_neg hbad]
   have g:¬ j<0 := fun k=>hbad (.inl k)
   have g2:¬ v>IntKind.wrap .u64 j := by rw [wu64 (by omega) (by omega)]; omega
   have g3:¬ v>((a.length-c1:Nat):Int) := by omega
   have hwv:IntKind.wrap .i64 v=v := wi64 (by omega) (by omega)
   refine .inl ⟨c1,v,0,0,hcn,h1,⟨h2,by omega,c1,hcn,by omega⟩,?_⟩
   unfold p93
   simp only [eqL_t,cond_true,cond_false,h3,Option.bind_some,decide_eq_false g,decide_eq_false g2,orK_inl,hw2,decide_eq_false g3,p138_ok,hwv]
 ·refine .inr ⟨by unfold cntS; rw [hr]; rfl,?_⟩
  unfold p93
  simp only [eqL_t,cond_true,h3,Option.bind_some,p135_er]
  refine ⟨c1,e,q,he,?_⟩
  rcases Bool.eq_false_or_eq_true (decide (j<0)) with g | g <;> rcases Bool.eq_false_or_eq_true (decide ((0:Int)>IntKind.wrap .u64 j)) with g2 | g2 <;> rcases Bool.eq_false_or_eq_true (decide ((0:Int)>IntKind.wrap .u64 (IntKind.wrap .i64 ((a.length:Int)-c1)))) with g3 | g3 <;> simp only [g,g2,g3,cond_true,cond_false,orK_inl,Option.bind_some,p135_er,p138_er]
theorem p86N {a:List Int} {c:Nat} {j:Int} (h:okA fu a) (hc:c≤a.length) (hj:isI j):PR a [] (bytS j a c) (isBs a j) (p86 fu ((a,(c:Int),(),()),j,())) := by
 unfold bytS p86
 simp only [eqL_t,cond_true]
 rcases p93N h hc hj with ⟨c1,v,x1,y1,hr,h1,⟨h2,h4,c2,h5,h6⟩,h3⟩ | ⟨hr,c1,e,q,he,h3⟩
 ·rw [hr] at h5
  injection h5 with h5
  injection h5 with h5 h7
  subst h5
  obtain ⟨n,rfl⟩ := Int.eq_ofNat_of_zero_le h2
  simp only [h3,hr,Option.bind_some,Int.toNat_natCast]
  rw [p132_ok h.hn (by omega)]
  simp only [Option.bind_some]
  exact .inl ⟨_,_,_,_,rfl,by omega,⟨by rw [List.length_take,List.length_drop]; omega,by rw [List.length_take,List.length_drop]; omega,fun x hx=>h.hb x (List.mem_of_mem_drop (List.mem_of_mem_take hx))⟩,rfl⟩
 ·simp only [h3,hr,Option.bind_some,Option.bind_none,p132_er]
  exact .inr ⟨rfl,_,_,_,he,rfl⟩
end
section
variable {fu:Nat}
theorem PR.map {α β:Type} {a:List Int} {d:α} {r:Option (Nat×α)} {P:α→Prop} {o:Option ((PT×Unit×Unit)×α)} (g:α→β) {o':Option ((PT×Unit×Unit)×β)} {Q:β→Prop} (h:PR a d r P o) (hq:∀ v,P v→Q (g v))
  (h1:∀ c x y v,o=some ((stO a c x y,(),()),v)→o' = some ((stO a c x y,(),()),g v)) (h2:∀ c e q,o=some ((stE a c e q,(),()),d)→o' = some ((stE a c e q,(),()),g d)):PR a (g d) (r.bind fun r=>some (r.1,g r.2)) Q o' := by
 rcases h with ⟨c,v,x,y,hr,hc,hv,ho⟩ | ⟨hr,c,e,q,he,ho⟩
 ·exact .inl ⟨c,g v,x,y,by rw [hr]; rfl,hc,hq v hv,h1 _ _ _ _ ho⟩
 ·exact .inr ⟨by rw [hr]; rfl,c,e,q,he,h2 _ _ _ ho⟩
def isT (j:Int) (s:ByteArray):Prop := (s.size:Int)≤j
theorem strOf_size (l:List Int):(strOfNums l).size=l.length := by
 show (l.map _).toArray.size=l.length
 simp
theorem p85_er {a:List Int} {c e q j:Int}:p85_1 fu (stE a c e q,j,())=some ((stE a c e q,(),()),⟨#[]⟩) := by
 unfold p85_1
 simp only [cond_true,dfu,p86_er,Option.bind_some,eqL_t]
 rfl
theorem p85P {a:List Int} {c:Nat} {j x y:Int} (h:okA fu a) (hc:c≤a.length) (hj:isI j):PR a ⟨#[]⟩ (strS j a c) (isT j) (p85_1 fu (stO a c x y,j,())) := by
 refine (p86P (x := 0) (y := 0) h hc hj).map strOfNums (fun v hv=>by unfold isT; rw [strOf_size]; exact hv.2.1) (fun c x y v ho => ?_) (fun c e q ho => ?_)
 ·unfold p85_1
  simp only [cond_false,eqL_t,cond_true,ho,Option.bind_some]
 ·unfold p85_1
  simp only [cond_false,eqL_t,cond_true,ho,Option.bind_some]
theorem p85N {a:List Int} {c:Nat} {j:Int} (h:okA fu a) (hc:c≤a.length) (hj:isI j):PR a ⟨#[]⟩ (strS j a c) (isT j) (p85 fu ((a,(c:Int),(),()),j,())) := by
 refine (p86N h hc hj).map strOfNums (fun v hv=>by unfold isT; rw [strOf_size]; exact hv.2.1) (fun c x y v ho => ?_) (fun c e q ho => ?_)
 ·unfold p85
  simp only [eqL_t,cond_true,ho,Option.bind_some]
 ·unfold p85
  simp only [eqL_t,cond_true,ho,Option.bind_some]
theorem i32:isI 32 := by unfold isI; omega
theorem i256:isI 256 := by unfold isI; omega
def rngS (a:List Int) (c:Nat):Option (Nat×(ByteArray×ByteArray×Unit)) := (strS 32 a c).bind fun r=>(strS 32 a r.1).bind fun s=>some (s.1,(r.2,s.2,()))
theorem p137_er {a:List Int} {c e q:Int} {l m:ByteArray}:p137 fu (stE a c e q,(l,m,()),())=some ((stE a c e q,(),()),(⟨#[]⟩,⟨#[]⟩,())) := by
 unfold p137
 simp only [cond_true,eqL_t]
theorem p137_ok {a:List Int} {c x y:Int} {l m:ByteArray}:p137 fu (stO a c x y,(l,m,()),())=some ((stO a c 0 0,(),()),(l,m,())) := by
 unfold p137
 simp only [cond_true,cond_false,eqL_t]
theorem p92N {a:List Int} {c:Nat} (h:okA fu a) (hc:c≤a.length):PR a (⟨#[]⟩,⟨#[]⟩,()) (rngS a c) (fun x=>isT 32 x.1∧isT 32 x.2.1) (p92 fu ((a,(c:Int),(),()),())) := by
 unfold rngS p92
 simp only [eqL_t,cond_true]
 rcases p85N h hc i32 with ⟨c1,v1,x1,y1,hr1,h1,g1,o1⟩ | ⟨hr1,c1,e,q,he,o1⟩
 ·simp only [o1,hr1,Option.bind_some]
  rcases p85P (x := x1) (y := y1) h h1 i32 with ⟨c2,v2,x2,y2,hr2,h2,g2,o2⟩ | ⟨hr2,c2,e,q,he,o2⟩
  ·simp only [o2,hr2,Option.bind_some,p137_ok]
   exact .inl ⟨_,_,_,_,rfl,h2,⟨g1,g2⟩,rfl⟩
  ·simp only [o2,hr2,Option.bind_some,Option.bind_none,p137_er]
   exact .inr ⟨rfl,_,_,_,he,rfl⟩
 ·simp only [o1,hr1,Option.bind_some,Option.bind_none,p85_er,p137_er]
  exact .inr ⟨rfl,_,_,_,he,rfl⟩
abbrev Rc := Int×ByteArray×List Int×Int×Int
def recS (a:List Int) (c:Nat):Option (Nat×Rc) :=
 (uS a c).bind fun r0=>(strS 32 a r0.1).bind fun r1=>(bytS 256 a r1.1).bind fun r2=>(uS a r2.1).bind fun r3=>(uS a r3.1).bind fun r4=>some (r4.1,(r0.2,r1.2,r2.2,r3.2,r4.2))
def recG (a:List Int) (x:Rc):Prop := isU x.1∧isT 32 x.2.1∧isBs a 256 x.2.2.1∧isU x.2.2.2.1∧isU x.2.2.2.2
theorem p158_er {a:List Int} {c e q:Int} {x:Int×ByteArray×List Int×Int×Int×Unit}:p158_2 fu (stE a c e q,x,())=some ((stE a c e q,(),(),()),(0,⟨#[]⟩,[],0,0,())) := by
 unfold p158_2
 simp only [cond_true,eqL_t]
theorem p158_ok {a:List Int} {c x y:Int} {o:Int} {k:ByteArray} {v:List Int} {p s:Int}:p158_2 fu (stO a c x y,(o,k,v,p,s,()),())=some ((stO a c 0 0,(),(),()),(o,k,v,p,s,())) := by
 unfold p158_2
 simp only [cond_true,cond_false,eqL_t]
theorem p136_er {a:List Int} {c e q:Int}:p136_1 fu (stE a c e q,())=some ((stE a c e q,(),()),(0,⟨#[]⟩,[],0,0,())) := by
 unfold p136_1
 simp only [cond_true,dfu,p84_er,p85_er,p86_er,p158_er,Option.bind_some,eqL_t]
theorem p136P {a:List Int} {c:Nat} {x y:Int} (h:okA fu a) (hc:c≤a.length) :
  (∃ (c1:Nat) (o:Int) (k:ByteArray) (v:List Int) (p s x1 y1:Int),recS a c=some (c1,(o,k,v,p,s))∧c1≤a.length∧recG a (o,k,v,p,s)∧p136_1 fu (stO a c x y,())=some ((stO a c1 x1 y1,(),()),(o,k,v,p,s,()))) ∨
   (recS a c=none ∧ ∃ c1 e q:Int,e ≠ 0∧p136_1 fu (stO a c x y,())=some ((stE a c1 e q,(),()),(0,⟨#[]⟩,[],0,0,()))) := by
 unfold recS p136_1
 simp only [eqL_t,cond_true,cond_false]
 rcases p84P (x := 0) (y := 0) h hc with ⟨c0,v0,x0,y0,hr0,h0,g0,o0⟩ | ⟨hr0,c0,e,q,he,o0⟩
 rotate_left
 ·simp only [o0,hr0,Option.bind_some,Option.bind_none,p84_er,p85_er,p86_er,p158_er]
  exact .inr ⟨trivial,_,_,_,he,rfl⟩
 simp only [o0,hr0,Option.bind_some]
 rcases p85P (x := x0) (y := y0) h h0 i32 with ⟨c1,v1,x1,y1,hr1,h1,g1,o1⟩ | ⟨hr1,c1,e,q,he,o1⟩
 rotate_left
 ·simp only [o1,hr1,Option.bind_some,Option.bind_none,p84_er,p86_er,p158_er]
  exact .inr ⟨trivial,_,_,_,he,rfl⟩
 simp only [o1,hr1,Option.bind_some]
 rcases p86P (x := x1) (y := y1) h h1 i256 with ⟨c2,v2,x2,y2,hr2,h2,g2,o2⟩ | ⟨hr2,c2,e,q,he,o2⟩
 rotate_left
 ·simp only [o2,hr2,Option.bind_some,Option.bind_none,p84_er,p158_er]
  exact .inr ⟨trivial,_,_,_,he,rfl⟩
 simp only [o2,hr2,Option.bind_some]
 rcases p84P (x := x2) (y := y2) h h2 with ⟨c3,v3,x3,y3,hr3,h3,g3,o3⟩ | ⟨hr3,c3,e,q,he,o3⟩
 rotate_left
 ·simp only [o3,hr3,Option.bind_some,Option.bind_none,p84_er,p158_er]
  exact .inr ⟨trivial,_,_,_,he,rfl⟩
 simp only [o3,hr3,Option.bind_some]
 rcases p84P (x := x3) (y := y3) h h3 with ⟨c4,v4,x4,y4,hr4,h4,g4,o4⟩ | ⟨hr4,c4,e,q,he,o4⟩
 rotate_left
 ·simp only [o4,hr4,Option.bind_some,Option.bind_none,p158_er]
  exact .inr ⟨trivial,_,_,_,he,rfl⟩
 simp only [o4,hr4,Option.bind_some,p158_ok]
 exact .inl ⟨_,_,_,_,_,_,_,_,rfl,h4,⟨g0,g1,g2,g3,g4⟩,rfl⟩
def repS {α:Type} (S:List Int→Nat→Option (Nat×α)) (a:List Int):Nat→List α→Nat→Option (Nat×List α)
 | 0,l,c=>some (c,l)
 | n+1,l,c=>(S a c).bind fun r=>repS S a n (l ++ [r.2]) r.1
def listS {α:Type} (S:List Int→Nat→Option (Nat×α)) (m:Int) (a:List Int) (c:Nat):Option (Nat×List α) := (cntS m a c).bind fun r=>repS S a r.2.toNat [] r.1
def PX {α:Type} (a:List Int) (r:Option (Nat×List α)) (P:α→Prop) (m:Int) (o:Option ((PT×Unit×Unit)×List α)):Prop :=
 (∃ (c:Nat) (v:List α) (h i:Int),r=some (c,v)∧c≤a.length∧(∀ x ∈ v,P x)∧(v.length:Int)≤m∧o=some ((stO a c h i,(),()),v)) ∨ (r=none ∧ ∃ (c e q:Int) (d:List α),e ≠ 0∧(d.length:Int)≤m∧o=some ((stE a c e q,(),()),d))
theorem p91_er {a:List Int} {c e q m:Int} (hf:10<fu):p91 fu (stE a c e q,m,())=some ((stE a c e q,(),()),[]) := by
 obtain ⟨k,rfl⟩:∃ k,fu=k+1 := ⟨fu-1,by omega⟩
 unfold p91
 simp only [cond_true,dfu,p93_er,Option.bind_some,eqL_t,loopO,Int.lt_irrefl,decide_false,cond_false,inrO,Option.map_some]
end
section
variable {fu:Nat}
section
variable {α S R:Type} {f:S→Option (S ⊕ R)} {a:List Int} {P:α→Prop} {Sx:List Int→Nat→Option (Nat×α)} {n:Nat}
theorem list_er (mk:Nat→List α→PT→S)
  (her:∀ k l c e q,k<n→l.length=k→e ≠ 0 → ∃ d,f (mk k l (stE a c e q))=some (.inl (mk (k+1) (l ++ [d]) (stE a c e q)))):∀ m k l c e q j,k+m=n→l.length=k→e ≠ 0→m<j → ∃ (l':List α) (i:Nat),l'.length=n∧loopO j f (mk k l (stE a c e q))=loopO (i+1) f (mk n l' (stE a c e q))
 | 0,k,l,c,e,q,j,hk,hl,he,hj=>by
  obtain ⟨j,rfl⟩:∃ i,j=i+1 := ⟨j-1,by omega⟩
  have:k=n := by omega
  subst this
  exact ⟨l,j,hl,rfl⟩
 | m+1,k,l,c,e,q,j,hk,hl,he,hj=>by
  obtain ⟨j,rfl⟩:∃ i,j=i+1 := ⟨j-1,by omega⟩
  obtain ⟨d,hd⟩ := her k l c e q (by omega) hl he
  obtain ⟨l',i,h1,h2⟩ := list_er mk her m (k+1) (l ++ [d]) c e q j (by omega) (by simp [hl]) he (by omega)
  exact ⟨l',i,h1,by rw [← h2]; simp only [loopO,hd]⟩
theorem list_loop (mk:Nat→List α→PT→S)
  (hok:∀ k l (c:Nat) x y,k<n→l.length=k→c≤a.length→(∃ c1 v x1 y1,Sx a c=some (c1,v)∧c1≤a.length∧P v∧f (mk k l (stO a c x y))=some (.inl (mk (k+1) (l ++ [v]) (stO a c1 x1 y1)))) ∨ (Sx a c=none ∧ ∃ c1 e q v,e ≠ 0∧f (mk k l (stO a c x y))=some (.inl (mk (k+1) (l ++ [v]) (stE a c1 e q)))))
  (her:∀ k l c e q,k<n→l.length=k→e ≠ 0 → ∃ d,f (mk k l (stE a c e q))=some (.inl (mk (k+1) (l ++ [d]) (stE a c e q)))):∀ m k l (c:Nat) x y j,k+m=n→l.length=k→c≤a.length→(∀ z ∈ l,P z)→m<j →
   (∃ (c1:Nat) (v:List α) (x1 y1:Int) (i:Nat),repS Sx a m l c=some (c1,v)∧c1≤a.length∧(∀ z ∈ v,P z)∧v.length=n∧loopO j f (mk k l (stO a c x y))=loopO (i+1) f (mk n v (stO a c1 x1 y1))) ∨
    (repS Sx a m l c=none ∧ ∃ (c1 e q:Int) (v:List α) (i:Nat),e ≠ 0∧v.length=n∧loopO j f (mk k l (stO a c x y))=loopO (i+1) f (mk n v (stE a c1 e q)))
 | 0,k,l,c,x,y,j,hk,hl,hc,hP,hj=>by
  obtain ⟨j,rfl⟩:∃ i,j=i+1 := ⟨j-1,by omega⟩
  have:k=n := by omega
  subst this
  exact .inl ⟨c,l,x,y,j,rfl,hc,hP,hl,rfl⟩
 | m+1,k,l,c,x,y,j,hk,hl,hc,hP,hj=>by
  obtain ⟨j,rfl⟩:∃ i,j=i+1 := ⟨j-1,by omega⟩
  rcases hok k l c x y (by omega) hl hc with ⟨c1,v,x1,y1,h1,h2,h3,h4⟩ | ⟨h1,c1,e,q,v,he,h4⟩
  ·have hP':∀ z ∈ l ++ [v],P z := fun z hz=>by
    rcases List.mem_append.1 hz with hz | hz
    ·exact hP z hz
    ·rw [List.mem_singleton] at hz
     rw [hz]
     exact h3
   have := list_loop mk hok her m (k+1) (l ++ [v]) c1 x1 y1 j (by omega) (by simp [hl]) h2 hP' (by omega)
   have e:loopO (j+1) f (mk k l (stO a c x y))=loopO j f (mk (k+1) (l ++ [v]) (stO a c1 x1 y1)) := by simp only [loopO,h4]
   rw [e]
   simp only [repS,h1,Option.bind_some]
   exact this
  ·obtain ⟨l',i,g1,g2⟩ := list_er mk her m (k+1) (l ++ [v]) c1 e q j (by omega) (by simp [hl]) he (by omega)
   exact .inr ⟨by simp only [repS,h1,Option.bind_none],c1,e,q,l',i,he,g1,by rw [← g2]; simp only [loopO,h4]⟩
theorem list_all {o:Option R} {fu:Nat} {c:Nat} {x y:Int} (mk:Nat→List α→PT→S) (ho:loopO fu f (mk 0 [] (stO a c x y))=o)
  (hok:∀ k l (c:Nat) x y,k<n→l.length=k→c≤a.length→(∃ c1 v x1 y1,Sx a c=some (c1,v)∧c1≤a.length∧P v∧f (mk k l (stO a c x y))=some (.inl (mk (k+1) (l ++ [v]) (stO a c1 x1 y1)))) ∨ (Sx a c=none ∧ ∃ c1 e q v,e ≠ 0∧f (mk k l (stO a c x y))=some (.inl (mk (k+1) (l ++ [v]) (stE a c1 e q)))))
  (her:∀ k l c e q,k<n→l.length=k→e ≠ 0 → ∃ d,f (mk k l (stE a c e q))=some (.inl (mk (k+1) (l ++ [d]) (stE a c e q)))) (hc:c≤a.length) (hn:n<fu) :
   (∃ (c1:Nat) (v:List α) (x1 y1:Int) (i:Nat),repS Sx a n [] c=some (c1,v)∧c1≤a.length∧(∀ z ∈ v,P z)∧v.length=n∧o=loopO (i+1) f (mk n v (stO a c1 x1 y1))) ∨
    (repS Sx a n [] c=none ∧ ∃ (c1 e q:Int) (v:List α) (i:Nat),e ≠ 0∧v.length=n∧o=loopO (i+1) f (mk n v (stE a c1 e q))) := by
 subst ho
 exact list_loop mk hok her n 0 [] c x y fu (by omega) rfl hc (fun z hz=>by simp at hz) hn
end
theorem isC.nat {a:List Int} {j:Int} {c c1:Nat} {v:Int} (hr:cntS j a c=some (c1,v)) (hv:isC a j c v):∃ k:Nat,v=(k:Int)∧(k:Int)≤j∧c1+k≤a.length := by
 obtain ⟨h2,h4,c2,h5,h6⟩ := hv
 rw [hr] at h5
 injection h5 with h5
 injection h5 with h5 h7
 subst h5
 exact ⟨v.toNat,by omega,by omega,by omega⟩
theorem i4096:isI 4096 := by unfold isI; omega
theorem p91P {a:List Int} {c:Nat} {x y:Int} (h:okA fu a) (hc:c≤a.length) (hf:4194304<fu):PX a (listS recS 4096 a c) (recG a) 4096 (p91 fu (stO a c x y,4096,())) := by
 unfold listS p91
 simp only [cond_false,eqL_t,cond_true]
 rcases p93P (x := 0) (y := 0) h hc i4096 with ⟨c1,v,x1,y1,hr,h1,g1,o1⟩ | ⟨hr,c1,e,q,he,o1⟩
 ·obtain ⟨n,rfl,hn,hcn⟩ := isC.nat hr g1
  simp only [o1,hr,Option.bind_some,Int.toNat_natCast]
  generalize hL:loopO fu _ _=o
  refine Or.elim (list_all (n := n) (P := recG a) (Sx := recS) (fun k l st=>((l,(k:Int),()),(st,()))) hL (fun k l c x y hk hl hc => ?_) (fun k l c e q hk hl he => ?_) h1 (by omega)) ?_ ?_
  ·have e1:decide ((k:Int)<(n:Int))=true := by simp; omega
   have e2:(l.length+1≤maxLen∧(l.length+1) * 64≤140737488355328)=True := eq_true ⟨Nat.le_trans (show l.length+1≤140737488355328 by omega) (by decide),by omega⟩
   have e3:IntKind.wrap .i64 ((k:Int)+1)=((k+1:Nat):Int) := by rw [wi64 (by omega) (by omega)]; omega
   rcases p136P (x := x) (y := y) h hc with ⟨c1,o,kk,v,p,s,x1,y1,q1,q2,q3,q4⟩ | ⟨q1,c1,e,q,he,q4⟩
   ·exact .inl ⟨c1,_,x1,y1,q1,q2,q3,by simp only [e1,q4,cond_true,decide_true,Option.bind_some,List.length_singleton,e2,e3]⟩
   ·exact .inr ⟨q1,c1,e,q,_,he,by simp only [e1,q4,cond_true,decide_true,Option.bind_some,List.length_singleton,e2,e3]; rfl⟩
  ·have e1:decide ((k:Int)<(n:Int))=true := by simp; omega
   have e2:(l.length+1≤maxLen∧(l.length+1) * 64≤140737488355328)=True := eq_true ⟨Nat.le_trans (show l.length+1≤140737488355328 by omega) (by decide),by omega⟩
   have e3:IntKind.wrap .i64 ((k:Int)+1)=((k+1:Nat):Int) := by rw [wi64 (by omega) (by omega)]; omega
   exact ⟨_,by simp only [e1,p136_er,cond_true,decide_true,Option.bind_some,List.length_singleton,e2,e3]; rfl⟩
  ·rintro ⟨c2,w,x2,y2,i,g2,g3,g4,g5,g6⟩
   refine .inl ⟨c2,w,x2,y2,g2,g3,g4,by omega,?_⟩
   rw [g6]
   simp only [loopO,Int.lt_irrefl,decide_false,cond_false,inrO,Option.map_some]
  ·rintro ⟨g2,c2,e,q,w,i,he,g5,g6⟩
   refine .inr ⟨g2,c2,e,q,w,he,by omega,?_⟩
   rw [g6]
   simp only [loopO,Int.lt_irrefl,decide_false,cond_false,inrO,Option.map_some]
 ·have hfu:∃ k,fu=k+1 := ⟨fu-1,by omega⟩
  obtain ⟨k,hk⟩ := hfu
  simp only [o1,hr,Option.bind_some,Option.bind_none]
  refine .inr ⟨rfl,c1,e,q,[],he,by simp,?_⟩
  rw [hk]
  simp only [loopO,Int.lt_irrefl,decide_false,cond_false,inrO,Option.map_some]
theorem take1 {a:List Int} {c:Nat} (h:c<a.length):(a.drop c).take 1=[a.getD c 0] := by
 rw [List.drop_eq_getElem_cons h,List.take_succ_cons,List.take_zero,List.getD_eq_getElem?_getD,List.getElem?_eq_getElem h]
 rfl
theorem p90_er {a:List Int} {c e q:Int}:p90 fu (stE a c e q,())=some ((stE a c e q,(),()),false) := by
 unfold p90
 simp only [cond_true,dfu,p132_er,Option.bind_some,eqL_t,List.length_nil]
 rfl
theorem p90P {a:List Int} {c:Nat} {x y:Int} (h:okA fu a) (hc:c≤a.length):PR a false (boolS a c) (fun _=>True) (p90 fu (stO a c x y,())) := by
 have hn := h.hn
 unfold boolS p90
 simp only [cond_true,cond_false,eqL_t]
 by_cases hlt:c<a.length
 ·have h1 := p132_ok (fu := fu) (x := 0) (y := 0) h.hn (show c+1≤a.length by omega)
  rw [take1 hlt] at h1
  simp only [show ((1:Nat):Int)=1 from rfl] at h1
  generalize hv:a.getD c 0=v at h1 ⊢
  have e0:List.getD [v] 0 (dflt (.int .u8))=v := rfl
  have e1:(((List.length [v]:Nat):Int)==1)=true := rfl
  have e2:decide ((0:Int)≤0∧0<((List.length [v]:Nat):Int))=true := rfl
  have e3:decide (0<List.length [v])=true := rfl
  simp only [h1,Option.bind_some,e0,e1,e2,e3,cond_true,orK_inl]
  by_cases hv1:v>1
  ·have hb:¬ (c<a.length∧v≤1) := by omega
   rw [if_neg hb]
   simp only [decide_eq_true hv1,cond_true,p135_ok (show (16:Int) ≠ 0 by decide),Option.bind_some,orK_inl]
   exact .inr ⟨rfl,_,_,_,by decide,rfl⟩
  ·have hb:c<a.length∧v≤1 := by omega
   rw [if_pos hb]
   simp only [decide_eq_false hv1,cond_false,orK_inl]
   exact .inl ⟨_,_,_,_,rfl,by omega,trivial,rfl⟩
 ·have h1 := p132_short (fu := fu) (x := 0) (y := 0) hc h.hn (show a.length<c+1 by omega)
  simp only [show ((1:Nat):Int)=1 from rfl] at h1
  rw [if_neg (fun k=>hlt k.1)]
  have e1:(((List.length ([]:List Int):Nat):Int)==1)=false := rfl
  simp only [h1,Option.bind_some,e1,cond_false,cond_true,orK_inl]
  exact .inr ⟨rfl,_,_,_,by decide,rfl⟩
theorem p133_er {a:List Int} {c e q:Int}:p133_2 fu (stE a c e q,())=some ((stE a c e q,(),()),(e,q,())) := by
 unfold p133_2 pAsM
 simp only [cond_true,cond_false,Option.bind_some,Bool.not_false,eqL_t,orK_inl]
theorem p133_ok {a:List Int} {c x y:Int}:p133_2 fu (stO a c x y,())=some ((stO a c 0 0,(),()),(0,0,())) := by
 unfold p133_2 pAsM
 simp only [cond_true,cond_false,Option.bind_some,Bool.not_true,eqL_t,orK_inl]
theorem p87_er {a:List Int} {c e q:Int} (he:e ≠ 0):p87 fu (stE a c e q,())=some ((stE a c e q,(),()),e) := by
 have g:(e==0)=false := beq_eq_false_iff_ne.2 he
 unfold p87
 simp only [cond_true,dfu,p133_er,Option.bind_some,eqL_t,g,cond_false]
theorem p87_ok {a:List Int} {c x y:Int}:p87 fu (stO a c x y,())=some ((stO a c 0 0,(),()),if c<(a.length:Int) then 15 else 0) := by
 unfold p87
 simp only [cond_true,cond_false,p133_ok,Option.bind_some,eqL_t,BEq.rfl]
 by_cases g:c<(a.length:Int)
 ·simp only [decide_eq_true g,cond_true,if_pos g]
 ·simp only [decide_eq_false g,cond_false,if_neg g]
end
section
variable {fu:Nat}
abbrev Pd := Int×Int×Bool×Int
abbrev Cs := ByteArray×Int
def prodS (a:List Int) (c:Nat):Option (Nat×Pd) :=
 (uS a c).bind fun r0=>(uS a r0.1).bind fun r1=>(boolS a r1.1).bind fun r2=>(uS a r2.1).bind fun r3=>some (r3.1,(r0.2,r1.2,r2.2,r3.2))
def conS (a:List Int) (c:Nat):Option (Nat×Cs) := (strS 32 a c).bind fun r0=>(uS a r0.1).bind fun r1=>some (r1.1,(r0.2,r1.2))
abbrev Sta := ByteArray×ByteArray×Int×Int×List Rc×List Pd×List Cs×Unit
def partR (a:List Int):Option (Nat×Sta) :=
 (rngS a 0).bind fun r0=>(uS a r0.1).bind fun r1=>(uS a r1.1).bind fun r2=>(listS recS 4096 a r2.1).bind fun r3=>(listS prodS 256 a r3.1).bind fun r4=>(listS conS 64 a r4.1).bind fun r5 =>
  some (r5.1,(r0.2.1,r0.2.2.1,r1.2,r2.2,r3.2,r4.2,r5.2,()))
def stG (a:List Int) (p:Sta):Prop :=
 isT 32 p.1∧isT 32 p.2.1∧isU p.2.2.1∧isU p.2.2.2.1∧(∀ x ∈ p.2.2.2.2.1,recG a x)∧(p.2.2.2.2.1.length:Int)≤4096∧(∀ x ∈ p.2.2.2.2.2.1,isU x.1∧isU x.2.1∧isU x.2.2.2)∧(p.2.2.2.2.2.1.length:Int)≤256∧(∀ x ∈ p.2.2.2.2.2.2.1,isT 32 x.1∧isU x.2)∧(p.2.2.2.2.2.2.1.length:Int)≤64
def stZ:Sta := (⟨#[]⟩,⟨#[]⟩,0,0,[],[],[],())
def readS (chk:Sta→Int) (a:List Int):Sta×Int×Unit :=
 match partR a with
 | some (c,p)=>if c<a.length then (stZ,165,()) else if chk p=0 then (p,0,()) else (stZ,165,())
 | none=>(stZ,165,())
theorem i64':isI 64 := by unfold isI; omega
theorem p82_is {a:List Int} (h:a.length≤140737488355328):p82 fu (a,())=some ((),(a,(0:Int),(),())) := by
 have e:(a.length≤maxLen∧a.length * 1≤140737488355328)=True := eq_true ⟨Nat.le_trans h (show 140737488355328≤maxLen by decide),by omega⟩
 unfold p82
 simp only [e,decide_true,eqL_t,cond_true]
theorem fits_c {n k m:Nat} (h:n≤4096) (hk:k≤1) (hm:m≤64):(n+k≤maxLen∧(n+k) * m≤140737488355328)=True :=
 eq_true ⟨Nat.le_trans (show n+k≤140737488355328 by omega) (by decide),Nat.le_trans (Nat.mul_le_mul_left (n+k) hm) (by omega)⟩
theorem p30_is {a:List Int} (chk:Sta→Int) (h:okA fu a) (hf:4194304<fu) (hk:∀ p,stG a p→p10 fu (p,())=some ((),chk p)):p30 fu (a,())=some ((),readS chk a) := by
 obtain ⟨j,rfl⟩:∃ i,fu=i+1 := ⟨fu-1,by omega⟩
 generalize hfu:j+1=fu at *
 unfold p30 readS partR
 have h82 := p82_is (fu := fu) h.hn
 simp only [h82,Option.bind_some,eqL_t,cond_true]
 have z0:((0:Nat):Int)=0 := rfl
 rcases (z0 ▸ p92N h (Nat.zero_le _)) with ⟨c0,⟨v0,w0,⟨⟩⟩,x0,y0,hr0,h0,g0,o0⟩ | ⟨hr0,c0,e,q,he,o0⟩
 rotate_left
 ·have be:(e != 0)=true := bne_iff_ne.2 he
  simp only [o0,hr0,Option.bind_some,Option.bind_none,p84_er,p91_er h.hfu,p93_er]
  rw [← hfu]
  simp only [loopO,Int.lt_irrefl,decide_false,cond_false,inrO,p87_er he,be,cond_true,orK_inl,Option.bind_some,Option.map_some,p93_er,stZ]
 simp only [o0,hr0,Option.bind_some]
 rcases p84P (x := x0) (y := y0) h h0 with ⟨c1,v1,x1,y1,hr1,h1,g1,o1⟩ | ⟨hr1,c1,e,q,he,o1⟩
 rotate_left
 ·have be:(e != 0)=true := bne_iff_ne.2 he
  simp only [o1,hr1,Option.bind_some,Option.bind_none,p84_er,p91_er h.hfu,p93_er]
  rw [← hfu]
  simp only [loopO,Int.lt_irrefl,decide_false,cond_false,inrO,p87_er he,be,cond_true,orK_inl,Option.bind_some,Option.map_some,p93_er,stZ]
 simp only [o1,hr1,Option.bind_some]
 rcases p84P (x := x1) (y := y1) h h1 with ⟨c2,v2,x2,y2,hr2,h2,g2,o2⟩ | ⟨hr2,c2,e,q,he,o2⟩
 rotate_left
 ·have be:(e != 0)=true := bne_iff_ne.2 he
  simp only [o2,hr2,Option.bind_some,Option.bind_none,p91_er h.hfu,p93_er]
  rw [← hfu]
  simp only [loopO,Int.lt_irrefl,decide_false,cond_false,inrO,p87_er he,be,cond_true,orK_inl,Option.bind_some,Option.map_some,p93_er,stZ]
 simp only [o2,hr2,Option.bind_some]
 rcases p91P (x := x2) (y := y2) h h2 hf with ⟨c3,v3,x3,y3,hr3,h3,g3,n3,o3⟩ | ⟨hr3,c3,e,q,d3,he,n3,o3⟩
 rotate_left
 ·have be:(e != 0)=true := bne_iff_ne.2 he
  simp only [o3,hr3,Option.bind_some,Option.bind_none,p93_er]
  rw [← hfu]
  simp only [loopO,Int.lt_irrefl,decide_false,cond_false,inrO,p87_er he,be,cond_true,orK_inl,Option.bind_some,Option.map_some,p93_er,stZ]
 simp only [o3,hr3,Option.bind_some]
 simp only [listS]
 rcases p93P (x := x3) (y := y3) h h3 i256 with ⟨c4,v4,x4,y4,hr4,h4,g4,o4⟩ | ⟨hr4,c4,e,q,he,o4⟩
 rotate_left
 ·have be:(e != 0)=true := bne_iff_ne.2 he
  simp only [o4,hr4,Option.bind_some,Option.bind_none]
  rw [← hfu]
  simp only [loopO,Int.lt_irrefl,decide_false,cond_false,inrO,p87_er he,be,cond_true,orK_inl,Option.bind_some,Option.map_some,p93_er,stZ]
 obtain ⟨n,rfl,hn,hcn⟩ := isC.nat hr4 g4
 simp only [o4,hr4,Option.bind_some,Int.toNat_natCast]
 generalize hL:loopO fu _ _=o
 refine Or.elim (list_all (n := n) (P := fun x:Pd=>isU x.1∧isU x.2.1∧isU x.2.2.2) (Sx := prodS) (fun k l st=>(((k:Int),()),(st,(v0,w0,v1,v2,v3,l,(),()),()))) hL (fun k l c x y hk hl hc => ?_) (fun k l c e q hk hl he => ?_) h4 (by omega)) ?_ ?_
 ·have e1:decide ((k:Int)<(n:Int))=true := by simp; omega
  have e2 := fits_c (show l.length≤4096 by omega) (Nat.le_refl 1) (show 32≤64 by omega)
  have e3:IntKind.wrap .i64 ((k:Int)+1)=((k+1:Nat):Int) := by rw [wi64 (by omega) (by omega)]; omega
  unfold prodS
  simp only [e1,cond_true]
  rcases p84P (x := x) (y := y) h hc with ⟨c0,v0,x0,y0,hr0,h0,g0,o0⟩ | ⟨hr0,c0,e,q,he,o0⟩
  rotate_left
  ·exact .inr ⟨by simp only [hr0,Option.bind_none],c0,e,q,_,he,by simp only [o0,p84_er,p90_er,Option.bind_some,List.length_singleton,e2,e3,cond_true,decide_true]; rfl⟩
  rcases p84P (x := x0) (y := y0) h h0 with ⟨c1,v1,x1,y1,hr1,h1,g1,o1⟩ | ⟨hr1,c1,e,q,he,o1⟩
  rotate_left
  ·exact .inr ⟨by simp only [hr0,hr1,Option.bind_some,Option.bind_none],c1,e,q,_,he,by simp only [o0,o1,p84_er,p90_er,Option.bind_some,List.length_singleton,e2,e3,cond_true,decide_true]; rfl⟩
  rcases p90P (x := x1) (y := y1) h h1 with ⟨c2,v2,x2,y2,hr2,h2,g2,o2⟩ | ⟨hr2,c2,e,q,he,o2⟩
  rotate_left
  ·exact .inr ⟨by simp only [hr0,hr1,hr2,Option.bind_some,Option.bind_none],c2,e,q,_,he,by simp only [o0,o1,o2,p84_er,Option.bind_some,List.length_singleton,e2,e3,cond_true,decide_true]; rfl⟩
  rcases p84P (x := x2) (y := y2) h h2 with ⟨c3,v3,x3,y3,hr3,h3,g3,o3⟩ | ⟨hr3,c3,e,q,he,o3⟩
  rotate_left
  ·exact .inr ⟨by simp only [hr0,hr1,hr2,hr3,Option.bind_some,Option.bind_none],c3,e,q,_,he,by simp only [o0,o1,o2,o3,Option.bind_some,List.length_singleton,e2,e3,cond_true,decide_true]; rfl⟩
  exact .inl ⟨c3,(v0,v1,v2,v3),x3,y3,by simp only [hr0,hr1,hr2,hr3,Option.bind_some],h3,⟨g0,g1,g3⟩,by simp only [o0,o1,o2,o3,Option.bind_some,List.length_singleton,e2,e3,cond_true,decide_true]⟩
 ·have e1:decide ((k:Int)<(n:Int))=true := by simp; omega
  have e2 := fits_c (show l.length≤4096 by omega) (Nat.le_refl 1) (show 32≤64 by omega)
  have e3:IntKind.wrap .i64 ((k:Int)+1)=((k+1:Nat):Int) := by rw [wi64 (by omega) (by omega)]; omega
  exact ⟨_,by simp only [e1,p84_er,p90_er,cond_true,decide_true,Option.bind_some,List.length_singleton,e2,e3]; rfl⟩
 ·rintro ⟨c5,v5,x5,y5,i,hr5,h5,g5,n5,o5⟩
  rw [o5,hr5]
  simp only [loopO,Int.lt_irrefl,decide_false,cond_false,Option.bind_some]
  rcases p93P (x := x5) (y := y5) h h5 i64' with ⟨c6,v6,x6,y6,hr6,h6,g6,o6⟩ | ⟨hr6,c6,e,q,he,o6⟩
  rotate_left
  ·have be:(e != 0)=true := bne_iff_ne.2 he
   simp only [o6,hr6,Option.bind_some,Option.bind_none]
   rw [← hfu]
   simp only [loopO,Int.lt_irrefl,decide_false,cond_false,inrO,p87_er he,be,cond_true,orK_inl,Option.bind_some,Option.map_some,stZ]
  obtain ⟨n',rfl,hn',hcn'⟩ := isC.nat hr6 g6
  simp only [o6,hr6,Option.bind_some,Int.toNat_natCast]
  generalize hM:loopO fu _ _=o'
  refine Or.elim (list_all (n := n') (P := fun x:Cs=>isT 32 x.1∧isU x.2) (Sx := conS) (fun k l st=>(((k:Int),()),(st,(v0,w0,v1,v2,v3,v5,l,()),()))) hM (fun k l c x y hk hl hc => ?_) (fun k l c e q hk hl he => ?_) h6 (by omega)) ?_ ?_
  ·have e1:decide ((k:Int)<(n':Int))=true := by simp; omega
   have e2 := fits_c (show l.length≤4096 by omega) (Nat.le_refl 1) (show 24≤64 by omega)
   have e3:IntKind.wrap .i64 ((k:Int)+1)=((k+1:Nat):Int) := by rw [wi64 (by omega) (by omega)]; omega
   unfold conS
   simp only [e1,cond_true]
   rcases p85P (x := x) (y := y) h hc i32 with ⟨c0,v0,x0,y0,hr0,h0,g0,o0⟩ | ⟨hr0,c0,e,q,he,o0⟩
   rotate_left
   ·exact .inr ⟨by simp only [hr0,Option.bind_none],c0,e,q,_,he,by simp only [o0,p84_er,Option.bind_some,List.length_singleton,e2,e3,cond_true,decide_true]; rfl⟩
   rcases p84P (x := x0) (y := y0) h h0 with ⟨c1,v1,x1,y1,hr1,h1,g1,o1⟩ | ⟨hr1,c1,e,q,he,o1⟩
   rotate_left
   ·exact .inr ⟨by simp only [hr0,hr1,Option.bind_some,Option.bind_none],c1,e,q,_,he,by simp only [o0,o1,Option.bind_some,List.length_singleton,e2,e3,cond_true,decide_true]; rfl⟩
   exact .inl ⟨c1,(v0,v1),x1,y1,by simp only [hr0,hr1,Option.bind_some],h1,⟨g0,g1⟩,by simp only [o0,o1,Option.bind_some,List.length_singleton,e2,e3,cond_true,decide_true]⟩
  ·have e1:decide ((k:Int)<(n':Int))=true := by simp; omega
   have e2 := fits_c (show l.length≤4096 by omega) (Nat.le_refl 1) (show 24≤64 by omega)
   have e3:IntKind.wrap .i64 ((k:Int)+1)=((k+1:Nat):Int) := by rw [wi64 (by omega) (by omega)]; omega
   exact ⟨_,by simp only [e1,p84_er,p85_er,cond_true,decide_true,Option.bind_some,List.length_singleton,e2,e3]; rfl⟩
  ·rintro ⟨c7,v7,x7,y7,i',hr7,h7,g7,n7,o7⟩
   have hp := hk (v0,w0,v1,v2,v3,v5,v7,()) ⟨g0.1,g0.2,g1,g2,g3,n3,g5,by dsimp only; omega,g7,by dsimp only; omega⟩
   rw [o7,hr7]
   simp only [loopO,Int.lt_irrefl,decide_false,cond_false,Option.bind_some,p87_ok,hp]
   by_cases hlt:(c7:Int)<(a.length:Int)
   ·have hlt':c7<a.length := by omega
    simp only [if_pos hlt,if_pos hlt',show ((15:Int) != 0)=true from rfl,cond_true,orK_inl,inrO,Option.map_some,stZ]
   ·have hlt':¬ c7<a.length := by omega
    simp only [if_neg hlt,if_neg hlt',show ((0:Int) != 0)=false from rfl,cond_false,orK_inl]
    by_cases hz:chk (v0,w0,v1,v2,v3,v5,v7,())=0
    ·have hz':(chk (v0,w0,v1,v2,v3,v5,v7,()) != 0)=false := by rw [hz]; rfl
     simp only [hz',if_pos hz,cond_false,inrO,Option.map_some]
    ·have hz':(chk (v0,w0,v1,v2,v3,v5,v7,()) != 0)=true := bne_iff_ne.2 hz
     simp only [hz',if_neg hz,cond_true,inrO,Option.map_some,stZ]
  ·rintro ⟨hr7,c7,e,q,v7,i',he,n7,o7⟩
   have be:(e != 0)=true := bne_iff_ne.2 he
   rw [o7,hr7]
   simp only [loopO,Int.lt_irrefl,decide_false,cond_false,cond_true,Option.bind_some,Option.bind_none,p87_er he,be,orK_inl,inrO,Option.map_some,stZ]
 ·rintro ⟨hr5,c5,e,q,v5,i,he,n5,o5⟩
  have be:(e != 0)=true := bne_iff_ne.2 he
  rw [o5,hr5]
  simp only [loopO,Int.lt_irrefl,decide_false,cond_false,Option.bind_some,Option.bind_none,p93_er]
  rw [← hfu]
  simp only [loopO,Int.lt_irrefl,decide_false,cond_false,inrO,p87_er he,be,cond_true,orK_inl,Option.bind_some,Option.map_some,stZ]
end
section
variable {fu:Nat}
abbrev Cmd := Int×Int×Int×Int×ByteArray×List Int×Int×Int×ByteArray×Int×Unit
def cmdK (a:List Int) (m u:Int) (c:Nat):Option (Nat×Cmd) :=
 if m=1 then (uS a c).bind fun r0=>(uS a r0.1).bind fun r1=>(strS 32 a r1.1).bind fun r2=>(bytS 256 a r2.1).bind fun r3=>some (r3.1,(m,u,r0.2,r1.2,r2.2,r3.2,0,0,⟨#[]⟩,0,()))
 else   if m=2 then (uS a c).bind fun r0=>(iS a r0.1).bind fun r1=>some (r1.1,(m,u,0,0,⟨#[]⟩,[],r0.2,r1.2,⟨#[]⟩,0,()))
 else   if m=3 then (uS a c).bind fun r0=>(uS a r0.1).bind fun r1=>(strS 32 a r1.1).bind fun r2=>(uS a r2.1).bind fun r3=>some (r3.1,(m,u,r0.2,r1.2,⟨#[]⟩,[],r3.2,0,r2.2,0,()))
 else   if m=4 then (strS 32 a c).bind fun r0=>some (r0.1,(m,u,0,0,⟨#[]⟩,[],0,0,r0.2,0,()))
 else if m=5 ∨ m=6 then (uS a c).bind fun r0=>some (r0.1,(m,u,0,0,⟨#[]⟩,[],0,0,⟨#[]⟩,r0.2,()))
 else some (c,(m,u,0,0,⟨#[]⟩,[],0,0,⟨#[]⟩,0,()))
def cmdR (a:List Int):Option (Nat×Cmd) := (iS a 0).bind fun k=>(uS a k.1).bind fun e=>cmdK a k.2 e.2 e.1
def cmdZ:Cmd := (0,0,0,0,⟨#[]⟩,[],0,0,⟨#[]⟩,0,())
def readCX (wf:Cmd→Bool) (a:List Int):Cmd×Int×Unit :=
 match cmdR a with
 | some (c,p)=>if c<a.length then (cmdZ,161,()) else if wf p=true then (p,0,()) else (cmdZ,161,())
 | none=>(cmdZ,161,())
theorem p26_is {a:List Int} (wf:Cmd→Bool) (h:okA fu a) (hw:∀ p:Cmd,isT 32 p.2.2.2.2.2.2.2.2.1→p88 fu (p,())=some ((),wf p)):p26 fu (a,())=some ((),readCX wf a) := by
 unfold p26 readCX cmdR
 have h82 := p82_is (fu := fu) h.hn
 simp only [h82,Option.bind_some,eqL_t,cond_true]
 have z0:((0:Nat):Int)=0 := rfl
 have t0:isT 32 (⟨#[]⟩:ByteArray) := by unfold isT; decide
 rcases (z0 ▸ p83N h (Nat.zero_le _)) with ⟨c0,m,x0,y0,hr0,h0,g0,o0⟩ | ⟨hr0,c0,e,q,he,o0⟩
 rotate_left
 ·have be:(e != 0)=true := bne_iff_ne.2 he
  simp only [o0,hr0,Option.bind_some,Option.bind_none,p84_er,show ((0:Int)==1)=false from rfl,show ((0:Int)==2)=false from rfl,show ((0:Int)==3)=false from rfl,show ((0:Int)==4)=false from rfl,show ((0:Int)==5)=false from rfl,show ((0:Int)==6)=false from rfl,cond_false,cond_true,orK_inl,p87_er he,be,cmdZ]
 simp only [o0,hr0,Option.bind_some]
 rcases p84P (x := x0) (y := y0) h h0 with ⟨c1,v1,x1,y1,hr1,h1,g1,o1⟩ | ⟨hr1,c1,e,q,he,o1⟩
 rotate_left
 ·have be:(e != 0)=true := bne_iff_ne.2 he
  simp only [o1,hr1,Option.bind_some,Option.bind_none,p83_er,p84_er,p85_er,p86_er]
  rcases Bool.eq_false_or_eq_true (m==1) with b1 | b1 <;> rcases Bool.eq_false_or_eq_true (m==2) with b2 | b2 <;> rcases Bool.eq_false_or_eq_true (m==3) with b3 | b3 <;> rcases Bool.eq_false_or_eq_true (m==4) with b4 | b4 <;> rcases Bool.eq_false_or_eq_true (m==5) with b5 | b5 <;> rcases Bool.eq_false_or_eq_true (m==6) with b6 | b6 <;> simp only [b1,b2,b3,b4,b5,b6,cond_true,cond_false,orK_inl,Option.bind_some,p87_er he,be,cmdZ]
 simp only [o1,hr1,Option.bind_some]
 unfold cmdK
 by_cases k1:m=1
 ·subst k1
  rw [if_pos rfl]
  simp only [show ((1:Int)==1)=true from rfl,cond_true]
  rcases p84P (x := x1) (y := y1) h h1 with ⟨c2,v2,x2,y2,hr2,h2,g2,o2⟩ | ⟨hr2,c2,e,q,he,o2⟩
  rotate_left
  ·have be:(e != 0)=true := bne_iff_ne.2 he
   simp only [o2,hr2,p84_er,p85_er,p86_er,Option.bind_some,Option.bind_none,cond_true,orK_inl,p87_er he,be,cmdZ]
  simp only [o2,hr2,Option.bind_some]
  rcases p84P (x := x2) (y := y2) h h2 with ⟨c3,v3,x3,y3,hr3,h3,g3,o3⟩ | ⟨hr3,c3,e,q,he,o3⟩
  rotate_left
  ·have be:(e != 0)=true := bne_iff_ne.2 he
   simp only [o3,hr3,p85_er,p86_er,Option.bind_some,Option.bind_none,cond_true,orK_inl,p87_er he,be,cmdZ]
  simp only [o3,hr3,Option.bind_some]
  rcases p85P (x := x3) (y := y3) h h3 i32 with ⟨c4,v4,x4,y4,hr4,h4,g4,o4⟩ | ⟨hr4,c4,e,q,he,o4⟩
  rotate_left
  ·have be:(e != 0)=true := bne_iff_ne.2 he
   simp only [o4,hr4,p86_er,Option.bind_some,Option.bind_none,cond_true,orK_inl,p87_er he,be,cmdZ]
  simp only [o4,hr4,Option.bind_some]
  rcases p86P (x := x4) (y := y4) h h4 i256 with ⟨c5,v5,x5,y5,hr5,h5,g5,o5⟩ | ⟨hr5,c5,e,q,he,o5⟩
  rotate_left
  ·have be:(e != 0)=true := bne_iff_ne.2 he
   simp only [o5,hr5,Option.bind_some,Option.bind_none,cond_true,orK_inl,p87_er he,be,cmdZ]
  simp only [o5,hr5,Option.bind_some,orK_inl]
  have hp := hw (1,v1,v2,v3,v4,v5,0,0,⟨#[]⟩,0,()) t0
  by_cases hlt:(c5:Int)<(a.length:Int)
  ·have hlt':c5<a.length := by omega
   simp only [p87_ok,if_pos hlt,if_pos hlt',show ((15:Int) != 0)=true from rfl,Option.bind_some,cond_true,orK_inl,cmdZ]
  ·have hlt':¬ c5<a.length := by omega
   simp only [p87_ok,if_neg hlt,if_neg hlt',show ((0:Int) != 0)=false from rfl,cond_false,orK_inl,Option.bind_some,hp]
   cases hwf:wf (1,v1,v2,v3,v4,v5,0,0,⟨#[]⟩,0,())
   ·simp only [Bool.not_false,cond_true,Bool.false_eq_true,if_false,cmdZ]
   ·simp only [Bool.not_true,cond_false,if_true]
 rw [if_neg k1]
 have b1:(m==1)=false := beq_eq_false_iff_ne.2 k1
 by_cases k2:m=2
 ·subst k2
  rw [if_pos rfl]
  simp only [show ((2:Int)==1)=false from rfl,show ((2:Int)==2)=true from rfl,cond_true,cond_false]
  rcases p84P (x := x1) (y := y1) h h1 with ⟨c2,v2,x2,y2,hr2,h2,g2,o2⟩ | ⟨hr2,c2,e,q,he,o2⟩
  rotate_left
  ·have be:(e != 0)=true := bne_iff_ne.2 he
   simp only [o2,hr2,p83_er,Option.bind_some,Option.bind_none,cond_true,orK_inl,p87_er he,be,cmdZ]
  simp only [o2,hr2,Option.bind_some]
  rcases p83P (x := x2) (y := y2) h h2 with ⟨c3,v3,x3,y3,hr3,h3,g3,o3⟩ | ⟨hr3,c3,e,q,he,o3⟩
  rotate_left
  ·have be:(e != 0)=true := bne_iff_ne.2 he
   simp only [o3,hr3,Option.bind_some,Option.bind_none,cond_true,orK_inl,p87_er he,be,cmdZ]
  simp only [o3,hr3,Option.bind_some,orK_inl]
  have hp := hw (2,v1,0,0,⟨#[]⟩,[],v2,v3,⟨#[]⟩,0,()) t0
  by_cases hlt:(c3:Int)<(a.length:Int)
  ·have hlt':c3<a.length := by omega
   simp only [p87_ok,if_pos hlt,if_pos hlt',show ((15:Int) != 0)=true from rfl,Option.bind_some,cond_true,orK_inl,cmdZ]
  ·have hlt':¬ c3<a.length := by omega
   simp only [p87_ok,if_neg hlt,if_neg hlt',show ((0:Int) != 0)=false from rfl,cond_false,orK_inl,Option.bind_some,hp]
   cases hwf:wf (2,v1,0,0,⟨#[]⟩,[],v2,v3,⟨#[]⟩,0,())
   ·simp only [Bool.not_false,cond_true,Bool.false_eq_true,if_false,cmdZ]
   ·simp only [Bool.not_true,cond_false,if_true]
 rw [if_neg k2]
 have b2:(m==2)=false := beq_eq_false_iff_ne.2 k2
 by_cases k3:m=3
 ·subst k3
  rw [if_pos rfl]
  simp only [show ((3:Int)==1)=false from rfl,show ((3:Int)==2)=false from rfl,show ((3:Int)==3)=true from rfl,cond_true,cond_false]
  rcases p84P (x := x1) (y := y1) h h1 with ⟨c2,v2,x2,y2,hr2,h2,g2,o2⟩ | ⟨hr2,c2,e,q,he,o2⟩
  rotate_left
  ·have be:(e != 0)=true := bne_iff_ne.2 he
   simp only [o2,hr2,p84_er,p85_er,Option.bind_some,Option.bind_none,cond_true,orK_inl,p87_er he,be,cmdZ]
  simp only [o2,hr2,Option.bind_some]
  rcases p84P (x := x2) (y := y2) h h2 with ⟨c3,v3,x3,y3,hr3,h3,g3,o3⟩ | ⟨hr3,c3,e,q,he,o3⟩
  rotate_left
  ·have be:(e != 0)=true := bne_iff_ne.2 he
   simp only [o3,hr3,p84_er,p85_er,Option.bind_some,Option.bind_none,cond_true,orK_inl,p87_er he,be,cmdZ]
  simp only [o3,hr3,Option.bind_some]
  rcases p85P (x := x3) (y := y3) h h3 i32 with ⟨c4,v4,x4,y4,hr4,h4,g4,o4⟩ | ⟨hr4,c4,e,q,he,o4⟩
  rotate_left
  ·have be:(e != 0)=true := bne_iff_ne.2 he
   simp only [o4,hr4,p84_er,Option.bind_some,Option.bind_none,cond_true,orK_inl,p87_er he,be,cmdZ]
  simp only [o4,hr4,Option.bind_some]
  rcases p84P (x := x4) (y := y4) h h4 with ⟨c5,v5,x5,y5,hr5,h5,g5,o5⟩ | ⟨hr5,c5,e,q,he,o5⟩
  rotate_left
  ·have be:(e != 0)=true := bne_iff_ne.2 he
   simp only [o5,hr5,Option.bind_some,Option.bind_none,cond_true,orK_inl,p87_er he,be,cmdZ]
  simp only [o5,hr5,Option.bind_some,orK_inl]
  have hp := hw (3,v1,v2,v3,⟨#[]⟩,[],v5,0,v4,0,()) g4
  by_cases hlt:(c5:Int)<(a.length:Int)
  ·have hlt':c5<a.length := by omega
   simp only [p87_ok,if_pos hlt,if_pos hlt',show ((15:Int) != 0)=true from rfl,Option.bind_some,cond_true,orK_inl,cmdZ]
  ·have hlt':¬ c5<a.length := by omega
   simp only [p87_ok,if_neg hlt,if_neg hlt',show ((0:Int) != 0)=false from rfl,cond_false,orK_inl,Option.bind_some,hp]
   cases hwf:wf (3,v1,v2,v3,⟨#[]⟩,[],v5,0,v4,0,())
   ·simp only [Bool.not_false,cond_true,Bool.false_eq_true,if_false,cmdZ]
   ·simp only [Bool.not_true,cond_false,if_true]
 rw [if_neg k3]
 have b3:(m==3)=false := beq_eq_false_iff_ne.2 k3
 by_cases k4:m=4
 ·subst k4
  rw [if_pos rfl]
  simp only [show ((4:Int)==1)=false from rfl,show ((4:Int)==2)=false from rfl,show ((4:Int)==3)=false from rfl,show ((4:Int)==4)=true from rfl,cond_true,cond_false]
  rcases p85P (x := x1) (y := y1) h h1 i32 with ⟨c2,v2,x2,y2,hr2,h2,g2,o2⟩ | ⟨hr2,c2,e,q,he,o2⟩
  rotate_left
  ·have be:(e != 0)=true := bne_iff_ne.2 he
   simp only [o2,hr2,Option.bind_some,Option.bind_none,cond_true,orK_inl,p87_er he,be,cmdZ]
  simp only [o2,hr2,Option.bind_some,orK_inl]
  have hp := hw (4,v1,0,0,⟨#[]⟩,[],0,0,v2,0,()) g2
  by_cases hlt:(c2:Int)<(a.length:Int)
  ·have hlt':c2<a.length := by omega
   simp only [p87_ok,if_pos hlt,if_pos hlt',show ((15:Int) != 0)=true from rfl,Option.bind_some,cond_true,orK_inl,cmdZ]
  ·have hlt':¬ c2<a.length := by omega
   simp only [p87_ok,if_neg hlt,if_neg hlt',show ((0:Int) != 0)=false from rfl,cond_false,orK_inl,Option.bind_some,hp]
   cases hwf:wf (4,v1,0,0,⟨#[]⟩,[],0,0,v2,0,())
   ·simp only [Bool.not_false,cond_true,Bool.false_eq_true,if_false,cmdZ]
   ·simp only [Bool.not_true,cond_false,if_true]
 rw [if_neg k4]
 have b4:(m==4)=false := beq_eq_false_iff_ne.2 k4
 by_cases k5:m=5 ∨ m=6
 ·rw [if_pos k5]
  simp only [b1,b2,b3,cond_false]
  have c6:(m==5)=true ∨ ((m==5)=false∧(m==6)=true) := by
   rcases k5 with rfl | rfl
   ·exact .inl rfl
   ·exact .inr ⟨rfl,rfl⟩
  rcases c6 with c5 | ⟨c5,c6⟩
  ·simp only [b4,c5,cond_true,cond_false,orK_inl]
   rcases p84P (x := x1) (y := y1) h h1 with ⟨c2,v2,x2,y2,hr2,h2,g2,o2⟩ | ⟨hr2,c2,e,q,he,o2⟩
   rotate_left
   ·have be:(e != 0)=true := bne_iff_ne.2 he
    simp only [o2,hr2,Option.bind_some,Option.bind_none,cond_true,orK_inl,p87_er he,be,cmdZ]
   simp only [o2,hr2,Option.bind_some,orK_inl]
   have hp := hw (m,v1,0,0,⟨#[]⟩,[],0,0,⟨#[]⟩,v2,()) t0
   by_cases hlt:(c2:Int)<(a.length:Int)
   ·have hlt':c2<a.length := by omega
    simp only [p87_ok,if_pos hlt,if_pos hlt',show ((15:Int) != 0)=true from rfl,Option.bind_some,cond_true,orK_inl,cmdZ]
   ·have hlt':¬ c2<a.length := by omega
    simp only [p87_ok,if_neg hlt,if_neg hlt',show ((0:Int) != 0)=false from rfl,cond_false,orK_inl,Option.bind_some,hp]
    cases hwf:wf (m,v1,0,0,⟨#[]⟩,[],0,0,⟨#[]⟩,v2,())
    ·simp only [Bool.not_false,cond_true,Bool.false_eq_true,if_false,cmdZ]
    ·simp only [Bool.not_true,cond_false,if_true]
  ·simp only [b4,c5,c6,cond_true,cond_false,orK_inl]
   rcases p84P (x := x1) (y := y1) h h1 with ⟨c2,v2,x2,y2,hr2,h2,g2,o2⟩ | ⟨hr2,c2,e,q,he,o2⟩
   rotate_left
   ·have be:(e != 0)=true := bne_iff_ne.2 he
    simp only [o2,hr2,Option.bind_some,Option.bind_none,cond_true,orK_inl,p87_er he,be,cmdZ]
   simp only [o2,hr2,Option.bind_some,orK_inl]
   have hp := hw (m,v1,0,0,⟨#[]⟩,[],0,0,⟨#[]⟩,v2,()) t0
   by_cases hlt:(c2:Int)<(a.length:Int)
   ·have hlt':c2<a.length := by omega
    simp only [p87_ok,if_pos hlt,if_pos hlt',show ((15:Int) != 0)=true from rfl,Option.bind_some,cond_true,orK_inl,cmdZ]
   ·have hlt':¬ c2<a.length := by omega
    simp only [p87_ok,if_neg hlt,if_neg hlt',show ((0:Int) != 0)=false from rfl,cond_false,orK_inl,Option.bind_some,hp]
    cases hwf:wf (m,v1,0,0,⟨#[]⟩,[],0,0,⟨#[]⟩,v2,())
    ·simp only [Bool.not_false,cond_true,Bool.false_eq_true,if_false,cmdZ]
    ·simp only [Bool.not_true,cond_false,if_true]
 ·rw [if_neg k5]
  have b5:(m==5)=false := beq_eq_false_iff_ne.2 fun k=>k5 (.inl k)
  have b6:(m==6)=false := beq_eq_false_iff_ne.2 fun k=>k5 (.inr k)
  simp only [b1,b2,b3,b4,b5,b6,cond_false,orK_inl]
  have hp := hw (m,v1,0,0,⟨#[]⟩,[],0,0,⟨#[]⟩,0,()) t0
  by_cases hlt:(c1:Int)<(a.length:Int)
  ·have hlt':c1<a.length := by omega
   simp only [p87_ok,if_pos hlt,if_pos hlt',show ((15:Int) != 0)=true from rfl,Option.bind_some,cond_true,orK_inl,cmdZ]
  ·have hlt':¬ c1<a.length := by omega
   simp only [p87_ok,if_neg hlt,if_neg hlt',show ((0:Int) != 0)=false from rfl,cond_false,orK_inl,Option.bind_some,hp]
   cases hwf:wf (m,v1,0,0,⟨#[]⟩,[],0,0,⟨#[]⟩,0,())
   ·simp only [Bool.not_false,cond_true,Bool.false_eq_true,if_false,cmdZ]
   ·simp only [Bool.not_true,cond_false,if_true]
end
section
variable {fu:Nat}
theorem p74Z {v:Int} (hv:isU v) (hfu:10<fu):p74 fu (((),()),v,())=some (((uB v,()),()),()) := by
 unfold p74
 have ha := uB_len hv
 refine loopO_eq (fun (s:(Int×Unit)×((List Int×Unit)×Unit))=>isU s.1.1∧s.2.1.1.length+(uB s.1.1).length≤140737488355328) (fun s=>(uB s.1.1).length) (fun s=>(((s.2.1.1 ++ uB s.1.1,()),()),())) ?_ fu ((v,()),(([],()),())) ⟨hv,by simp only [List.length_nil]; omega⟩ (Nat.lt_of_le_of_lt (uB_len hv) hfu)
 rintro ⟨⟨f,⟨⟩⟩,⟨⟨h,⟨⟩⟩,⟨⟩⟩⟩ ⟨⟨h0,h1⟩,h2⟩
 dsimp only at h0 h1 h2
 obtain ⟨n,rfl⟩ := Int.eq_ofNat_of_zero_le h0
 have e:uB ((n:Nat):Int)=ub n := rfl
 simp only [e] at h2 ⊢
 by_cases hn:n<128
 ·right
  rw [ub_small hn] at h2 ⊢
  simp only [List.length_singleton] at h2
  have hw:IntKind.wrap .u8 (n:Int)=(n:Int) := wu8 (by omega) (by omega)
  have hl:h.length+1≤maxLen∧(h.length+1) * 1≤140737488355328 := ⟨fits_top h2,by omega⟩
  have hge:¬ ((n:Int)≥128) := by omega
  simp only [hge,hw,hl,List.length_singleton,decide_false,decide_true,eqL_t,cond_false,cond_true,and_self,inrO,Option.map_some]
 ·left
  rw [ub_big hn] at h2 ⊢
  simp only [List.length_cons] at h2
  have hl:h.length+1≤maxLen∧(h.length+1) * 1≤140737488355328 := ⟨fits_top (by omega),by omega⟩
  refine ⟨((((n / 128:Nat):Int),()),((h ++ [((n % 128+128:Nat):Int)],()),())),?_,⟨⟨by dsimp only; omega,by dsimp only; omega⟩,?_⟩,?_,?_⟩
  ·have hge:(n:Int)≥128 := by omega
   simp only [lowP,fdiv7,List.length_singleton,hl,hge,decide_true,eqL_t,cond_true,and_self]
  ·show (h ++ [((n % 128+128:Nat):Int)]).length+(ub (n / 128)).length≤_
   simp only [List.length_append,List.length_singleton]
   omega
  ·show (ub (n / 128)).length<_
   simp
  ·show ((((h ++ [((n % 128+128:Nat):Int)]) ++ ub (n / 128),()),()),())=_
   simp
theorem p73Z {c:Int} (hc:isI c) (hfu:10<fu):p73 fu (((),()),c,())=some (((iB c,()),()),()) := by
 unfold p73
 simp only [zzP hc,p74Z (zz_u hc) hfu,Option.bind_some,eqL_t,cond_true]
 rfl
def sB (s:ByteArray):List Int := uB (s.size:Int) ++ numsOf s
theorem nOf_len (s:ByteArray):(numsOf s).length=s.size := by
 simp [numsOf]
theorem p75_is {a:List Int} {s:ByteArray} (ha:a.length+(sB s).length≤140737488355328) (hfu:10<fu):p75_1 fu ((a,()),s,())=some (((a ++ sB s,()),(),()),()) := by
 unfold sB at ha
 rw [List.length_append,nOf_len] at ha
 unfold p75_1
 have h2:(a ++ uB (s.size:Int)).length+s.size≤140737488355328 := by rw [List.length_append]; omega
 have e2:((a ++ uB (s.size:Int)).length+s.size≤maxLen∧(a ++ uB (s.size:Int)).length+s.size≤140737488355328)=True := eq_true ⟨fits_top h2,h2⟩
 simp only [wu64 (x := (s.size:Int)) (by omega) (by omega),p74_is (isU_len (by omega)) (show a.length+(uB (s.size:Int)).length≤140737488355328 by omega) hfu,Option.bind_some,decide_true,eqL_t,cond_true,e2,sB,List.append_assoc]
theorem p75Z {s:ByteArray} (ha:(sB s).length≤140737488355328) (hfu:10<fu):p75 fu (((),()),s,())=some (((sB s,()),()),()) := by
 unfold sB at ha
 rw [List.length_append,nOf_len] at ha
 unfold p75
 have e2:((uB (s.size:Int)).length+s.size≤maxLen∧(uB (s.size:Int)).length+s.size≤140737488355328)=True := eq_true ⟨fits_top ha,ha⟩
 simp only [wu64 (x := (s.size:Int)) (by omega) (by omega),p74Z (v := (s.size:Int)) (isU_len (by omega)) hfu,Option.bind_some,decide_true,eqL_t,cond_true,e2,sB]
def bB (b:Bool):List Int := [if b then 1 else 0]
theorem p79_is {a:List Int} {b:Bool} (ha:a.length+1≤140737488355328):p79 fu ((a,()),b,())=some (((a ++ bB b,()),(),()),()) := by
 have e:(a.length+1≤maxLen∧(a.length+1) * 1≤140737488355328)=True := eq_true ⟨fits_top ha,by omega⟩
 unfold p79 bB
 cases b <;> simp only [cond_true,cond_false,decide_true,eqL_t,List.length_singleton,e,Bool.false_eq_true,if_false,if_true]
theorem p77_is {a:List Int} (ha:a.length≤140737488355328):p77 fu ((a,()),())=some ((),a) := by
 have e:(a.length≤maxLen∧a.length * 1≤140737488355328)=True := eq_true ⟨fits_top ha,by omega⟩
 unfold p77
 simp only [e,decide_true,eqL_t,cond_true]
def recW (x:Rc):Prop := isU x.1∧isT 32 x.2.1∧((x.2.2.1.length:Int)≤256∧byt x.2.2.1)∧isU x.2.2.2.1∧isU x.2.2.2.2
def prodW (x:Pd):Prop := isU x.1∧isU x.2.1∧isU x.2.2.2
def conW (x:Cs):Prop := isT 32 x.1∧isU x.2
def stW (p:Sta):Prop := isT 32 p.1∧isT 32 p.2.1∧isU p.2.2.1∧isU p.2.2.2.1∧(∀ x ∈ p.2.2.2.2.1,recW x)∧(p.2.2.2.2.1.length:Int)≤4096∧(∀ x ∈ p.2.2.2.2.2.1,prodW x)∧(p.2.2.2.2.2.1.length:Int)≤256∧(∀ x ∈ p.2.2.2.2.2.2.1,conW x)∧(p.2.2.2.2.2.2.1.length:Int)≤64
def recB (x:Rc):List Int := uB x.1 ++ (sB x.2.1 ++ (tB x.2.2.1 ++ (uB x.2.2.2.1 ++ uB x.2.2.2.2)))
def prodB (x:Pd):List Int := uB x.1 ++ (uB x.2.1 ++ (bB x.2.2.1 ++ uB x.2.2.2))
def conB (x:Cs):List Int := sB x.1 ++ uB x.2
def lB {α:Type} (enc:α→List Int) (l:List α):List Int := uB (l.length:Int) ++ l.flatMap enc
def stB (p:Sta):List Int := sB p.1 ++ (sB p.2.1 ++ (uB p.2.2.1 ++ (uB p.2.2.2.1 ++ (lB recB p.2.2.2.2.1 ++ (lB prodB p.2.2.2.2.2.1 ++ lB conB p.2.2.2.2.2.2.1)))))
theorem sB_len {s:ByteArray} (h:isT 32 s):(sB s).length≤42 := by
 unfold isT at h
 unfold sB
 rw [List.length_append,nOf_len]
 have := uB_len (isU_len (n := s.size) (by omega))
 omega
theorem recB_len {x:Rc} (h:recW x):(recB x).length≤400 := by
 obtain ⟨h0,h1,⟨h2,_⟩,h3,h4⟩ := h
 unfold recB tB
 simp only [List.length_append]
 have a0 := uB_len h0
 have a1 := sB_len h1
 have a2 := uB_len (isU_len (n := x.2.2.1.length) (by omega))
 have a3 := uB_len h3
 have a4 := uB_len h4
 omega
theorem prodB_len {x:Pd} (h:prodW x):(prodB x).length≤400 := by
 obtain ⟨h0,h1,h2⟩ := h
 unfold prodB bB
 simp only [List.length_append,List.length_singleton]
 have a0 := uB_len h0
 have a1 := uB_len h1
 have a2 := uB_len h2
 omega
theorem conB_len {x:Cs} (h:conW x):(conB x).length≤400 := by
 obtain ⟨h0,h1⟩ := h
 unfold conB
 simp only [List.length_append]
 have a0 := sB_len h0
 have a1 := uB_len h1
 omega
theorem lB_len {α:Type} {enc:α→List Int} {l:List α} (h:∀ x ∈ l,(enc x).length≤400) (hl:(l.length:Int)≤4096):(lB enc l).length≤2000000 := by
 have hf:(l.flatMap enc).length≤400 * l.length := by
  clear hl
  induction l with
  | nil=>simp
  | cons x l ih =>
   have h1 := h x (by simp)
   have h2 := ih fun y hy=>h y (by simp [hy])
   simp only [List.flatMap_cons,List.length_append,List.length_cons]
   omega
 unfold lB
 rw [List.length_append]
 have := uB_len (isU_len (n := l.length) (by omega))
 omega
theorem p81_is {s t:ByteArray} (hs:isT 32 s) (ht:isT 32 t) (hfu:10<fu):p81 fu (((),()),(s,t,()),())=some (((sB s ++ sB t,()),()),()) := by
 have h1 := sB_len hs
 have h2 := sB_len ht
 unfold p81
 simp only [p75Z (s := s) (by omega) hfu,p75_is (a := sB s) (s := t) (by omega) hfu,Option.bind_some,eqL_t,cond_true]
theorem p129_is {a:List Int} {o:Int} {k:ByteArray} {v:List Int} {p s:Int} (h:recW (o,k,v,p,s)) (ha:a.length+(recB (o,k,v,p,s)).length≤140737488355328) (hfu:10<fu):p129 fu ((a,()),(o,k,v,p,s,()),())=some (((a ++ recB (o,k,v,p,s),()),(),()),()) := by
 obtain ⟨h0,h1,h2,h3,h4⟩ := h
 unfold recB at ha ⊢
 simp only [List.length_append] at ha
 dsimp only at h0 h1 h2 h3 h4 ha ⊢
 unfold p129
 simp only [eqL_t,cond_true]
 rw [p74_is h0 (by omega) hfu]
 simp only [Option.bind_some]
 rw [p75_is (by rw [List.length_append]; omega) hfu]
 simp only [Option.bind_some]
 rw [p76_is (by simp only [List.length_append]; omega) hfu]
 simp only [Option.bind_some]
 rw [p74_is h3 (by simp only [List.length_append]; omega) hfu]
 simp only [Option.bind_some]
 rw [p74_is h4 (by simp only [List.length_append]; omega) hfu]
 simp only [Option.bind_some,List.append_assoc]
theorem wr_loop {α S R:Type} {f:S→Option (S ⊕ R)} (l:List α) (enc:α→List Int) (mk:Nat→List Int→S)
  (hs:∀ k b (h:k<l.length),b.length+(enc l[k]).length≤140737488355328→f (mk k b)=some (.inl (mk (k+1) (b ++ enc l[k])))) :
  ∀ m k b j,k+m=l.length→b.length+((l.drop k).flatMap enc).length≤140737488355328→m<j → ∃ i,loopO j f (mk k b)=loopO (i+1) f (mk l.length (b ++ (l.drop k).flatMap enc))
 | 0,k,b,j,hk,hb,hj=>by
  obtain ⟨j,rfl⟩:∃ i,j=i+1 := ⟨j-1,by omega⟩
  obtain rfl:k=l.length := by omega
  exact ⟨j,by rw [List.drop_length]; simp⟩
 | m+1,k,b,j,hk,hb,hj=>by
  obtain ⟨j,rfl⟩:∃ i,j=i+1 := ⟨j-1,by omega⟩
  have hlt:k<l.length := by omega
  rw [List.drop_eq_getElem_cons hlt,List.flatMap_cons] at hb ⊢
  rw [List.length_append] at hb
  obtain ⟨i,hi⟩ := wr_loop l enc mk hs m (k+1) (b ++ enc l[k]) j (by omega) (by rw [List.length_append]; omega) (by omega)
  refine ⟨i,?_⟩
  rw [← List.append_assoc,← hi]
  simp only [loopO,hs k b hlt (by omega)]
theorem wr_all {α S R:Type} {f:S→Option (S ⊕ R)} {fu:Nat} {o:Option R} {b:List Int} (l:List α) (enc:α→List Int) (mk:Nat→List Int→S) (ho:loopO fu f (mk 0 b)=o)
  (hs:∀ k b (h:k<l.length),b.length+(enc l[k]).length≤140737488355328→f (mk k b)=some (.inl (mk (k+1) (b ++ enc l[k])))) (hb:b.length+(l.flatMap enc).length≤140737488355328) (hf:l.length<fu) :
  ∃ i,o=loopO (i+1) f (mk l.length (b ++ l.flatMap enc)) := by
 subst ho
 exact wr_loop l enc mk hs l.length 0 b fu (by omega) hb hf
theorem getD_at {α:Type} {l:List α} {k:Nat} (h:k<l.length) (d:α):l.getD k d=l[k] := by
 rw [List.getD_eq_getElem?_getD,List.getElem?_eq_getElem h]
 rfl
theorem p80_is {a:List Int} {l:List Rc} (h:∀ x ∈ l,recW x) (hl:(l.length:Int)≤4096) (ha:a.length≤10000000) (hf:4194304<fu):p80 fu ((a,()),l,())=some (((a ++ lB recB l,()),(),()),()) := by
 have hlen := lB_len (enc := recB) (fun x hx=>recB_len (h x hx)) hl
 unfold lB at hlen ⊢
 rw [List.length_append] at hlen
 unfold p80
 simp only [wu64 (x := (l.length:Int)) (by omega) (by omega),p74_is (isU_len (by omega)) (show a.length+(uB (l.length:Int)).length≤140737488355328 by omega) (show 10<fu by omega),Option.bind_some,eqL_t,cond_true]
 generalize hL:loopO fu _ _=o
 obtain ⟨i,hi⟩ := wr_all l recB (fun k b=>(((k:Int),()),((b,()),()))) hL (fun k b hk hb=>by
  have e1:decide ((k:Int)<(l.length:Int))=true := by simp; omega
  have e2:decide ((0:Int)≤(k:Int)∧(k:Int)<(l.length:Int))=true := by simp; omega
  have e3:IntKind.wrap .i64 ((k:Int)+1)=((k+1:Nat):Int) := by rw [wi64 (by omega) (by omega)]; omega
  have hx := h l[k] (List.getElem_mem hk)
  simp only [e1,e2,e3,Int.toNat_natCast,decide_eq_true hk,getD_at hk,cond_true]
  generalize l[k]=x at hx hb ⊢
  obtain ⟨o,y,v,p,s⟩ := x
  dsimp only
  rw [p129_is hx hb (by omega)]
  simp only [Option.bind_some]) (by rw [List.length_append]; omega) (by omega)
 rw [hi]
 simp only [loopO,Int.lt_irrefl,decide_false,cond_false,inrO,Option.map_some,List.append_assoc]
theorem p25_is {p:Sta} (h:stW p) (hf:4194304<fu):p25 fu (p,())=some ((),stB p) := by
 obtain ⟨lo,hi,e,z,l,ps,cs,⟨⟩⟩ := p
 obtain ⟨h0,h1,h2,h3,h4,n4,h5,n5,h6,n6⟩ := h
 dsimp only at h0 h1 h2 h3 h4 n4 h5 n5 h6 n6
 have a0 := sB_len h0
 have a1 := sB_len h1
 have a2 := uB_len h2
 have a3 := uB_len h3
 have a4 := lB_len (enc := recB) (fun x hx=>recB_len (h4 x hx)) n4
 have a5 := lB_len (enc := prodB) (fun x hx=>prodB_len (h5 x hx)) (by omega)
 have a6 := lB_len (enc := conB) (fun x hx=>conB_len (h6 x hx)) (by omega)
 have hfu:10<fu := by omega
 unfold p25 stB
 dsimp only
 have b5 := a5
 have b6 := a6
 unfold lB at b5 b6
 rw [List.length_append] at b5 b6
 simp only [p81_is h0 h1 hfu,Option.bind_some,eqL_t,cond_true]
 rw [p74_is h2 (by simp only [List.length_append]; omega) hfu]
 simp only [Option.bind_some]
 rw [p74_is h3 (by simp only [List.length_append]; omega) hfu]
 simp only [Option.bind_some]
 rw [p80_is h4 n4 (by simp only [List.length_append]; omega) hf]
 simp only [Option.bind_some,wu64 (x := (ps.length:Int)) (by omega) (by omega),wu64 (x := (cs.length:Int)) (by omega) (by omega)]
 rw [p74_is (isU_len (by omega)) (by simp only [List.length_append]; omega) hfu]
 simp only [Option.bind_some]
 generalize hL:loopO fu _ _=o
 obtain ⟨i,hi⟩ := wr_all ps prodB (fun k b=>(((k:Int),()),((b,()),()))) hL (fun k b hk hb=>by
  have e1:decide ((k:Int)<(ps.length:Int))=true := by simp; omega
  have e2:decide ((0:Int)≤(k:Int)∧(k:Int)<(ps.length:Int))=true := by simp; omega
  have e3:IntKind.wrap .i64 ((k:Int)+1)=((k+1:Nat):Int) := by rw [wi64 (by omega) (by omega)]; omega
  obtain ⟨g0,g1,g2⟩ := h5 ps[k] (List.getElem_mem hk)
  unfold prodB bB at hb
  simp only [List.length_append,List.length_singleton] at hb
  simp only [e1,e2,e3,Int.toNat_natCast,decide_eq_true hk,getD_at hk,cond_true]
  rw [p74_is g0 (by omega) hfu]
  simp only [Option.bind_some]
  rw [p74_is g1 (by rw [List.length_append]; omega) hfu]
  simp only [Option.bind_some]
  rw [p79_is (by simp only [List.length_append]; omega)]
  simp only [Option.bind_some]
  rw [p74_is g2 (by simp only [List.length_append,bB,List.length_singleton]; omega) hfu]
  simp only [Option.bind_some,prodB,List.append_assoc]) (by simp only [List.length_append]; omega) (by omega)
 rw [hi]
 simp only [loopO,Int.lt_irrefl,decide_false,cond_false]
 rw [p74_is (isU_len (by omega)) (by simp only [List.length_append]; omega) hfu]
 simp only [Option.bind_some]
 generalize hM:loopO fu _ _=o'
 obtain ⟨i',hi'⟩ := wr_all cs conB (fun k b=>(((k:Int),()),((b,()),()))) hM (fun k b hk hb=>by
  have e1:decide ((k:Int)<(cs.length:Int))=true := by simp; omega
  have e2:decide ((0:Int)≤(k:Int)∧(k:Int)<(cs.length:Int))=true := by simp; omega
  have e3:IntKind.wrap .i64 ((k:Int)+1)=((k+1:Nat):Int) := by rw [wi64 (by omega) (by omega)]; omega
  obtain ⟨g0,g1⟩ := h6 cs[k] (List.getElem_mem hk)
  unfold conB at hb
  rw [List.length_append] at hb
  simp only [e1,e2,e3,Int.toNat_natCast,decide_eq_true hk,getD_at hk,cond_true]
  rw [p75_is (by omega) hfu]
  simp only [Option.bind_some]
  rw [p74_is g1 (by rw [List.length_append]; omega) hfu]
  simp only [Option.bind_some,conB,List.append_assoc]) (by simp only [List.length_append]; omega) (by omega)
 rw [hi']
 simp only [loopO,Int.lt_irrefl,decide_false,cond_false]
 rw [p77_is (by simp only [List.length_append]; omega)]
 simp only [Option.bind_some,inrO,Option.map_some,lB,List.append_assoc]
end
section
variable {fu:Nat}
def cmdW (x:Cmd):Prop := isI x.1∧isU x.2.1∧isU x.2.2.1∧isU x.2.2.2.1∧x.2.2.2.2.1.size≤1048576∧(x.2.2.2.2.2.1.length≤1048576∧byt x.2.2.2.2.2.1)∧isU x.2.2.2.2.2.2.1∧isI x.2.2.2.2.2.2.2.1∧x.2.2.2.2.2.2.2.2.1.size≤1048576∧isU x.2.2.2.2.2.2.2.2.2.1
def cmdF:Cmd→List Int
 | (k,_,pr,sq,key,v,off,most,name,plan,_) =>
  if k=1 then uB pr ++ (uB sq ++ (sB key ++ tB v)) else if k=2 then uB off ++ iB most else if k=3 then uB pr ++ (uB sq ++ (sB name ++ uB off)) else if k=4 then sB name else uB plan
def cmdB (x:Cmd):List Int := if 1≤x.1∧x.1≤6 then iB x.1 ++ (uB x.2.1 ++ cmdF x) else []
theorem sB_len' {s:ByteArray} (h:s.size≤1048576):(sB s).length≤10+s.size := by
 unfold sB
 rw [List.length_append,nOf_len]
 have := uB_len (isU_len (n := s.size) (by omega))
 omega
theorem tB_len' {v:List Int} (h:v.length≤1048576):(tB v).length≤10+v.length := by
 unfold tB
 rw [List.length_append]
 have := uB_len (isU_len (n := v.length) (by omega))
 omega
theorem iB_len {c:Int} (h:isI c):(iB c).length≤10 := uB_len (zz_u h)
theorem p21_is {x:Cmd} (h:cmdW x) (hfu:10<fu):p21 fu (x,())=some ((),cmdB x) := by
 obtain ⟨k,ep,pr,sq,key,v,off,most,name,plan,⟨⟩⟩ := x
 obtain ⟨g0,g1,g2,g3,g4,⟨g5,_⟩,g6,g7,g8,g9⟩ := h
 dsimp only at g0 g1 g2 g3 g4 g5 g6 g7 g8 g9
 have a0 := iB_len g0
 have a1 := uB_len g1
 have a2 := uB_len g2
 have a3 := uB_len g3
 have a4 := sB_len' g4
 have a5 := tB_len' g5
 have a6 := uB_len g6
 have a7 := iB_len g7
 have a8 := sB_len' g8
 have a9 := uB_len g9
 unfold p21 cmdB cmdF
 simp only [p73Z g0 hfu,Option.bind_some,eqL_t,cond_true]
 rw [p74_is g1 (by omega) hfu]
 simp only [Option.bind_some]
 by_cases k1:k=1
 ·subst k1
  simp only [show ((1:Int)==1)=true from rfl,cond_true]
  rw [p74_is g2 (by simp only [List.length_append]; omega) hfu]
  simp only [Option.bind_some]
  rw [p74_is g3 (by simp only [List.length_append]; omega) hfu]
  simp only [Option.bind_some]
  rw [p75_is (by simp only [List.length_append]; omega) hfu]
  simp only [Option.bind_some]
  rw [p76_is (by simp only [List.length_append]; omega) hfu]
  simp only [Option.bind_some]
  rw [p77_is (by simp only [List.length_append]; omega)]
  simp only [Option.bind_some,List.append_assoc]
  rfl
 have b1:(k==1)=false := beq_eq_false_iff_ne.2 k1
 by_cases k2:k=2
 ·subst k2
  simp only [show ((2:Int)==1)=false from rfl,show ((2:Int)==2)=true from rfl,cond_true,cond_false]
  rw [p74_is g6 (by simp only [List.length_append]; omega) hfu]
  simp only [Option.bind_some]
  rw [p73_is g7 (by simp only [List.length_append]; omega) hfu]
  simp only [Option.bind_some]
  rw [p77_is (by simp only [List.length_append]; omega)]
  simp only [Option.bind_some,List.append_assoc]
  rfl
 have b2:(k==2)=false := beq_eq_false_iff_ne.2 k2
 by_cases k3:k=3
 ·subst k3
  simp only [show ((3:Int)==1)=false from rfl,show ((3:Int)==2)=false from rfl,show ((3:Int)==3)=true from rfl,cond_true,cond_false]
  rw [p74_is g2 (by simp only [List.length_append]; omega) hfu]
  simp only [Option.bind_some]
  rw [p74_is g3 (by simp only [List.length_append]; omega) hfu]
  simp only [Option.bind_some]
  rw [p75_is (by simp only [List.length_append]; omega) hfu]
  simp only [Option.bind_some]
  rw [p74_is g6 (by simp only [List.length_append]; omega) hfu]
  simp only [Option.bind_some]
  rw [p77_is (by simp only [List.length_append]; omega)]
  simp only [Option.bind_some,List.append_assoc]
  rfl
 have b3:(k==3)=false := beq_eq_false_iff_ne.2 k3
 by_cases k4:k=4
 ·subst k4
  simp only [show ((4:Int)==1)=false from rfl,show ((4:Int)==2)=false from rfl,show ((4:Int)==3)=false from rfl,show ((4:Int)==4)=true from rfl,cond_true,cond_false]
  rw [p75_is (by simp only [List.length_append]; omega) hfu]
  simp only [Option.bind_some]
  rw [p77_is (by simp only [List.length_append]; omega)]
  simp only [Option.bind_some,List.append_assoc]
  rfl
 have b4:(k==4)=false := beq_eq_false_iff_ne.2 k4
 by_cases k5:k=5
 ·subst k5
  simp only [show ((5:Int)==1)=false from rfl,show ((5:Int)==2)=false from rfl,show ((5:Int)==3)=false from rfl,show ((5:Int)==4)=false from rfl,show ((5:Int)==5)=true from rfl,cond_true,cond_false,orK_inl]
  rw [p74_is g9 (by simp only [List.length_append]; omega) hfu]
  simp only [Option.bind_some]
  rw [p77_is (by simp only [List.length_append]; omega)]
  simp only [Option.bind_some,List.append_assoc]
  rfl
 have b5:(k==5)=false := beq_eq_false_iff_ne.2 k5
 by_cases k6:k=6
 ·subst k6
  simp only [show ((6:Int)==1)=false from rfl,show ((6:Int)==2)=false from rfl,show ((6:Int)==3)=false from rfl,show ((6:Int)==4)=false from rfl,show ((6:Int)==5)=false from rfl,show ((6:Int)==6)=true from rfl,cond_true,cond_false,orK_inl]
  rw [p74_is g9 (by simp only [List.length_append]; omega) hfu]
  simp only [Option.bind_some]
  rw [p77_is (by simp only [List.length_append]; omega)]
  simp only [Option.bind_some,List.append_assoc]
  rfl
 have b6:(k==6)=false := beq_eq_false_iff_ne.2 k6
 have hk:¬ (1≤k∧k≤6) := by omega
 simp only [b1,b2,b3,b4,b5,b6,cond_false,orK_inl,if_neg hk]
end
section
variable {fu:Nat}
theorem drop_next {a w t:List Int} {c:Nat} (h:a.drop c=w ++ t):a.drop (c+w.length)=t := by rw [← List.drop_drop,h,List.drop_left]
theorem drop_left' {a w t:List Int} {c:Nat} (h:a.drop c=w ++ t):t.length=a.length-(c+w.length) := by
 rw [← drop_next h,List.length_drop]
theorem uS_at {a t:List Int} {c:Nat} {v:Int} (hv:isU v) (h:a.drop c=uB v ++ t):uS a c=some (c+(uB v).length,v) := by
 obtain ⟨n,rfl⟩ := Int.eq_ofNat_of_zero_le hv.1
 have hn := hv.2
 have e := numS_ub (n+1) n 0 0 t (Nat.lt_succ_self n) (fun h=>absurd h (Nat.lt_irrefl 0)) (by omega) (by decide) (by simp only [Nat.pow_zero,Nat.mul_one,Nat.zero_add]; omega)
 simp only [Nat.pow_zero,Nat.mul_one,Nat.zero_add] at e
 unfold uS
 rw [h,show uB ((n:Nat):Int)=ub n from rfl,e,if_pos rfl]
 rfl
theorem iS_at {a t:List Int} {c:Nat} {v:Int} (hv:isI v) (h:a.drop c=iB v ++ t):iS a c=some (c+(iB v).length,v) := by
 unfold iS
 rw [uS_at (zz_u hv) h,Option.bind_some,unzz_zz]
 rfl
theorem cntS_at {a t:List Int} {c n:Nat} {m:Int} (h:a.drop c=uB (n:Int) ++ t) (hn:n≤140737488355328) (hm:(n:Int)≤m) (ht:n≤t.length):cntS m a c=some (c+(uB (n:Int)).length,(n:Int)) := by
 have hl := drop_left' h
 unfold cntS
 rw [uS_at (isU_len hn) h,Option.bind_some,if_neg (by dsimp only; omega)]
theorem bytS_at {a t d:List Int} {c:Nat} {m:Int} (h:a.drop c=tB d ++ t) (hd:d.length≤140737488355328) (hm:(d.length:Int)≤m):bytS m a c=some (c+(tB d).length,d) := by
 unfold tB at h ⊢
 rw [List.append_assoc] at h
 unfold bytS
 rw [cntS_at h hd hm (by rw [List.length_append]; omega),Option.bind_some]
 dsimp only
 rw [drop_next h,Int.toNat_natCast,List.take_left,List.length_append,Nat.add_assoc]
theorem bytS_no {a t d:List Int} {c:Nat} {m:Int} (h:a.drop c=tB d ++ t) (hd:d.length≤140737488355328) (hm:¬ (d.length:Int)≤m):bytS m a c=none := by
 unfold tB at h
 rw [List.append_assoc] at h
 unfold bytS cntS
 rw [uS_at (isU_len hd) h,Option.bind_some,if_pos (by dsimp only; omega)]
 rfl
theorem sB_tB (s:ByteArray):sB s=tB (numsOf s) := by
 unfold sB tB
 rw [nOf_len]
theorem strOf_nOf (s:ByteArray):strOfNums (numsOf s)=s := by
 obtain ⟨⟨l⟩⟩ := s
 show (⟨((l.map fun b=>((b.toNat:Nat):Int)).map fun n=>UInt8.ofNat n.toNat).toArray⟩:ByteArray)=⟨⟨l⟩⟩
 rw [List.map_map]
 have:l.map ((fun n:Int=>UInt8.ofNat n.toNat) ∘ fun b:UInt8=>((b.toNat:Nat):Int))=l := by
  rw [List.map_congr_left (g := id) (fun b _=>by simp),List.map_id]
 rw [this]
theorem strS_at {a t:List Int} {s:ByteArray} {c:Nat} {m:Int} (h:a.drop c=sB s ++ t) (hd:s.size≤140737488355328) (hm:(s.size:Int)≤m):strS m a c=some (c+(sB s).length,s) := by
 rw [sB_tB] at h ⊢
 unfold strS
 rw [bytS_at h (by rw [nOf_len]; exact hd) (by rw [nOf_len]; exact hm),Option.bind_some]
 dsimp only
 rw [strOf_nOf]
theorem strS_no {a t:List Int} {s:ByteArray} {c:Nat} {m:Int} (h:a.drop c=sB s ++ t) (hd:s.size≤140737488355328) (hm:¬ (s.size:Int)≤m):strS m a c=none := by
 rw [sB_tB] at h
 unfold strS
 rw [bytS_no h (by rw [nOf_len]; exact hd) (by rw [nOf_len]; exact hm)]
 rfl
theorem boolS_at {a t:List Int} {b:Bool} {c:Nat} (h:a.drop c=bB b ++ t):boolS a c=some (c+(bB b).length,b) := by
 have hl := congrArg List.length h
 simp only [bB,List.length_drop,List.length_append,List.length_singleton] at hl
 have hg:a.getD c 0=if b then 1 else 0 := by
  rw [List.getD_eq_getElem?_getD]
  have := congrArg (fun l=>l[0]?) h
  simp only [List.getElem?_drop,bB,List.singleton_append,List.getElem?_cons_zero,Nat.add_zero] at this
  rw [this]
  rfl
 unfold boolS
 rw [hg,if_pos (by constructor; omega; cases b <;> decide)]
 cases b <;> rfl
theorem rec_at {a t:List Int} {c:Nat} {x:Rc} (hx:recW x) (h:a.drop c=recB x ++ t):recS a c=some (c+(recB x).length,x) := by
 obtain ⟨h0,h1,⟨h2,h2'⟩,h3,h4⟩ := hx
 unfold recB at h ⊢
 simp only [List.append_assoc] at h
 unfold isT at h1
 have d1 := drop_next h
 have d2 := drop_next d1
 have d3 := drop_next d2
 have d4 := drop_next d3
 unfold recS
 simp only [uS_at h0 h,strS_at d1 (by omega) h1,bytS_at d2 (by omega) h2,uS_at h3 d3,uS_at h4 d4,Option.bind_some]
 simp only [List.length_append,Nat.add_assoc]
theorem prod_at {a t:List Int} {c:Nat} {x:Pd} (hx:prodW x) (h:a.drop c=prodB x ++ t):prodS a c=some (c+(prodB x).length,x) := by
 obtain ⟨h0,h1,h2⟩ := hx
 unfold prodB at h ⊢
 simp only [List.append_assoc] at h
 have d1 := drop_next h
 have d2 := drop_next d1
 have d3 := drop_next d2
 unfold prodS
 simp only [uS_at h0 h,uS_at h1 d1,boolS_at d2,uS_at h2 d3,Option.bind_some]
 simp only [List.length_append,Nat.add_assoc]
theorem con_at {a t:List Int} {c:Nat} {x:Cs} (hx:conW x) (h:a.drop c=conB x ++ t):conS a c=some (c+(conB x).length,x) := by
 obtain ⟨h0,h1⟩ := hx
 unfold conB at h ⊢
 simp only [List.append_assoc] at h
 unfold isT at h0
 have d1 := drop_next h
 unfold conS
 simp only [strS_at h (by omega) h0,uS_at h1 d1,Option.bind_some]
 simp only [List.length_append,Nat.add_assoc]
theorem rep_at {α:Type} {S:List Int→Nat→Option (Nat×α)} {enc:α→List Int} {W:α→Prop} (hS:∀ a t c x,W x→a.drop c=enc x ++ t→S a c=some (c+(enc x).length,x)) :
  ∀ (l s:List α) (a t:List Int) (c:Nat),(∀ x ∈ l,W x)→a.drop c=l.flatMap enc ++ t→repS S a l.length s c=some (c+(l.flatMap enc).length,s ++ l)
 | [],s,a,t,c,_,h=>by simp [repS]
 | x :: l,s,a,t,c,hw,h=>by
  rw [List.flatMap_cons,List.append_assoc] at h
  simp only [repS,List.length_cons,hS a _ c x (hw x (by simp)) h,Option.bind_some]
  rw [rep_at hS l (s ++ [x]) a t _ (fun y hy=>hw y (by simp [hy])) (drop_next h),List.flatMap_cons,List.length_append,Nat.add_assoc,List.append_assoc]
  rfl
theorem flat_ge {α:Type} {enc:α→List Int} (he:∀ x,1≤(enc x).length) (l:List α):l.length≤(l.flatMap enc).length := by
 induction l with
 | nil=>simp
 | cons x l ih =>
  have := he x
  rw [List.flatMap_cons,List.length_append,List.length_cons]
  omega
theorem list_at {α:Type} {S:List Int→Nat→Option (Nat×α)} {enc:α→List Int} {W:α→Prop} (hS:∀ a t c x,W x→a.drop c=enc x ++ t→S a c=some (c+(enc x).length,x)) (he:∀ x,1≤(enc x).length)
  {l:List α} {a t:List Int} {c:Nat} {m:Int} (hw:∀ x ∈ l,W x) (hm:(l.length:Int)≤m) (hl:l.length≤140737488355328) (h:a.drop c=lB enc l ++ t):listS S m a c=some (c+(lB enc l).length,l) := by
 unfold lB at h ⊢
 rw [List.append_assoc] at h
 have hg := flat_ge he l
 unfold listS
 rw [cntS_at h hl hm (by rw [List.length_append]; omega),Option.bind_some,Int.toNat_natCast]
 rw [rep_at hS l [] a t _ hw (drop_next h),List.length_append,Nat.add_assoc]
 rfl
theorem ub_pos' (n:Nat):1≤(ub n).length := by
 by_cases h:n<128
 ·rw [ub_small h]
  simp
 ·rw [ub_big h]
  simp
theorem recB_pos (x:Rc):1≤(recB x).length := by
 unfold recB
 rw [List.length_append]
 have:1≤(uB x.1).length := ub_pos' _
 omega
theorem prodB_pos (x:Pd):1≤(prodB x).length := by
 unfold prodB
 rw [List.length_append]
 have:1≤(uB x.1).length := ub_pos' _
 omega
theorem conB_pos (x:Cs):1≤(conB x).length := by
 unfold conB
 rw [List.length_append]
 have:1≤(uB x.2).length := ub_pos' _
 omega
theorem part_at {p:Sta} (h:stW p):partR (stB p)=some ((stB p).length,p) := by
 obtain ⟨lo,hi,e,z,l,ps,cs,⟨⟩⟩ := p
 obtain ⟨h0,h1,h2,h3,h4,n4,h5,n5,h6,n6⟩ := h
 dsimp only at h0 h1 h2 h3 h4 n4 h5 n5 h6 n6
 unfold isT at h0 h1
 have d0:(stB (lo,hi,e,z,l,ps,cs,())).drop 0=sB lo ++ (sB hi ++ (uB e ++ (uB z ++ (lB recB l ++ (lB prodB ps ++ (lB conB cs ++ [])))))) := by
  rw [List.append_nil]
  rfl
 have d1 := drop_next d0
 have d2 := drop_next d1
 have d3 := drop_next d2
 have d4 := drop_next d3
 have d5 := drop_next d4
 have d6 := drop_next d5
 have hl:(stB (lo,hi,e,z,l,ps,cs,())).length=0+(sB lo).length+(sB hi).length+(uB e).length+(uB z).length+(lB recB l).length+(lB prodB ps).length+(lB conB cs).length := by
  unfold stB
  simp only [List.length_append]
  omega
 unfold partR rngS
 simp only [strS_at d0 (by omega) h0,strS_at d1 (by omega) h1,uS_at h2 d2,uS_at h3 d3,list_at (fun a t c x=>rec_at) recB_pos h4 n4 (by omega) d4,list_at (fun a t c x=>prod_at) prodB_pos h5 n5 (by omega) d5,list_at (fun a t c x=>con_at) conB_pos h6 n6 (by omega) d6,Option.bind_some,hl]
end
section
variable {fu:Nat}
def Cz {α:Type} (S:List Int→Nat→Option (Nat×α)) (enc:α→List Int) (W:α→Prop):Prop :=
 ∀ (a:List Int) (c c':Nat) (v:α),byt a→S a c=some (c',v)→W v∧a.drop c=enc v ++ a.drop c'
theorem byt_drop {a:List Int} (h:byt a) (c:Nat):byt (a.drop c) := fun x hx=>h x (List.mem_of_mem_drop hx)
theorem Cn_u:Cz uS uB isU := by
 intro a c c' v hb h
 unfold uS at h
 split at h
 ·rename_i h0
  injection h with h
  injection h with h1 h2
  have hnum:numS 0 0 (a.drop c)=((numS 0 0 (a.drop c)).1,(numS 0 0 (a.drop c)).2.1,0) := by rw [← h0]
  have hu := numS_u (a.drop c) 0 0 _ _ (byt_drop hb c) (by omega) (by decide) hnum
  obtain ⟨w,m,e1,e2,e3,_⟩ := numS_canon (a.drop c) 0 0 (numS 0 0 (a.drop c)).1 (numS 0 0 (a.drop c)).2.1 (byt_drop hb c) hnum
  rw [h2] at hu
  rw [e2] at h1
  rw [e1] at h2
  simp only [Nat.pow_zero,Nat.mul_one,Nat.zero_add,Int.toNat_natCast] at h1 h2
  subst h1 h2
  refine ⟨hu,?_⟩
  show _=ub w ++ _
  rw [← e3,← List.drop_drop,List.take_append_drop]
 ·cases h
theorem Cn_i:Cz iS iB isI := by
 intro a c c' v hb h
 unfold iS at h
 obtain ⟨⟨c0,v0⟩,e0,h⟩ := Option.bind_eq_some_iff.1 h
 injection h with h
 injection h with h1 h2
 subst h1 h2
 obtain ⟨g,e⟩ := Cn_u a c c0 v0 hb e0
 refine ⟨unzz_i g,?_⟩
 unfold iB
 dsimp only
 rw [zz_unzz g]
 exact e
theorem Cn_b {m:Int}:Cz (bytS m) tB fun l=>(l.length:Int)≤m∧byt l := by
 intro a c c' v hb h
 unfold bytS cntS at h
 obtain ⟨⟨c0,v0⟩,e0,h⟩ := Option.bind_eq_some_iff.1 h
 obtain ⟨⟨c1,v1⟩,e1,h1⟩ := Option.bind_eq_some_iff.1 e0
 injection h with h
 injection h with h2 h3
 dsimp only at h1 h2 h3
 split at h1
 ·cases h1
 ·rename_i hc
  injection h1 with h1
  injection h1 with h4 h5
  subst h4 h5 h2 h3
  obtain ⟨g,e⟩ := Cn_u a c c1 v1 hb e1
  obtain ⟨n,rfl⟩ := Int.eq_ofNat_of_zero_le g.1
  have hl:((a.drop c1).take (Int.toNat (n:Int))).length=n := by
   rw [Int.toNat_natCast,List.length_take,List.length_drop]
   omega
  refine ⟨⟨by rw [hl]; omega,fun x hx=>hb x (List.mem_of_mem_drop (List.mem_of_mem_take hx))⟩,?_⟩
  unfold tB
  rw [hl,List.append_assoc,← List.drop_drop,List.take_append_drop]
  exact e
theorem nOf_strOf {l:List Int} (h:byt l):numsOf (strOfNums l)=l := by
 show ((l.map fun n=>UInt8.ofNat n.toNat).toArray.toList.map fun b=>((b.toNat:Nat):Int))=l
 rw [List.toList_toArray,List.map_map]
 have:l.map ((fun b:UInt8=>((b.toNat:Nat):Int)) ∘ fun n:Int=>UInt8.ofNat n.toNat)=l := by
  rw [List.map_congr_left (g := id) (fun b hb=>by
   have := h b hb
   simp only [Function.comp,UInt8.toNat_ofNat',id]
   omega),List.map_id]
 exact this
theorem Cn_s {m:Int}:Cz (strS m) sB (isT m) := by
 intro a c c' v hb h
 unfold strS at h
 obtain ⟨⟨c0,v0⟩,e0,h⟩ := Option.bind_eq_some_iff.1 h
 injection h with h
 injection h with h1 h2
 subst h1 h2
 obtain ⟨⟨g1,g2⟩,e⟩ := Cn_b a c c0 v0 hb e0
 refine ⟨by unfold isT; rw [strOf_size]; exact g1,?_⟩
 rw [sB_tB,nOf_strOf g2]
 exact e
theorem Cn_o:Cz boolS bB fun _=>True := by
 intro a c c' v hb h
 unfold boolS at h
 split at h
 ·rename_i hc
  injection h with h
  injection h with h1 h2
  subst h1 h2
  refine ⟨trivial,?_⟩
  obtain ⟨hc1,h2⟩ := hc
  have hg:a.getD c 0=a[c] := getD_at hc1 0
  have h1 := hb a[c] (List.getElem_mem hc1)
  rw [hg] at h2 ⊢
  rw [List.drop_eq_getElem_cons hc1]
  unfold bB
  have h3:a[c]=0 ∨ a[c]=1 := by omega
  rcases h3 with h3 | h3 <;> rw [h3] <;> rfl
 ·cases h
theorem Cn_rec:Cz recS recB recW := by
 intro a c c' v hb h
 unfold recS at h
 obtain ⟨⟨c0,v0⟩,e0,h⟩ := Option.bind_eq_some_iff.1 h
 obtain ⟨⟨c1,v1⟩,e1,h⟩ := Option.bind_eq_some_iff.1 h
 obtain ⟨⟨c2,v2⟩,e2,h⟩ := Option.bind_eq_some_iff.1 h
 obtain ⟨⟨c3,v3⟩,e3,h⟩ := Option.bind_eq_some_iff.1 h
 obtain ⟨⟨c4,v4⟩,e4,h⟩ := Option.bind_eq_some_iff.1 h
 injection h with h
 injection h with h1 h2
 subst h1 h2
 obtain ⟨g0,d0⟩ := Cn_u _ _ _ _ hb e0
 obtain ⟨g1,d1⟩ := Cn_s _ _ _ _ hb e1
 obtain ⟨g2,d2⟩ := Cn_b _ _ _ _ hb e2
 obtain ⟨g3,d3⟩ := Cn_u _ _ _ _ hb e3
 obtain ⟨g4,d4⟩ := Cn_u _ _ _ _ hb e4
 dsimp only at d1 d2 d3 d4
 exact ⟨⟨g0,g1,g2,g3,g4⟩,by rw [d0,d1,d2,d3,d4]; simp only [recB,List.append_assoc]⟩
theorem Cn_prod:Cz prodS prodB prodW := by
 intro a c c' v hb h
 unfold prodS at h
 obtain ⟨⟨c0,v0⟩,e0,h⟩ := Option.bind_eq_some_iff.1 h
 obtain ⟨⟨c1,v1⟩,e1,h⟩ := Option.bind_eq_some_iff.1 h
 obtain ⟨⟨c2,v2⟩,e2,h⟩ := Option.bind_eq_some_iff.1 h
 obtain ⟨⟨c3,v3⟩,e3,h⟩ := Option.bind_eq_some_iff.1 h
 injection h with h
 injection h with h1 h2
 subst h1 h2
 obtain ⟨g0,d0⟩ := Cn_u _ _ _ _ hb e0
 obtain ⟨g1,d1⟩ := Cn_u _ _ _ _ hb e1
 obtain ⟨_,d2⟩ := Cn_o _ _ _ _ hb e2
 obtain ⟨g3,d3⟩ := Cn_u _ _ _ _ hb e3
 dsimp only at d1 d2 d3
 exact ⟨⟨g0,g1,g3⟩,by rw [d0,d1,d2,d3]; simp only [prodB,List.append_assoc]⟩
theorem Cn_con:Cz conS conB conW := by
 intro a c c' v hb h
 unfold conS at h
 obtain ⟨⟨c0,v0⟩,e0,h⟩ := Option.bind_eq_some_iff.1 h
 obtain ⟨⟨c1,v1⟩,e1,h⟩ := Option.bind_eq_some_iff.1 h
 injection h with h
 injection h with h1 h2
 subst h1 h2
 obtain ⟨g0,d0⟩ := Cn_s _ _ _ _ hb e0
 obtain ⟨g1,d1⟩ := Cn_u _ _ _ _ hb e1
 dsimp only at d1
 exact ⟨⟨g0,g1⟩,by rw [d0,d1]; simp only [conB,List.append_assoc]⟩
theorem Cn_rep {α:Type} {S:List Int→Nat→Option (Nat×α)} {enc:α→List Int} {W:α→Prop} (hS:Cz S enc W):∀ (n:Nat) (s:List α) (a:List Int) (c c':Nat) (l:List α),byt a→repS S a n s c=some (c',l) →
  ∃ t:List α,l=s ++ t∧t.length=n∧(∀ x ∈ t,W x)∧a.drop c=t.flatMap enc ++ a.drop c'
 | 0,s,a,c,c',l,_,h=>by
  injection h with h
  injection h with h1 h2
  subst h1 h2
  exact ⟨[],by simp,rfl,fun x hx=>by simp at hx,by simp⟩
 | n+1,s,a,c,c',l,hb,h=>by
  obtain ⟨⟨c0,v0⟩,e0,h⟩ := Option.bind_eq_some_iff.1 h
  obtain ⟨g,d⟩ := hS _ _ _ _ hb e0
  obtain ⟨t,h1,h2,h3,h4⟩ := Cn_rep hS n (s ++ [v0]) a c0 c' l hb h
  refine ⟨v0 :: t,by rw [h1]; simp,by rw [List.length_cons,h2],fun x hx => ?_,by rw [d,h4,List.flatMap_cons,List.append_assoc]⟩
  rcases List.mem_cons.1 hx with rfl | hx
  ·exact g
  ·exact h3 x hx
theorem Cn_list {α:Type} {S:List Int→Nat→Option (Nat×α)} {enc:α→List Int} {W:α→Prop} {m:Int} (hS:Cz S enc W):Cz (listS S m) (lB enc) fun l=>(∀ x ∈ l,W x)∧(l.length:Int)≤m := by
 intro a c c' l hb h
 unfold listS cntS at h
 obtain ⟨⟨c0,v0⟩,e0,h⟩ := Option.bind_eq_some_iff.1 h
 obtain ⟨⟨c1,v1⟩,e1,h1⟩ := Option.bind_eq_some_iff.1 e0
 dsimp only at h h1
 split at h1
 ·cases h1
 ·rename_i hc
  injection h1 with h1
  injection h1 with h4 h5
  subst h4 h5
  obtain ⟨g,e⟩ := Cn_u a c c1 v1 hb e1
  obtain ⟨n,rfl⟩ := Int.eq_ofNat_of_zero_le g.1
  obtain ⟨t,e2,e3,e4,e5⟩ := Cn_rep hS _ _ _ _ _ _ hb h
  rw [List.nil_append] at e2
  subst e2
  rw [Int.toNat_natCast] at e3
  refine ⟨⟨e4,by omega⟩,?_⟩
  rw [e,e5]
  unfold lB
  rw [e3,List.append_assoc]
theorem part_canon {a:List Int} {c:Nat} {p:Sta} (hb:byt a) (h:partR a=some (c,p)):stW p∧a=stB p ++ a.drop c := by
 unfold partR rngS at h
 obtain ⟨⟨c0,v0⟩,e0,h⟩ := Option.bind_eq_some_iff.1 h
 obtain ⟨⟨c1,v1⟩,e1,h⟩ := Option.bind_eq_some_iff.1 h
 obtain ⟨⟨c2,v2⟩,e2,h⟩ := Option.bind_eq_some_iff.1 h
 obtain ⟨⟨c3,v3⟩,e3,h⟩ := Option.bind_eq_some_iff.1 h
 obtain ⟨⟨c4,v4⟩,e4,h⟩ := Option.bind_eq_some_iff.1 h
 obtain ⟨⟨c5,v5⟩,e5,h⟩ := Option.bind_eq_some_iff.1 h
 obtain ⟨⟨c6,v6⟩,e6,h6⟩ := Option.bind_eq_some_iff.1 e0
 obtain ⟨⟨c7,v7⟩,e7,h7⟩ := Option.bind_eq_some_iff.1 h6
 injection h7 with h7
 injection h7 with k1 k2
 subst k1 k2
 injection h with h
 injection h with h1 h2
 subst h1 h2
 obtain ⟨g6,d6⟩ := Cn_s _ _ _ _ hb e6
 obtain ⟨g7,d7⟩ := Cn_s _ _ _ _ hb e7
 obtain ⟨g1,d1⟩ := Cn_u _ _ _ _ hb e1
 obtain ⟨g2,d2⟩ := Cn_u _ _ _ _ hb e2
 obtain ⟨g3,d3⟩ := Cn_list Cn_rec _ _ _ _ hb e3
 obtain ⟨g4,d4⟩ := Cn_list Cn_prod _ _ _ _ hb e4
 obtain ⟨g5,d5⟩ := Cn_list Cn_con _ _ _ _ hb e5
 dsimp only at d1 d2 d3 d4 d5 d7
 refine ⟨⟨g6,g7,g1,g2,g3.1,g3.2,g4.1,g4.2,g5.1,g5.2⟩,?_⟩
 have d:a=a.drop 0 := rfl
 have d':a=sB v6 ++ (sB v7 ++ (uB v1 ++ (uB v2 ++ (lB recB v3 ++ (lB prodB v4 ++ (lB conB v5 ++ a.drop c5)))))) := by
  rw [← d5,← d4,← d3,← d2,← d1,← d7,← d6]
  rfl
 simp only [stB,List.append_assoc]
 exact d'
end
section
variable {fu:Nat}
def inW (p:Sta):Prop := isU p.2.2.1∧isU p.2.2.2.1∧(∀ x ∈ p.2.2.2.2.1,isU x.1∧byt x.2.2.1∧isU x.2.2.2.1∧isU x.2.2.2.2)∧(∀ x ∈ p.2.2.2.2.2.1,prodW x) ∧ ∀ x ∈ p.2.2.2.2.2.2.1,isU x.2
theorem nameB_size {s:ByteArray} (h:nameB s=true):s.size≤32 := by
 unfold nameB at h
 cases hq:(numsOf s).any qb with
 | true=>rw [hq] at h; cases h
 | false =>
  rw [hq] at h
  have := of_decide_eq_true h
  omega
theorem chk_stW {p:Sta} (hp:inW p) (h:chkS p=true):stW p := by
 obtain ⟨lo,hi,e,z,l,ps,cs,⟨⟩⟩ := p
 obtain ⟨p0,p1,p2,p3,p4⟩ := hp
 unfold chkS at h
 simp only [Bool.and_eq_true] at h
 obtain ⟨h0,_,h2,h3,h4,_⟩ := h
 have hB:lo.size≤32∧hi.size≤32 := by
  unfold chkB at h0
  by_cases a1:(lo.size:Int)≤32
  ·by_cases a2:(hi.size:Int)≤32
   ·omega
   ·simp only [decide_eq_true a1,decide_eq_false a2,Bool.not_true,Bool.not_false,cond_true,cond_false] at h0
    cases h0
  ·simp only [decide_eq_false a1,Bool.not_false,cond_true] at h0
   cases h0
 have hL:(∀ x ∈ l,x.2.1.size≤32∧x.2.2.1.length≤256)∧l.length≤4096 := by
  unfold logOk at h2
  cases hq:(List.range l.length).any (wrong l) with
  | true=>rw [hq] at h2; cases h2
  | false =>
   rw [hq] at h2
   refine ⟨fun x hx => ?_,of_decide_eq_true h2⟩
   obtain ⟨i,hi,rfl⟩ := List.mem_iff_getElem.1 hx
   have := List.any_eq_false.1 hq i (List.mem_range.2 hi)
   unfold wrong at this
   rw [getD_at hi] at this
   cases b1:(l[i].1 != (i:Int)) with
   | true=>rw [b1] at this; exact absurd rfl this
   | false =>
    rw [b1,cond_false] at this
    by_cases b2:l[i].2.1.size>32
    ·rw [decide_eq_true b2] at this; exact absurd rfl this
    ·rw [decide_eq_false b2,cond_false] at this
     have b3:¬ l[i].2.2.1.length>256 := fun k=>this (decide_eq_true k)
     omega
 have hP:ps.length≤256 := by
  unfold tabI at h3
  exact of_decide_eq_true (Bool.and_eq_true_iff.1 h3).2
 have hC:(∀ x ∈ cs,x.1.size≤32)∧cs.length≤64 := by
  unfold okC at h4
  cases hq:(List.range cs.length).any (bad cs) with
  | true=>rw [hq] at h4; cases h4
  | false =>
   rw [hq] at h4
   refine ⟨fun x hx => ?_,of_decide_eq_true h4⟩
   obtain ⟨i,hi,rfl⟩ := List.mem_iff_getElem.1 hx
   have := List.any_eq_false.1 hq i (List.mem_range.2 hi)
   unfold bad at this
   rw [getD_at hi] at this
   cases b1:nameB cs[i].1 with
   | false=>rw [b1] at this; exact absurd rfl this
   | true=>exact nameB_size b1
 unfold stW isT
 exact ⟨by dsimp only; omega,by dsimp only; omega,p0,p1,fun x hx=>⟨(p2 x hx).1,by unfold isT; have := (hL.1 x hx).1; omega,⟨by have := (hL.1 x hx).2; omega,(p2 x hx).2.1⟩,(p2 x hx).2.2⟩,by dsimp only; omega,p3,by dsimp only; omega,fun x hx=>⟨by unfold isT; have := hC.1 x hx; omega,p4 x hx⟩,by dsimp only; omega⟩
def chkI (p:Sta):Int := bif chkS p then 0 else 165
theorem chkI_0 {p:Sta}:chkI p=0 ↔ chkS p=true := by
 unfold chkI
 cases chkS p <;> simp
theorem p10_st {p:Sta} (h:stW p) (hf:4194304<fu):p10 fu (p,())=some ((),chkI p) := by
 obtain ⟨lo,hi,e,z,l,ps,cs,⟨⟩⟩ := p
 obtain ⟨h0,h1,h2,h3,h4,n4,h5,n5,h6,n6⟩ := h
 dsimp only at h0 h1 h2 h3 h4 n4 h5 n5 h6 n6
 refine p10_is _ ⟨by omega,by omega,⟨by omega,fun x hx => ?_⟩,fun x hx => ?_⟩ hf
 ·obtain ⟨g0,g1,g2⟩ := h6 x hx
  unfold isT at g0
  exact ⟨by omega,g1,by omega⟩
 ·exact (h5 x hx).2.2.1
theorem stG_W {a:List Int} {p:Sta} (h:stG a p):stW p := by
 obtain ⟨h0,h1,h2,h3,h4,n4,h5,n5,h6,n6⟩ := h
 exact ⟨h0,h1,h2,h3,fun x hx=>by obtain ⟨g0,g1,g2,g3,g4⟩ := h4 x hx; exact ⟨g0,g1,g2.2,g3,g4⟩,n4,h5,n5,h6,n6⟩
theorem p16_st {p:Sta} (h:stW p) (hf:4194304<fu):p16 fu (p,p,())=some ((),true) := by
 obtain ⟨lo,hi,e,z,l,ps,cs,⟨⟩⟩ := p
 obtain ⟨h0,h1,h2,h3,h4,n4,h5,n5,h6,n6⟩ := h
 dsimp only at n4 n5 n6
 unfold p16
 simp only [p70_same l (by omega) hf,p71_refl ps (by omega) (show ps.length<fu by omega),p72_is cs (by omega) hf,Option.bind_some,cond_true,beq_self_eq_true,self_beq lo,self_beq hi,Bool.and_true]
theorem p95_is (a:ByteArray) (hf:a.size<fu):p95 fu (a,())=some ((),nameB a) := by
 unfold p95 nameB
 have hl := numsOf_length a
 by_cases h1:a.size<1
 ·have h2:(a.size:Int)<1 := by omega
  have h3:¬ (1≤a.size∧a.size≤32) := by omega
  simp only [h2,h3,decide_true,decide_false,cond_true]
  cases (numsOf a).any qb <;> rfl
 have h2:¬ (a.size:Int)<1 := by omega
 by_cases h4:a.size>32
 ·have h5:(a.size:Int)>32 := by omega
  have h3:¬ (1≤a.size∧a.size≤32) := by omega
  simp only [h2,h3,h5,decide_true,decide_false,cond_true,cond_false]
  cases (numsOf a).any qb <;> rfl
 have h5:¬ (a.size:Int)>32 := by omega
 have h3:(1≤a.size∧a.size≤32) := by omega
 simp only [h2,h3,h5,decide_true,decide_false,cond_false,and_self]
 refine loop_for (numsOf a) (fun i=>(((i:Int),()),())) qb ((),false) ((),true) (by omega) (fun i h => ?_) ?_ (by cases (numsOf a).any qb <;> rfl)
 ·have h':i<a.size := by omega
  simp only [Int.ofNat_lt,Int.natCast_nonneg,h',decide_true,cond_true,and_self,Int.toNat_natCast,bAt_num a i h,i64_succ h' (by omega)]
  exact step_qb _
 ·rw [hl]
  simp only [Int.ofNat_lt,Nat.lt_irrefl,decide_false,cond_false]; rfl
theorem p94_nil (id seq:Int) (hf:0<fu):p94 fu ([],id,seq,())=some ((),((judge [] id seq).1,(judge [] id seq).2,())) := by
 obtain ⟨j,rfl⟩:∃ i,fu=i+1 := ⟨fu-1,by omega⟩
 have e:p139 (j+1) ([],id,())=some ((),-1) := rfl
 unfold p94 judge
 by_cases h0:id=0
 ·subst h0; rfl
 ·simp only [beq_eq_false_iff_ne.2 h0,cond_false,if_neg h0]
  unfold seqB
  by_cases h1:seq<1
  ·have:¬ 1≤seq := by omega
   simp only [decide_eq_true h1,cond_true,decide_eq_false this,Bool.false_and,if_true]
  ·have h1':1≤seq := by omega
   by_cases h2:seq>9223372036854775807
   ·have:¬ seq≤9223372036854775807 := by omega
    simp only [decide_eq_false h1,cond_false,decide_eq_true h2,cond_true,decide_eq_true h1',decide_eq_false this,Bool.and_false,if_true]
   ·have:seq≤9223372036854775807 := by omega
    simp only [decide_eq_false h1,cond_false,decide_eq_false h2,decide_eq_true h1',decide_eq_true this,Bool.and_true,Bool.true_eq_false,if_false,e,Option.bind_some]
    rfl
theorem p34_is (x:Cmd) (hn:x.2.2.2.2.2.2.2.2.1.size<fu):p34 fu (x,())=some ((),wfS x) := by
 obtain ⟨k,ep,pr,sq,key,v,off,most,name,plan,⟨⟩⟩ := x
 dsimp only at hn
 unfold p34 wfS
 simp only [p94_nil _ _ (show 0<fu by omega),p95_is name hn,Option.bind_some]
 have e1:decide ((key.size:Int)≤32)=decide (key.size≤32) := decide_eq_decide.2 (by omega)
 have e2:decide ((v.length:Int)≤256)=decide (v.length≤256) := decide_eq_decide.2 (by omega)
 have e3:decide (most≥1)=decide (1≤most) := rfl
 by_cases h1:k=1
 ·subst h1
  simp only [BEq.rfl,cond_true,if_true,e1,e2]
  cases ((judge [] pr sq).1 != 4) <;> cases decide (key.size≤32) <;> rfl
 simp only [beq_eq_false_iff_ne.2 h1,cond_false,if_neg h1]
 by_cases h2:k=2
 ·subst h2
  simp only [BEq.rfl,cond_true,if_true,e3]
  cases decide (1≤most) <;> rfl
 simp only [beq_eq_false_iff_ne.2 h2,cond_false,if_neg h2]
 by_cases h3:k=3
 ·subst h3
  simp only [BEq.rfl,cond_true,if_true]
  cases ((judge [] pr sq).1 != 4) <;> rfl
 simp only [beq_eq_false_iff_ne.2 h3,cond_false,if_neg h3]
 by_cases h4:k=4
 ·subst h4
  simp only [BEq.rfl,cond_true,if_true]
 simp only [beq_eq_false_iff_ne.2 h4,cond_false,if_neg h4]
 by_cases h5:k=5
 ·subst h5
  simp only [BEq.rfl,cond_true,if_true,orK_inl]
 simp only [beq_eq_false_iff_ne.2 h5,cond_false,if_neg h5,orK_inl]
 by_cases h6:k=6
 ·subst h6
  simp only [BEq.rfl,cond_true,if_true]
 simp only [beq_eq_false_iff_ne.2 h6,cond_false,if_neg h6]
end
section
variable {fu:Nat}
theorem byt_nOf (s:ByteArray):byt (numsOf s) := fun x hx=>by
 obtain ⟨b,_,rfl⟩ := List.mem_map.1 hx
 have := b.toNat_lt
 omega
theorem byt_sB (s:ByteArray):byt (sB s) := by
 rw [sB_tB]
 exact byt_tB (byt_nOf s)
theorem byt_flat {α:Type} {enc:α→List Int} {l:List α} (h:∀ x ∈ l,byt (enc x)):byt (l.flatMap enc) := fun x hx=>by
 obtain ⟨y,hy,hx⟩ := List.mem_flatMap.1 hx
 exact h y hy x hx
theorem byt_stB {p:Sta} (h:stW p):byt (stB p) := by
 obtain ⟨lo,hi,e,z,l,ps,cs,⟨⟩⟩ := p
 obtain ⟨h0,h1,h2,h3,h4,n4,h5,n5,h6,n6⟩ := h
 dsimp only at h4 h5 h6
 unfold stB lB
 refine byt_app (byt_sB _) (byt_app (byt_sB _) (byt_app (byt_uB _) (byt_app (byt_uB _) (byt_app (byt_app (byt_uB _) (byt_flat fun x hx => ?_)) (byt_app (byt_app (byt_uB _) (byt_flat fun x hx => ?_)) (byt_app (byt_uB _) (byt_flat fun x hx => ?_)))))))
 ·unfold recB
  exact byt_app (byt_uB _) (byt_app (byt_sB _) (byt_app (byt_tB (h4 x hx).2.2.1.2) (byt_app (byt_uB _) (byt_uB _))))
 ·unfold prodB bB
  refine byt_app (byt_uB _) (byt_app (byt_uB _) (byt_app (fun y hy => ?_) (byt_uB _)))
  rw [List.mem_singleton] at hy
  rw [hy]
  split <;> omega
 ·unfold conB
  exact byt_app (byt_sB _) (byt_uB _)
theorem stB_len {p:Sta} (h:stW p):(stB p).length≤140737488355328 := by
 obtain ⟨lo,hi,e,z,l,ps,cs,⟨⟩⟩ := p
 obtain ⟨h0,h1,h2,h3,h4,n4,h5,n5,h6,n6⟩ := h
 dsimp only at h0 h1 h2 h3 h4 n4 h5 n5 h6 n6
 have a0 := sB_len h0
 have a1 := sB_len h1
 have a2 := uB_len h2
 have a3 := uB_len h3
 have a4 := lB_len (enc := recB) (fun x hx=>recB_len (h4 x hx)) n4
 have a5 := lB_len (enc := prodB) (fun x hx=>prodB_len (h5 x hx)) (by omega)
 have a6 := lB_len (enc := conB) (fun x hx=>conB_len (h6 x hx)) (by omega)
 unfold stB
 simp only [List.length_append]
 omega
theorem byt_cmdB {x:Cmd} (h:cmdW x):byt (cmdB x) := by
 obtain ⟨k,ep,pr,sq,key,v,off,most,name,plan,⟨⟩⟩ := x
 obtain ⟨g0,g1,g2,g3,g4,⟨_,g5⟩,g6,g7,g8,g9⟩ := h
 dsimp only at g5
 unfold cmdB cmdF iB
 dsimp only
 split
 ·refine byt_app (byt_uB _) (byt_app (byt_uB _) ?_)
  split
  ·exact byt_app (byt_uB _) (byt_app (byt_uB _) (byt_app (byt_sB _) (byt_tB g5)))
  ·split
   ·exact byt_app (byt_uB _) (byt_uB _)
   ·split
    ·exact byt_app (byt_uB _) (byt_app (byt_uB _) (byt_app (byt_sB _) (byt_uB _)))
    ·split
     ·exact byt_sB _
     ·exact byt_uB _
 ·exact fun x hx=>by simp at hx
theorem cmdB_len {x:Cmd} (h:cmdW x):(cmdB x).length≤140737488355328 := by
 obtain ⟨k,ep,pr,sq,key,v,off,most,name,plan,⟨⟩⟩ := x
 obtain ⟨g0,g1,g2,g3,g4,⟨g5,_⟩,g6,g7,g8,g9⟩ := h
 dsimp only at g0 g1 g2 g3 g4 g5 g6 g7 g8 g9
 have a0 := iB_len g0
 have a1 := uB_len g1
 have a2 := uB_len g2
 have a3 := uB_len g3
 have a4 := sB_len' g4
 have a5 := tB_len' g5
 have a6 := uB_len g6
 have a7 := iB_len g7
 have a8 := sB_len' g8
 have a9 := uB_len g9
 unfold cmdB cmdF
 dsimp only
 split
 ·simp only [List.length_append]
  split
  ·simp only [List.length_append]; omega
  ·split
   ·simp only [List.length_append]; omega
   ·split
    ·simp only [List.length_append]; omega
    ·split <;> omega
 ·simp
theorem readS_cases {y:List Int} (h:okA fu y):readS chkI y=(stZ,165,()) ∨ ∃ p,readS chkI y=(p,0,())∧stW p∧stB p=y∧chkS p=true := by
 unfold readS
 rcases hr:partR y with _ | ⟨c,p⟩
 ·exact .inl rfl
 ·obtain ⟨h1,h2⟩ := part_canon h.hb hr
  dsimp only
  split
  ·exact .inl rfl
  ·rename_i hc
   split
   ·rename_i h0
    refine .inr ⟨p,rfl,h1,?_,chkI_0.1 h0⟩
    rw [List.drop_eq_nil_of_le (by omega),List.append_nil] at h2
    exact h2.symm
   ·exact .inl rfl
theorem readS_back {p:Sta} (h:stW p) (hc:chkS p=true):readS chkI (stB p)=(p,0,()) := by
 unfold readS
 rw [part_at h]
 simp only [Nat.lt_irrefl,if_false,chkI_0.2 hc,if_true]
theorem i0:isI 0 := by unfold isI; omega
theorem u0:isU 0 := by unfold isU; omega
theorem cmd_canon {a:List Int} {c:Nat} {x:Cmd} (hb:byt a) (h:cmdR a=some (c,x)) (hk:1≤x.1∧x.1≤6):cmdW x∧a=cmdB x ++ a.drop c := by
 have s0:(⟨#[]⟩:ByteArray).size≤1048576 := by decide
 have l0:([]:List Int).length≤1048576∧byt [] := ⟨by simp,byt_nil⟩
 unfold cmdR at h
 obtain ⟨⟨c0,m⟩,e0,h⟩ := Option.bind_eq_some_iff.1 h
 obtain ⟨⟨c1,u⟩,e1,h⟩ := Option.bind_eq_some_iff.1 h
 obtain ⟨g0,d0⟩ := Cn_i _ _ _ _ hb e0
 obtain ⟨g1,d1⟩ := Cn_u _ _ _ _ hb e1
 have d:a=a.drop 0 := rfl
 dsimp only at h d1
 unfold cmdK at h
 by_cases k1:m=1
 ·rw [if_pos k1] at h
  subst k1
  obtain ⟨⟨c2,v2⟩,e2,h⟩ := Option.bind_eq_some_iff.1 h
  obtain ⟨⟨c3,v3⟩,e3,h⟩ := Option.bind_eq_some_iff.1 h
  obtain ⟨⟨c4,v4⟩,e4,h⟩ := Option.bind_eq_some_iff.1 h
  obtain ⟨⟨c5,v5⟩,e5,h⟩ := Option.bind_eq_some_iff.1 h
  injection h with h
  injection h with h1 h2
  subst h1 h2
  obtain ⟨g2,d2⟩ := Cn_u _ _ _ _ hb e2
  obtain ⟨g3,d3⟩ := Cn_u _ _ _ _ hb e3
  obtain ⟨g4,d4⟩ := Cn_s _ _ _ _ hb e4
  obtain ⟨g5,d5⟩ := Cn_b _ _ _ _ hb e5
  dsimp only at d3 d4 d5
  refine ⟨⟨g0,g1,g2,g3,by have := g4; unfold isT at this; dsimp only; omega,⟨by have := g5.1; dsimp only; omega,g5.2⟩,u0,i0,s0,u0⟩,?_⟩
  conv=>lhs; rw [d,d0,d1,d2,d3,d4,d5]
  unfold cmdB cmdF
  rw [if_pos hk]
  dsimp only
  rw [if_pos rfl]
  simp only [List.append_assoc]
 rw [if_neg k1] at h
 by_cases k2:m=2
 ·rw [if_pos k2] at h
  subst k2
  obtain ⟨⟨c2,v2⟩,e2,h⟩ := Option.bind_eq_some_iff.1 h
  obtain ⟨⟨c3,v3⟩,e3,h⟩ := Option.bind_eq_some_iff.1 h
  injection h with h
  injection h with h1 h2
  subst h1 h2
  obtain ⟨g2,d2⟩ := Cn_u _ _ _ _ hb e2
  obtain ⟨g3,d3⟩ := Cn_i _ _ _ _ hb e3
  dsimp only at d3
  refine ⟨⟨g0,g1,u0,u0,s0,l0,g2,g3,s0,u0⟩,?_⟩
  conv=>lhs; rw [d,d0,d1,d2,d3]
  unfold cmdB cmdF
  rw [if_pos hk]
  dsimp only
  rw [if_neg (by decide)]
  rw [if_pos rfl]
  simp only [List.append_assoc]
 rw [if_neg k2] at h
 by_cases k3:m=3
 ·rw [if_pos k3] at h
  subst k3
  obtain ⟨⟨c2,v2⟩,e2,h⟩ := Option.bind_eq_some_iff.1 h
  obtain ⟨⟨c3,v3⟩,e3,h⟩ := Option.bind_eq_some_iff.1 h
  obtain ⟨⟨c4,v4⟩,e4,h⟩ := Option.bind_eq_some_iff.1 h
  obtain ⟨⟨c5,v5⟩,e5,h⟩ := Option.bind_eq_some_iff.1 h
  injection h with h
  injection h with h1 h2
  subst h1 h2
  obtain ⟨g2,d2⟩ := Cn_u _ _ _ _ hb e2
  obtain ⟨g3,d3⟩ := Cn_u _ _ _ _ hb e3
  obtain ⟨g4,d4⟩ := Cn_s _ _ _ _ hb e4
  obtain ⟨g5,d5⟩ := Cn_u _ _ _ _ hb e5
  dsimp only at d3 d4 d5
  refine ⟨⟨g0,g1,g2,g3,s0,l0,g5,i0,by have := g4; unfold isT at this; dsimp only; omega,u0⟩,?_⟩
  conv=>lhs; rw [d,d0,d1,d2,d3,d4,d5]
  unfold cmdB cmdF
  rw [if_pos hk]
  dsimp only
  rw [if_neg (by decide)]
  rw [if_neg (by decide)]
  rw [if_pos rfl]
  simp only [List.append_assoc]
 rw [if_neg k3] at h
 by_cases k4:m=4
 ·rw [if_pos k4] at h
  subst k4
  obtain ⟨⟨c2,v2⟩,e2,h⟩ := Option.bind_eq_some_iff.1 h
  injection h with h
  injection h with h1 h2
  subst h1 h2
  obtain ⟨g2,d2⟩ := Cn_s _ _ _ _ hb e2
  refine ⟨⟨g0,g1,u0,u0,s0,l0,u0,i0,by have := g2; unfold isT at this; dsimp only; omega,u0⟩,?_⟩
  conv=>lhs; rw [d,d0,d1,d2]
  unfold cmdB cmdF
  rw [if_pos hk]
  dsimp only
  rw [if_neg (by decide)]
  rw [if_neg (by decide)]
  rw [if_neg (by decide)]
  rw [if_pos rfl]
  simp only [List.append_assoc]
 rw [if_neg k4] at h
 by_cases k56:m=5 ∨ m=6
 ·rw [if_pos k56] at h
  obtain ⟨⟨c2,v2⟩,e2,h⟩ := Option.bind_eq_some_iff.1 h
  injection h with h
  injection h with h1 h2
  subst h1 h2
  obtain ⟨g2,d2⟩ := Cn_u _ _ _ _ hb e2
  refine ⟨⟨g0,g1,u0,u0,s0,l0,u0,i0,s0,g2⟩,?_⟩
  conv=>lhs; rw [d,d0,d1,d2]
  unfold cmdB cmdF
  rw [if_pos hk]
  dsimp only
  rw [if_neg k1,if_neg k2,if_neg k3,if_neg k4]
  simp only [List.append_assoc]
 rw [if_neg k56] at h
 injection h with h
 injection h with h1 h2
 subst h2
 dsimp only at hk
 omega
theorem readC_cases {y:List Int} (h:okA fu y):readCX wfS y=(cmdZ,161,()) ∨ ∃ x,readCX wfS y=(x,0,())∧cmdW x∧cmdB x=y := by
 unfold readCX
 rcases hr:cmdR y with _ | ⟨c,x⟩
 ·exact .inl rfl
 ·dsimp only
  split
  ·exact .inl rfl
  ·rename_i hc
   split
   ·rename_i h0
    have hk := wf_kind h0
    obtain ⟨h1,h2⟩ := cmd_canon h.hb hr (by omega)
    refine .inr ⟨x,rfl,h1,?_⟩
    rw [List.drop_eq_nil_of_le (by omega),List.append_nil] at h2
    exact h2.symm
   ·exact .inl rfl
theorem wf_key {ep pr sq off most plan:Int} {key name:ByteArray} {v:List Int} (h:¬ (key.size:Int)≤32):wfS (1,ep,pr,sq,key,v,off,most,name,plan,())=false := by
 have:¬ key.size≤32 := by omega
 show (((judge [] pr sq).1 != 4) && (decide (key.size≤32) && decide (v.length≤256)))=false
 rw [decide_eq_false this,Bool.false_and,Bool.and_false]
theorem wf_val {ep pr sq off most plan:Int} {key name:ByteArray} {v:List Int} (h:¬ (v.length:Int)≤256):wfS (1,ep,pr,sq,key,v,off,most,name,plan,())=false := by
 have:¬ v.length≤256 := by omega
 show (((judge [] pr sq).1 != 4) && (decide (key.size≤32) && decide (v.length≤256)))=false
 rw [decide_eq_false this,Bool.and_false,Bool.and_false]
theorem wf_name {k ep pr sq off most plan:Int} {key name:ByteArray} {v:List Int} (hk:k=3 ∨ k=4) (h:¬ (name.size:Int)≤32):wfS (k,ep,pr,sq,key,v,off,most,name,plan,())=false := by
 have hn:nameB name=false := by
  cases hn:nameB name with
  | false=>rfl
  | true =>
   have := nameB_size hn
   omega
 rcases hk with rfl | rfl
 ·show (((judge [] pr sq).1 != 4) && nameB name)=false
  rw [hn,Bool.and_false]
 ·exact hn
theorem cmd_back {x:Cmd} (h:cmdW x):(readCX wfS (cmdB x)).2.1=if wfS x=true then 0 else 161 := by
 by_cases hk:1≤x.1∧x.1≤6
 rotate_left
 ·have hw:wfS x=false := by
   cases hw:wfS x with
   | false=>rfl
   | true =>
    have := wf_kind hw
    omega
  unfold readCX cmdB
  rw [if_neg hk,hw]
  rfl
 obtain ⟨k,ep,pr,sq,key,v,off,most,name,plan,⟨⟩⟩ := x
 obtain ⟨g0,g1,g2,g3,g4,⟨g5,_⟩,g6,g7,g8,g9⟩ := h
 dsimp only at g0 g1 g2 g3 g4 g5 g6 g7 g8 g9 hk
 have hB:cmdB (k,ep,pr,sq,key,v,off,most,name,plan,())=iB k ++ (uB ep ++ cmdF (k,ep,pr,sq,key,v,off,most,name,plan,())) := if_pos hk
 generalize hb:cmdB (k,ep,pr,sq,key,v,off,most,name,plan,())=b at hB ⊢
 have d0:b.drop 0=iB k ++ (uB ep ++ (cmdF (k,ep,pr,sq,key,v,off,most,name,plan,()) ++ [])) := by
  rw [List.append_nil,hB]
  rfl
 have d1 := drop_next d0
 have d2 := drop_next d1
 have hl:b.length=0+(iB k).length+(uB ep).length+(cmdF (k,ep,pr,sq,key,v,off,most,name,plan,())).length := by
  rw [hB]
  simp only [List.length_append]
  omega
 clear hb hB
 unfold readCX cmdR
 rw [iS_at g0 d0,Option.bind_some]
 dsimp only
 rw [uS_at g1 d1,Option.bind_some]
 dsimp only
 generalize 0+(iB k).length+(uB ep).length=c at *
 unfold cmdF at d2 hl
 unfold cmdK
 by_cases k1:k=1
 ·subst k1
  dsimp only at d2 hl
  rw [if_pos rfl] at d2 hl
  rw [if_pos rfl]
  simp only [List.append_assoc] at d2
  have e0 := d2
  have e1 := drop_next e0
  have e2 := drop_next e1
  have e3 := drop_next e2
  rw [uS_at g2 e0,Option.bind_some]
  dsimp only
  rw [uS_at g3 e1,Option.bind_some]
  dsimp only
  by_cases hs:(key.size:Int)≤32
  rotate_left
  ·have hw:wfS (1,ep,pr,sq,key,v,off,most,name,plan,())=false := wf_key hs
   rw [strS_no e2 (by omega) hs,hw]
   rfl
  rw [strS_at e2 (by omega) hs,Option.bind_some]
  dsimp only
  by_cases hv:(v.length:Int)≤256
  rotate_left
  ·have hw:wfS (1,ep,pr,sq,key,v,off,most,name,plan,())=false := wf_val hv
   rw [bytS_no e3 (by omega) hv,hw]
   rfl
  rw [bytS_at e3 (by omega) hv,Option.bind_some]
  dsimp only
  rw [if_neg (by simp only [List.length_append] at hl; omega)]
  rw [show wfS (1,ep,pr,sq,key,v,0,0,⟨#[]⟩,0,())=wfS (1,ep,pr,sq,key,v,off,most,name,plan,()) from rfl]
  split <;> rfl
 by_cases k2:k=2
 ·subst k2
  dsimp only at d2 hl
  rw [if_neg (by decide),if_pos rfl] at d2 hl
  rw [if_neg (by decide),if_pos rfl]
  simp only [List.append_assoc] at d2
  have e0 := d2
  have e1 := drop_next e0
  rw [uS_at g6 e0,Option.bind_some]
  dsimp only
  rw [iS_at g7 e1,Option.bind_some]
  dsimp only
  rw [if_neg (by simp only [List.length_append] at hl; omega)]
  rw [show wfS (2,ep,0,0,⟨#[]⟩,[],off,most,⟨#[]⟩,0,())=wfS (2,ep,pr,sq,key,v,off,most,name,plan,()) from rfl]
  split <;> rfl
 by_cases k3:k=3
 ·subst k3
  dsimp only at d2 hl
  rw [if_neg (by decide),if_neg (by decide),if_pos rfl] at d2 hl
  rw [if_neg (by decide),if_neg (by decide),if_pos rfl]
  simp only [List.append_assoc] at d2
  have e0 := d2
  have e1 := drop_next e0
  have e2 := drop_next e1
  have e3 := drop_next e2
  rw [uS_at g2 e0,Option.bind_some]
  dsimp only
  rw [uS_at g3 e1,Option.bind_some]
  dsimp only
  by_cases hs:(name.size:Int)≤32
  rotate_left
  ·have hw:wfS (3,ep,pr,sq,key,v,off,most,name,plan,())=false := wf_name (by omega) hs
   rw [strS_no e2 (by omega) hs,hw]
   rfl
  rw [strS_at e2 (by omega) hs,Option.bind_some]
  dsimp only
  rw [uS_at g6 e3,Option.bind_some]
  dsimp only
  rw [if_neg (by simp only [List.length_append] at hl; omega)]
  rw [show wfS (3,ep,pr,sq,⟨#[]⟩,[],off,0,name,0,())=wfS (3,ep,pr,sq,key,v,off,most,name,plan,()) from rfl]
  split <;> rfl
 by_cases k4:k=4
 ·subst k4
  dsimp only at d2 hl
  rw [if_neg (by decide),if_neg (by decide),if_neg (by decide),if_pos rfl] at d2 hl
  rw [if_neg (by decide),if_neg (by decide),if_neg (by decide),if_pos rfl]
  have e0 := d2
  by_cases hs:(name.size:Int)≤32
  rotate_left
  ·have hw:wfS (4,ep,pr,sq,key,v,off,most,name,plan,())=false := wf_name (by omega) hs
   rw [strS_no e0 (by omega) hs,hw]
   rfl
  rw [strS_at e0 (by omega) hs,Option.bind_some]
  dsimp only
  rw [if_neg (by omega)]
  rw [show wfS (4,ep,0,0,⟨#[]⟩,[],0,0,name,0,())=wfS (4,ep,pr,sq,key,v,off,most,name,plan,()) from rfl]
  split <;> rfl
 by_cases k5:k=5
 ·subst k5
  dsimp only at d2 hl
  rw [if_neg (by decide),if_neg (by decide),if_neg (by decide),if_neg (by decide)] at d2 hl
  rw [if_neg (by decide),if_neg (by decide),if_neg (by decide),if_neg (by decide),if_pos (by decide),uS_at g9 d2,Option.bind_some]
  dsimp only
  rw [if_neg (by omega)]
  rw [show wfS (5,ep,0,0,⟨#[]⟩,[],0,0,⟨#[]⟩,plan,())=wfS (5,ep,pr,sq,key,v,off,most,name,plan,()) from rfl]
  split <;> rfl
 by_cases k6:k=6
 ·subst k6
  dsimp only at d2 hl
  rw [if_neg (by decide),if_neg (by decide),if_neg (by decide),if_neg (by decide)] at d2 hl
  rw [if_neg (by decide),if_neg (by decide),if_neg (by decide),if_neg (by decide),if_pos (by decide),uS_at g9 d2,Option.bind_some]
  dsimp only
  rw [if_neg (by omega)]
  rw [show wfS (6,ep,0,0,⟨#[]⟩,[],0,0,⟨#[]⟩,plan,())=wfS (6,ep,pr,sq,key,v,off,most,name,plan,()) from rfl]
  split <;> rfl
 omega
end
section
set_option maxRecDepth 100000 in
theorem p9_b:p9 8388608 ()=some ((),true) := by decide +kernel
theorem p30_st {fu:Nat} {y:List Int} (h:okA fu y) (hf:4194304<fu):p30 fu (y,())=some ((),readS chkI y) :=
 p30_is chkI h hf fun _ hp=>p10_st (stG_W hp) hf
theorem p26_st {fu:Nat} {y:List Int} (h:okA fu y) (hf:4194304<fu):p26 fu (y,())=some ((),readCX wfS y) :=
 p26_is wfS h fun p hp=>by
  obtain ⟨k,ep,pr,sq,key,v,off,most,name,plan,⟨⟩⟩ := p
  unfold isT at hp
  dsimp only at hp
  exact p88_is k ep pr sq key v off most name plan (by omega) hf
theorem p7_is {fu:Nat} (h9:p9 fu ()=some ((),true)) (hf:4194304<fu) (p:Sta) (hb:bndS p) (hi:inW p) (x:Cmd) (hx:cmdW x) (y:List Int) (hy:byt y) (hl:y.length≤140737488355328):p7 fu (p,x,y,())=some ((),true) := by
 have hfu:10<fu := by omega
 have h10 := p10_is p hb hf
 have oy:okA fu y := ⟨hy,hl,hfu⟩
 have oc:okA fu (cmdB x) := ⟨byt_cmdB hx,cmdB_len hx,hfu⟩
 have h30 := p30_st oy hf
 have h26 := p26_st oy hf
 have c26 := p26_st oc hf
 have c21 := p21_is hx hfu
 have c34 := p34_is (fu := fu) x (by have := hx.2.2.2.2.2.2.2.2.1; omega)
 have hcb := cmd_back hx
 -- the state,written and read
 have hp:chkS p=true→p25 fu (p,())=some ((),stB p)∧p30 fu (stB p,())=some ((),(p,0,()))∧p16 fu (p,p,())=some ((),true) := fun hc=>by
  have hw := chk_stW hi hc
  have o:okA fu (stB p) := ⟨byt_stB hw,stB_len hw,hfu⟩
  exact ⟨p25_is hw hf,by rw [p30_st o hf,readS_back hw hc],p16_st hw hf⟩
 -- the command,written and read
 have hd:∀ d e,readCX wfS (cmdB x)=(d,e,())→e=(if wfS x=true then 0 else 161)∧(wfS x=true→p21 fu (d,())=some ((),cmdB x)) := fun d e hde=>by
  rw [hde] at hcb
  refine ⟨hcb,fun hw => ?_⟩
  rcases readC_cases oc with h0 | ⟨z,h0,h1,h2⟩
  ·rw [hde] at h0
   rw [if_pos hw] at hcb
   injection h0 with h3 h4
   injection h4 with h5 h6
   rw [h5] at hcb
   cases hcb
  ·rw [hde] at h0
   injection h0 with h3 h4
   rw [h3,p21_is h1 hfu,h2]
 -- bytes,read and written
 have hr:∀ q e,readS chkI y=(q,e,())→e ≠ 0 ∨ (e=0∧p25 fu (q,())=some ((),y)∧p10 fu (q,())=some ((),0)) := fun q e hqe=>by
  rcases readS_cases oy with h0 | ⟨z,h0,h1,h2,h3⟩
  ·rw [hqe] at h0
   injection h0 with h3 h4
   injection h4 with h5 h6
   exact .inl (by rw [h5]; decide)
  ·rw [hqe] at h0
   injection h0 with h4 h5
   injection h5 with h5 h6
   subst h4 h5
   exact .inr ⟨rfl,by rw [p25_is h1 hf,h2],by rw [p10_st h1 hf,chkI_0.2 h3]⟩
 have hs:∀ d e,readCX wfS y=(d,e,())→e ≠ 0 ∨ (e=0∧p21 fu (d,())=some ((),y)) := fun d e hde=>by
  rcases readC_cases oy with h0 | ⟨z,h0,h1,h2⟩
  ·rw [hde] at h0
   injection h0 with h3 h4
   injection h4 with h5 h6
   exact .inl (by rw [h5]; decide)
  ·rw [hde] at h0
   injection h0 with h4 h5
   injection h5 with h5 h6
   subst h4 h5
   exact .inr ⟨rfl,by rw [p21_is h1 hfu,h2]⟩
 clear hcb hi hb hx oy oc
 rcases hq:readS chkI y with ⟨⟨q0,q1,q2,q3,q4,q5,q6,⟨⟩⟩,e3,⟨⟩⟩
 rcases hq2:readCX wfS y with ⟨⟨d0,d1,d2,d3,d4,d5,d6,d7,d8,d9,⟨⟩⟩,e4,⟨⟩⟩
 rcases hq3:readCX wfS (cmdB x) with ⟨⟨b0,b1,b2,b3,b4,b5,b6,b7,b8,b9,⟨⟩⟩,e5,⟨⟩⟩
 rw [hq] at h30
 rw [hq2] at h26
 rw [hq3] at c26
 have hr := hr _ _ hq
 have hs := hs _ _ hq2
 obtain ⟨hd1,hd2⟩ := hd _ _ hq3
 obtain ⟨lo,hi,e,z,l,ps,cs,⟨⟩⟩ := p
 obtain ⟨k,ep,pr,sq,key,v,off,most,name,plan,⟨⟩⟩ := x
 -- what comes behind the command
 unfold p7
 simp only [h9,h10,Option.bind_some]
 have c165:((165:Int)==0)=false := rfl
 have c161:((161:Int)==0)=false := rfl
 cases hc:chkS (lo,hi,e,z,l,ps,cs,())
 ·simp only [c165,cond_false,orK_inl,c21,c26,c34,h30,h26,Option.bind_some,eqL_t,cond_true]
  cases hw:wfS (k,ep,pr,sq,key,v,off,most,name,plan,())
  ·rw [hw,if_neg (by decide)] at hd1
   subst hd1
   simp only [c161,BEq.rfl,Bool.not_true,cond_false,orK_inl]
   rcases hr with hr | ⟨rfl,r1,r2⟩
   ·simp only [beq_eq_false_iff_ne.2 hr,cond_false,orK_inl]
    rcases hs with hs | ⟨rfl,s1⟩
    ·simp only [bne_iff_ne.2 hs,cond_true]
    ·simp only [bne_self_eq_false,cond_false,s1,Option.bind_some,beq_self_eq_true]
   ·simp only [BEq.rfl,cond_true,cond_false,r1,r2,Option.bind_some,Bool.not_true,bne_self_eq_false,orK_inl]
    rcases hs with hs | ⟨rfl,s1⟩
    ·simp only [bne_iff_ne.2 hs,cond_true]
    ·simp only [bne_self_eq_false,cond_false,s1,Option.bind_some,beq_self_eq_true]
  ·rw [hw,if_pos rfl] at hd1
   subst hd1
   simp only [hd2 hw,BEq.rfl,Bool.not_true,cond_true,cond_false,Option.bind_some,orK_inl]
   rcases hr with hr | ⟨rfl,r1,r2⟩
   ·simp only [beq_eq_false_iff_ne.2 hr,cond_false,orK_inl]
    rcases hs with hs | ⟨rfl,s1⟩
    ·simp only [bne_iff_ne.2 hs,cond_true]
    ·simp only [bne_self_eq_false,cond_false,s1,Option.bind_some,beq_self_eq_true]
   ·simp only [BEq.rfl,cond_true,cond_false,r1,r2,Option.bind_some,Bool.not_true,bne_self_eq_false,orK_inl]
    rcases hs with hs | ⟨rfl,s1⟩
    ·simp only [bne_iff_ne.2 hs,cond_true]
    ·simp only [bne_self_eq_false,cond_false,s1,Option.bind_some,beq_self_eq_true]
 ·obtain ⟨a1,a2,a3⟩ := hp hc
  simp only [cond_true,BEq.rfl,a1,a2,a3,Option.bind_some,eqL_t,bne_self_eq_false,cond_false,Bool.not_true,orK_inl,c21,c26,c34,h30,h26]
  cases hw:wfS (k,ep,pr,sq,key,v,off,most,name,plan,())
  ·rw [hw,if_neg (by decide)] at hd1
   subst hd1
   simp only [c161,BEq.rfl,Bool.not_true,cond_false,orK_inl]
   rcases hr with hr | ⟨rfl,r1,r2⟩
   ·simp only [beq_eq_false_iff_ne.2 hr,cond_false,orK_inl]
    rcases hs with hs | ⟨rfl,s1⟩
    ·simp only [bne_iff_ne.2 hs,cond_true]
    ·simp only [bne_self_eq_false,cond_false,s1,Option.bind_some,beq_self_eq_true]
   ·simp only [BEq.rfl,cond_true,cond_false,r1,r2,Option.bind_some,Bool.not_true,bne_self_eq_false,orK_inl]
    rcases hs with hs | ⟨rfl,s1⟩
    ·simp only [bne_iff_ne.2 hs,cond_true]
    ·simp only [bne_self_eq_false,cond_false,s1,Option.bind_some,beq_self_eq_true]
  ·rw [hw,if_pos rfl] at hd1
   subst hd1
   simp only [hd2 hw,BEq.rfl,Bool.not_true,cond_true,cond_false,Option.bind_some,orK_inl]
   rcases hr with hr | ⟨rfl,r1,r2⟩
   ·simp only [beq_eq_false_iff_ne.2 hr,cond_false,orK_inl]
    rcases hs with hs | ⟨rfl,s1⟩
    ·simp only [bne_iff_ne.2 hs,cond_true]
    ·simp only [bne_self_eq_false,cond_false,s1,Option.bind_some,beq_self_eq_true]
   ·simp only [BEq.rfl,cond_true,cond_false,r1,r2,Option.bind_some,Bool.not_true,bne_self_eq_false,orK_inl]
    rcases hs with hs | ⟨rfl,s1⟩
    ·simp only [bne_iff_ne.2 hs,cond_true]
    ·simp only [bne_self_eq_false,cond_false,s1,Option.bind_some,beq_self_eq_true]
end
end Go.Proofs.YthlgaodaofpgoaaGreatDoor
