/-
  Layer 17, from layers 14 and 16: names, consumers, records, ranges.
-/
import Derived.Test.YtmjmhobeiamgiaaGreatPtM
import Derived.Test.YtmjmhobeiamgiaaGreatDaP
namespace Go.Proofs.YtmjmhobeiamgiaaGreat
open Go.RowKit
section
variable {fu:Nat}
abbrev Cn := D_runtime_errorAddressString
theorem loop_any {X S R:Type} {f:S→Option (S ⊕ R)}:∀ (l:List X) (mk:Nat→S) (q:X→Bool) (r fin:R),l.length<fu →
  (∀ i (h:i<l.length),f (mk i)=some (bif q l[i] then .inr r else .inl (mk (i+1))))→f (mk l.length)=some (.inr fin)→loopO fu f (mk 0)=some (bif l.any q then r else fin) := by
 intro l mk q r fin hf hs he
 have key:∀ k i n,i+k=l.length→k<n→loopO n f (mk i)=some (bif (l.drop i).any q then r else fin) := by
  intro k
  induction k with
  | zero =>
   intro i n hi hn
   obtain ⟨m,rfl⟩:∃ m,n=m+1 := ⟨n-1,by omega⟩
   obtain rfl:i=l.length := by omega
   simp only [loopO,he,List.drop_length,List.any_nil,cond_false]
  | succ k ih =>
   intro i n hi hn
   obtain ⟨m,rfl⟩:∃ m,n=m+1 := ⟨n-1,by omega⟩
   have hlt:i<l.length := by omega
   rw [List.drop_eq_getElem_cons hlt]
   simp only [loopO,hs i hlt,List.any_cons]
   cases q l[i] with
   | true=>rfl
   | false=>exact ih (i+1) m (by omega) (by omega)
 exact key l.length 0 fu (by omega) hf
theorem loop_for {X S R:Type} {f:S→Option (S ⊕ R)} {res:R} (l:List X) (mk:Nat→S) (q:X→Bool) (r fin:R) (hf:l.length<fu)
  (hs:∀ i (h:i<l.length),f (mk i)=some (bif q l[i] then .inr r else .inl (mk (i+1)))) (he:f (mk l.length)=some (.inr fin)) (hr:(bif l.any q then r else fin)=res):loopO fu f (mk 0)=some res :=
 hr ▸ loop_any l mk q r fin hf hs he
abbrev ky (s:ByteArray):List UInt8 := s.data.toList
theorem ky_inj {a b:ByteArray} (h:ky a=ky b):a=b := by
 cases a; cases b
 simp only [ky] at h
 congr 1
 exact Array.toList_inj.1 h
theorem toList_ky (s:ByteArray):s.toList=ky s := Lib.toList_data s
theorem less_lists:∀ x y:List UInt8,Op.bytesLess x y=decide (x<y)
 | [],[]=>by simp [Op.bytesLess]
 | [],_ :: _=>by simp [Op.bytesLess]
 | _ :: _,[]=>by simp [Op.bytesLess]
 | a :: xs,b :: ys=>by
  rw [Op.bytesLess,less_lists xs ys,Bool.eq_iff_iff]
  by_cases h:a<b
  ·simp [h,List.cons_lt_cons_iff]
  ·by_cases h':b<a
   ·have:a ≠ b := fun e=>by subst e; exact h h'
    simp [h,this,List.cons_lt_cons_iff]
   ·have:a=b := UInt8.le_antisymm (UInt8.not_lt.1 h') (UInt8.not_lt.1 h)
    subst this
    simp [h]
theorem less_ky (a b:ByteArray):Op.bytesLess a.toList b.toList=decide (ky a<ky b) := by
 rw [toList_ky,toList_ky,less_lists]
theorem eq_ky (a b:ByteArray):(a.toList==b.toList)=decide (a=b) := by
 rw [toList_ky,toList_ky,Bool.eq_iff_iff]; simp only [beq_iff_eq,decide_eq_true_eq]
 exact ⟨ky_inj,fun h=>h ▸ rfl⟩
theorem cmp_lists:∀ a b:List UInt8,Lib.compareBytes a b=if a<b then -1 else if b<a then 1 else 0
 | [],[]=>by simp [Lib.compareBytes]
 | [],_ :: _=>by simp [Lib.compareBytes]
 | _ :: _,[]=>by simp [Lib.compareBytes]
 | a :: xs,b :: ys=>by
  rw [Lib.compareBytes,cmp_lists xs ys]
  simp only [List.cons_lt_cons_iff]
  by_cases h:a<b
  ·simp [h]
  ·by_cases h':b<a
   ·have:a ≠ b := fun e=>by subst e; exact h h'
    simp [h,h',this]
   ·have:a=b := UInt8.le_antisymm (UInt8.not_lt.1 h') (UInt8.not_lt.1 h)
    subst this
    simp [h]
theorem cmpI_ky (a b:ByteArray):cmpI a b=if ky a<ky b then -1 else if ky b<ky a then 1 else 0 := cmp_lists _ _
theorem lt_irr (x:List UInt8):¬ x<x := List.lt_irrefl x
theorem lt_lt {x y z:List UInt8} (h:x<y) (h':y<z):x<z := List.lt_trans h h'
theorem both_not {x y:List UInt8} (h:¬ x<y) (h':¬ y<x):x=y := List.le_antisymm h' h
/-! ### Names -/
def sq (x:Int):Bool := bif x != 45 then bif x != 95 then bif x != 46 then true else false else false else false
def qb (x:Int):Bool := bif decide (x<97) then (bif decide (x<48) then sq x else bif decide (x>57) then sq x else false) else bif decide (x>122) then (bif decide (x<48) then sq x else bif decide (x>57) then sq x else false) else false
def nameB (a:ByteArray):Bool := bif (numsOf a).any qb then false else decide (1≤a.size∧a.size≤32)
theorem step_qb {S R:Type} {r:R} {s:S} (x:Int):(bif decide (x<97) then
  bif decide (x<48) then
   bif x != 45 then bif x != 95 then bif x != 46 then some (.inr r) else some (.inl s) else some (.inl s) else some (.inl s)
  else bif decide (x>57) then
   bif x != 45 then bif x != 95 then bif x != 46 then some (.inr r) else some (.inl s) else some (.inl s) else some (.inl s)
  else some (.inl s)
 else bif decide (x>122) then
  bif decide (x<48) then
   bif x != 45 then bif x != 95 then bif x != 46 then some (.inr r) else some (.inl s) else some (.inl s) else some (.inl s)
  else bif decide (x>57) then
   bif x != 45 then bif x != 95 then bif x != 46 then some (.inr r) else some (.inl s) else some (.inl s) else some (.inl s)
  else some (.inl s)
 else some (.inl s):Option (S ⊕ R))=some (bif qb x then .inr r else .inl s) := by
 unfold qb sq
 generalize decide (x<97)=b1; generalize decide (x<48)=b2; generalize decide (x>57)=b3; generalize decide (x>122)=b4
 generalize (x != 45)=b5; generalize (x != 95)=b6; generalize (x != 46)=b7
 cases b1 <;> cases b2 <;> cases b3 <;> cases b4 <;> cases b5 <;> cases b6 <;> cases b7 <;> rfl
theorem bAt_num (a:ByteArray) (i:Nat) (h:i<(numsOf a).length):bAt a i=(numsOf a)[i] := by
 have h':i<a.data.toList.length := by simpa [numsOf] using h
 have:(numsOf a)[i]=((a.data.toList[i].toNat:Int)) := List.getElem_map ..
 rw [this,bAt,getD_lt h']
theorem p90_is (a:ByteArray) (ha:a.size≤1048576) (hf:a.size<fu):p90 fu (a,())=some ((),nameB a) := by
 unfold p90 nameB
 have hl := numsOf_length a
 refine loop_for (numsOf a) (fun i=>(((i:Int),()),())) qb ((),false) ((),decide (1≤a.size∧a.size≤32)) (by omega) (fun i h => ?_) ?_ (by cases (numsOf a).any qb <;> rfl)
 ·simp only [Int.ofNat_lt,Int.natCast_nonneg,h,decide_true,cond_true,and_self,Int.toNat_natCast,getD_lt h,i64_succ h (by omega)]
  exact step_qb _
 ·simp only [Int.ofNat_lt,Nat.lt_irrefl,decide_false,cond_false]
  by_cases h1:1≤a.size
  ·have h2:(a.size:Int)≥1 := by omega
   have h3:decide ((a.size:Int)≤32)=decide (a.size≤32) := decide_eq_decide.2 (by omega)
   simp only [h1,h2,h3,decide_true,cond_true,true_and]; rfl
  ·have h2:¬ (a.size:Int)≥1 := by omega
   simp only [h1,h2,decide_false,cond_false,false_and]; rfl
theorem loop_find {X S R:Type} {f:S→Option (S ⊕ R)} {res:R} (l:List X) (mk:Nat→S) (q:X→Bool) (g:Option X→R) (hf:l.length<fu)
  (hs:∀ i (h:i<l.length),f (mk i)=some (bif q l[i] then .inr (g (some l[i])) else .inl (mk (i+1)))) (he:f (mk l.length)=some (.inr (g none))) (hr:g (l.find? q)=res):loopO fu f (mk 0)=some res := by
 subst hr
 have key:∀ k i n,i+k=l.length→k<n→loopO n f (mk i)=some (g ((l.drop i).find? q)) := by
  intro k
  induction k with
  | zero =>
   intro i n hi hn
   obtain ⟨m,rfl⟩:∃ m,n=m+1 := ⟨n-1,by omega⟩
   obtain rfl:i=l.length := by omega
   simp only [loopO,he,List.drop_length,List.find?_nil]
  | succ k ih =>
   intro i n hi hn
   obtain ⟨m,rfl⟩:∃ m,n=m+1 := ⟨n-1,by omega⟩
   have hlt:i<l.length := by omega
   rw [List.drop_eq_getElem_cons hlt]
   simp only [loopO,hs i hlt,List.find?_cons]
   cases q l[i] with
   | true=>rfl
   | false=>exact ih (i+1) m (by omega) (by omega)
 exact key l.length 0 fu (by omega) hf
theorem loop_fold {X S A R:Type} {f:S→Option (S ⊕ R)} {res:R} (l:List X) (mk:Nat→A→S) (st:A→X→A) (fin:A→R) (a:A) (P:Nat→A→Prop) (h0:P 0 a) (hf:l.length<fu)
  (hs:∀ i (h:i<l.length) b,P i b→f (mk i b)=some (.inl (mk (i+1) (st b l[i])))∧P (i+1) (st b l[i])) (he:∀ b,P l.length b→f (mk l.length b)=some (.inr (fin b))) (hr:fin (l.foldl st a)=res):loopO fu f (mk 0 a)=some res := by
 subst hr
 have key:∀ k i n b,i+k=l.length→k<n→P i b→loopO n f (mk i b)=some (fin ((l.drop i).foldl st b)) := by
  intro k
  induction k with
  | zero =>
   intro i n b hi hn hb
   obtain ⟨m,rfl⟩:∃ m,n=m+1 := ⟨n-1,by omega⟩
   obtain rfl:i=l.length := by omega
   simp only [loopO,he b hb,List.drop_length,List.foldl_nil]
  | succ k ih =>
   intro i n b hi hn hb
   obtain ⟨m,rfl⟩:∃ m,n=m+1 := ⟨n-1,by omega⟩
   have hlt:i<l.length := by omega
   rw [List.drop_eq_getElem_cons hlt]
   obtain ⟨e1,e2⟩ := hs i hlt b hb
   simp only [loopO,e1,List.foldl_cons]
   exact ih (i+1) m _ (by omega) (by omega) e2
 exact key l.length 0 fu a (by omega) hf h0
def okL (l:List Cn):Prop := l.length≤2097152 ∧ ∀ x ∈ l,x.1.size≤1048576∧0≤x.2∧x.2<18446744073709551616
theorem okL_at {l:List Cn} (h:okL l) {i:Nat} (hi:i<l.length):l[i].1.size≤1048576 := (h.2 _ (List.getElem_mem hi)).1
def bad (l:List Cn) (i:Nat):Bool := bif !nameB (l.getD i (⟨#[]⟩,0)).1 then true else bif decide (0<i) then !Op.bytesLess (l.getD (i-1) (⟨#[]⟩,0)).1.toList (l.getD i (⟨#[]⟩,0)).1.toList else false
def okC (l:List Cn):Bool := bif (List.range l.length).any (bad l) then false else decide (l.length≤64)
theorem p54_is (l:List Cn) (hl:okL l) (hf:4194304<fu):p54 fu (l,())=some ((),okC l) := by
 unfold p54 okC
 have hn:l.length≤2097152 := hl.1
 refine loop_for (List.range l.length) (fun i=>(((i:Int),()),())) (bad l) ((),false) ((),decide (l.length≤64)) (by simp only [List.length_range]; omega) (fun i h => ?_) ?_ (by cases (List.range l.length).any (bad l) <;> rfl)
 ·simp only [List.length_range] at h
  have hs := okL_at hl h
  have hg:∀ d,l.getD i d=l[i] := fun d=>getD_lt h
  simp only [List.getElem_range,Int.ofNat_lt,Int.natCast_nonneg,h,decide_true,cond_true,and_self,Int.toNat_natCast,hg,p90_is _ hs (fu := fu) (by omega),bind_val,i64_succ h (by omega),bad]
  cases nameB l[i].1
  ·rfl
  simp only [Bool.not_true,cond_false]
  by_cases h0:0<i
  ·have h1:(i:Int)>0 := by omega
   have h2:i-1<l.length := by omega
   have h3:∀ d,l.getD (i-1) d=l[i-1] := fun d=>getD_lt h2
   simp only [h0,h1,decide_true,cond_true,i64_pred h0 (by omega),Int.natCast_nonneg,Int.ofNat_lt,h2,and_self,Int.toNat_natCast,h3]
   cases Op.bytesLess l[i-1].1.toList l[i].1.toList <;> rfl
  ·have h1:¬ (i:Int)>0 := by omega
   simp only [h0,h1,decide_false,cond_false]
 ·simp only [List.length_range,Int.ofNat_lt,Nat.lt_irrefl,decide_false,cond_false]
  have h3:decide ((l.length:Int)≤64)=decide (l.length≤64) := decide_eq_decide.2 (by omega)
  rw [h3]; rfl
def readO (o:Option Cn):Int×Bool := match o with | some x=>(x.2,true) | none=>(0,false)
def readC (l:List Cn) (c:ByteArray):Int×Bool := readO (l.find? fun x=>x.1.toList==c.toList)
theorem p56_is (l:List Cn) (c:ByteArray) (hl:l.length≤2097152) (hf:4194304<fu):p56 fu (l,c,())=some ((),(readC l c).1,(readC l c).2,()) := by
 unfold p56
 refine loop_find l (fun i=>(((i:Int),()),())) (fun x=>x.1.toList==c.toList) (fun o=>((),(readO o).1,(readO o).2,())) (by omega) (fun i h => ?_) ?_ rfl
 ·have hg:∀ d,l.getD i d=l[i] := fun d=>getD_lt h
  simp only [Int.ofNat_lt,Int.natCast_nonneg,h,decide_true,cond_true,and_self,Int.toNat_natCast,hg,i64_succ h (by omega)]
  cases l[i].1.toList==c.toList <;> rfl
 ·simp only [Int.ofNat_lt,Nat.lt_irrefl,decide_false,cond_false]; rfl
theorem any_no {α:Type} (l:List α):l.any (fun _=>false)=false := by induction l <;> simp_all
theorem self_beq (s:ByteArray):(s==s)=true := by
 cases s with
 | mk d=>show (d==d)=true; exact beq_self_eq_true d
theorem p34_is (l:List Cn) (hl:l.length≤2097152) (hf:4194304<fu):p34 fu (l,l,())=some ((),true) := by
 unfold p34
 simp only [bne_self_eq_false,cond_false]
 refine loop_for l (fun i=>(((i:Int),()),())) (fun _=>false) ((),false) ((),true) (by omega) (fun i h => ?_) ?_ (by rw [any_no]; rfl)
 ·simp only [Int.ofNat_lt,Int.natCast_nonneg,h,decide_true,cond_true,and_self,Int.toNat_natCast,i64_succ h (by omega),beq_self_eq_true,Bool.and_true]
  generalize (l.getD i (dflt T_runtime_errorAddressString)).fst=s
  have:(s==s)=true := self_beq s
  simp only [this,Bool.not_true,cond_false]
 ·simp only [Int.ofNat_lt,Nat.lt_irrefl,decide_false,cond_false]; rfl
theorem loop_val {S R:Type} {f:S→Option (S ⊕ R)} (I:S→Prop) (m:S→Nat) {n:Nat} {s:S} {r:R} (hI:I s) (hm:m s<n) (h:∀ s,I s → ∃ o,f s=some o∧LStep I m (fun q=>q=r) s o):loopO n f s=some r := by
 obtain ⟨q,e,rfl⟩ := loopO_rule I m (fun q=>q=r) h n s hI hm
 exact e
theorem mid_is {lo hi:Nat} (h:lo+hi≤9223372036854775807):IntKind.wrap .i64 (Int.fdiv (IntKind.wrap .u64 (IntKind.wrap .i64 ((lo:Int)+(hi:Int)))) (2 ^ (min (Int.toNat (1:Int)) (IntKind.bits .u64))))=(((lo+hi) / 2:Nat):Int) := by
 have e1:IntKind.wrap .i64 ((lo:Int)+(hi:Int))=((lo+hi:Nat):Int) := by rw [i64_wrap (by omega) (by omega)]; omega
 have e2:IntKind.wrap .u64 ((lo+hi:Nat):Int)=((lo+hi:Nat):Int) := wrap_u64 (by omega) (by omega)
 have e3:(2:Int) ^ (min (Int.toNat (1:Int)) (IntKind.bits .u64))=2 := rfl
 have e4:Int.fdiv ((lo+hi:Nat):Int) 2=(((lo+hi) / 2:Nat):Int) := by
  rw [Int.fdiv_eq_ediv_of_nonneg _ (by omega)]; omega
 rw [e1,e2,e3,e4,i64_wrap (by omega) (by omega)]
def Rises (l:List Cn):Prop := l.Pairwise fun x y=>ky x.1<ky y.1
def isB (e:Cn) (x:Cn):Bool := !(x.1.toList==e.1.toList)
def insS:List Cn→Cn→List Cn
 | [],e=>[e]
 | x :: l,e=>bif Op.bytesLess x.1.toList e.1.toList then x :: insS l e else e :: (x :: l).filter (isB e)
theorem guardE {p:Prop} [Decidable p] {α:Type} {a:α} (h:p):(bif decide p then some a else none)=some a := by rw [decide_eq_true h]; rfl
theorem isB_iff (e x:Cn):isB e x=true ↔ x.1 ≠ e.1 := by
 unfold isB; rw [eq_ky]; simp
theorem isB_less {e x:Cn} (h:Op.bytesLess x.1.toList e.1.toList=true):(x.1.toList==e.1.toList)=false := by
 rw [less_ky] at h
 rw [eq_ky,decide_eq_false_iff_not]
 intro e'
 rw [e'] at h
 exact lt_irr _ (of_decide_eq_true h)
def docR (e:Cn) (b:Bool) (l:List Cn):List Cn := bif b then l.filter (isB e) else insS l e
theorem copyL_all {α:Type} (l:List α) (d:α):copyL (List.replicate l.length d) 0 l.length l=l := by
 simp [copyL]
theorem p93_is (l:List Cn) (hl:l.length≤2097152):p93 fu (l,())=some ((),l) := by
 unfold p93
 cases l with
 | nil=>rfl
 | cons a l =>
  have h0:(((a :: l).length:Int)==0)=false := by simp; omega
  have h1:(0:Int)≤((a :: l).length:Int)∧((a :: l).length:Int)≤((a :: l).length:Int)∧((a :: l).length:Int)≤9223372036854775807∧(24:Int) * ((a :: l).length:Int)≤140737488355328 := by omega
  simp only [h0,cond_false,h1,and_self,decide_true,cond_true,Int.toNat_natCast,List.length_replicate,copyL_all]
theorem p59_is (a c:ByteArray) (x y:Int):p59 fu ((a,x,()),(c,y,()),())=some ((),cmpI a c) := rfl
def At (l:List Cn) (c:ByteArray) (n:Nat):Prop := n≤l.length∧(∀ k (h:k<l.length),k<n→ky l[k].1<ky c) ∧ ∀ k (h:k<l.length),n≤k → ¬ ky l[k].1<ky c
theorem at_some (c:ByteArray):∀ l:List Cn,Rises l → ∃ n,At l c n
 | [],_=>⟨0,Nat.le_refl _,fun k h=>absurd h (Nat.not_lt_zero _),fun k h=>absurd h (Nat.not_lt_zero _)⟩
 | x :: l,hr=>by
  obtain ⟨hx,hr'⟩ := List.pairwise_cons.1 hr
  by_cases h:ky x.1<ky c
  ·obtain ⟨n,h1,h2,h3⟩ := at_some c l hr'
   refine ⟨n+1,Nat.succ_le_succ h1,fun k hk hn => ?_,fun k hk hn => ?_⟩
   ·cases k with
    | zero=>exact h
    | succ k=>exact h2 k (Nat.lt_of_succ_lt_succ hk) (by omega)
   ·cases k with
    | zero=>omega
    | succ k=>exact h3 k (Nat.lt_of_succ_lt_succ hk) (by omega)
  ·refine ⟨0,Nat.zero_le _,fun k hk hn=>absurd hn (Nat.not_lt_zero _),fun k hk _ => ?_⟩
   cases k with
   | zero=>exact h
   | succ k=>exact fun g=>h (lt_lt (hx _ (List.getElem_mem (Nat.lt_of_succ_lt_succ hk))) g)
theorem p92_is (l:List Cn) (c:ByteArray) (f:Int) (n:Nat) (hl:l.length≤2097152) (hf:4194304<fu) (ha:At l c n) :
  p92 fu (l,(c,f,()),((),()),())=some ((),(n:Int),(if h:n<l.length then decide (l[n].1=c) else false),()) := by
 obtain ⟨hn,ha1,ha2⟩ := ha
 unfold p92
 refine loop_val (I := fun s => ∃ h i:Nat,s=(((h:Int),(i:Int),()),())∧h≤n∧n≤i∧i≤l.length) (m := fun s=>Int.toNat s.1.2.1-Int.toNat s.1.1) ⟨0,l.length,rfl,Nat.zero_le _,hn,Nat.le_refl _⟩ (by simp only [Int.toNat_natCast]; omega) fun s hs => ?_
 obtain ⟨h,i,rfl,h1,h2,h3⟩ := hs
 by_cases hlt:h<i
 ·have hm:(h+i) / 2<l.length := by omega
  have hg:∀ d,l.getD ((h+i) / 2) d=l[(h+i) / 2] := fun d=>getD_lt hm
  simp only [mid_is (lo := h) (hi := i) (by omega),Int.ofNat_lt,hlt,Int.natCast_nonneg,hm,decide_true,cond_true,and_self,Int.toNat_natCast,hg,p59_is,bind_val,cmpI_ky]
  by_cases hc:ky l[(h+i) / 2].1<ky c
  ·simp only [hc,if_true,show decide ((-1:Int)<0)=true from rfl,cond_true,i64_succ hm (by omega)]
   refine ⟨_,rfl,⟨_,_,rfl,?_,h2,h3⟩,by simp only [Int.toNat_natCast]; omega⟩
   rcases Nat.lt_or_ge ((h+i) / 2) n with g | g
   ·exact g
   ·exact absurd hc (ha2 _ hm g)
  ·have hz:decide ((if ky c<ky l[(h+i) / 2].1 then (1:Int) else 0)<0)=false := by split <;> rfl
   simp only [hc,if_false,hz,cond_false]
   refine ⟨_,rfl,⟨_,_,rfl,h1,?_,by omega⟩,by simp only [Int.toNat_natCast]; omega⟩
   rcases Nat.lt_or_ge ((h+i) / 2) n with g | g
   ·exact absurd (ha1 _ hm g) hc
   ·exact g
 ·obtain rfl:h=n := by omega
  simp only [Int.ofNat_lt,hlt,decide_false,cond_false]
  by_cases hm:h<l.length
  ·have hg:∀ d,l.getD h d=l[h] := fun d=>getD_lt hm
   simp only [hm,Int.natCast_nonneg,decide_true,cond_true,and_self,Int.toNat_natCast,hg,p59_is,bind_val,cmpI_ky,ha2 _ hm (Nat.le_refl _),if_false,dite_true]
   refine ⟨_,rfl,?_⟩
   have:((if ky c<ky l[h].1 then (1:Int) else 0)==0)=decide (l[h].1=c) := by
    by_cases hx:ky c<ky l[h].1
    ·have:¬ l[h].1=c := fun e=>lt_irr _ (e ▸ hx)
     simp [hx,this]
    ·have:l[h].1=c := ky_inj (both_not (ha2 _ hm (Nat.le_refl _)) hx)
     simp [this]
   rw [this]
  ·simp only [hm,decide_false,cond_false,dite_false]
   exact ⟨_,rfl,rfl⟩
theorem filter_all {l:List Cn} {e:Cn} (h:∀ y ∈ l,y.1 ≠ e.1):l.filter (isB e)=l := List.filter_eq_self.2 fun y hy=>(isB_iff e y).2 (h y hy)
theorem ky_ne {a b:ByteArray} (h:ky a<ky b):a ≠ b := fun e=>lt_irr _ (e ▸ h)
theorem less_not {x e:Cn} (h:¬ ky x.1<ky e.1):Op.bytesLess x.1.toList e.1.toList=false := by rw [less_ky,decide_eq_false h]
theorem less_yes {x e:Cn} (h:ky x.1<ky e.1):Op.bytesLess x.1.toList e.1.toList=true := by rw [less_ky,decide_eq_true h]
theorem insS_place (e:Cn):∀ (l:List Cn) (n:Nat),Rises l→At l e.1 n→insS l e=if h:n<l.length then (if l[n].1=e.1 then l.set n e else l.take n ++ [e] ++ l.drop n) else l.take n ++ [e] ++ l.drop n
 | [],n,_,h=>by
  obtain rfl:n=0 := Nat.le_zero.1 h.1
  rfl
 | x :: l,0,hr,h=>by
  obtain ⟨hx,hr'⟩ := List.pairwise_cons.1 hr
  have h0:¬ ky x.1<ky e.1 := h.2.2 0 (Nat.succ_pos _) (Nat.le_refl _)
  simp only [insS,less_not h0,cond_false,List.length_cons,Nat.succ_pos,dite_true,List.getElem_cons_zero,List.set_cons_zero,List.take_zero,List.nil_append,List.drop_zero,List.filter_cons]
  by_cases hq:x.1=e.1
  ·have hk:isB e x=false := by rw [← Bool.not_eq_true,isB_iff]; exact fun g=>g hq
   simp only [hq,if_true,hk,Bool.false_eq_true,if_false]
   rw [filter_all fun y hy g=>ky_ne (hx y hy) (hq.trans g.symm)]
  ·have hk:isB e x=true := (isB_iff e x).2 hq
   have hlt:ky e.1<ky x.1 := by
    rcases Classical.em (ky e.1<ky x.1) with g | g
    ·exact g
    ·exact absurd (ky_inj (both_not h0 g)) hq
   simp only [hq,if_false,hk,if_true]
   rw [filter_all fun y hy g=>ky_ne (lt_lt hlt (hx y hy)) g.symm]
   rfl
 | x :: l,n+1,hr,h=>by
  obtain ⟨hx,hr'⟩ := List.pairwise_cons.1 hr
  have h0:ky x.1<ky e.1 := h.2.1 0 (Nat.succ_pos _) (Nat.succ_pos _)
  have ha:At l e.1 n := ⟨Nat.le_of_succ_le_succ h.1,fun k hk hn=>h.2.1 (k+1) (Nat.succ_lt_succ hk) (Nat.succ_lt_succ hn),fun k hk hn=>h.2.2 (k+1) (Nat.succ_lt_succ hk) (Nat.succ_le_succ hn)⟩
  simp only [insS,less_yes h0,cond_true,insS_place e l n hr' ha,List.length_cons,Nat.add_lt_add_iff_right,List.getElem_cons_succ,List.set_cons_succ,List.take_succ_cons,List.drop_succ_cons,List.cons_append]
  split
  ·split <;> rfl
  ·rfl
theorem mem_insS {e y:Cn}:∀ {l:List Cn},y ∈ insS l e→y=e ∨ y ∈ l
 | [],h => .inl (List.mem_singleton.1 h)
 | x :: l,h=>by
  unfold insS at h
  cases hb:Op.bytesLess x.1.toList e.1.toList with
  | true =>
   rw [hb,cond_true] at h
   rcases List.mem_cons.1 h with h | h
   ·exact .inr (h ▸ List.mem_cons_self)
   ·exact (mem_insS h).imp id (List.mem_cons_of_mem _)
  | false =>
   rw [hb,cond_false] at h
   exact (List.mem_cons.1 h).imp id fun h=>(List.mem_filter.1 h).1
theorem len_insS (e:Cn):∀ l:List Cn,(insS l e).length≤l.length+1
 | []=>Nat.le_refl _
 | x :: l=>by
  unfold insS
  cases Op.bytesLess x.1.toList e.1.toList with
  | true=>simpa using len_insS e l
  | false =>
   simp only [cond_false,List.length_cons]
   exact Nat.succ_le_succ (List.length_filter_le _ (x :: l))
theorem rises_insS {e:Cn}:∀ {l:List Cn},Rises l→Rises (insS l e)
 | [],_=>List.pairwise_singleton _ _
 | x :: l,hr=>by
  obtain ⟨hx,hr'⟩ := List.pairwise_cons.1 hr
  unfold insS
  by_cases h0:ky x.1<ky e.1
  ·rw [less_yes h0,cond_true]
   refine List.pairwise_cons.2 ⟨fun y hy => ?_,rises_insS hr'⟩
   rcases mem_insS hy with rfl | hy
   ·exact h0
   ·exact hx y hy
  ·rw [less_not h0,cond_false]
   refine List.pairwise_cons.2 ⟨fun y hy => ?_,hr.sublist (List.filter_sublist)⟩
   obtain ⟨hm,hb⟩ := List.mem_filter.1 hy
   have hne := (isB_iff e y).1 hb
   have key:∀ z:Cn,¬ ky z.1<ky e.1→z.1 ≠ e.1→ky e.1<ky z.1 := fun z hz hn=>by
    rcases Classical.em (ky e.1<ky z.1) with g | g
    ·exact g
    ·exact absurd (ky_inj (both_not hz g)) hn
   refine key y (fun g => ?_) hne
   rcases List.mem_cons.1 hm with rfl | hm
   ·exact h0 g
   ·exact h0 (lt_lt (hx y hm) g)
theorem p58_is (l:List Cn) (c:ByteArray) (f:Int) (hr:Rises l) (hl:l.length≤2097151) (hf:4194304<fu):p58 fu (l,(c,f,()),((),()),())=some ((),insS l (c,f)) := by
 obtain ⟨n,ha⟩ := at_some c l hr
 rw [insS_place (c,f) l n hr ha]
 have hn := ha.1
 unfold p58
 simp only [p92_is l c f n (by omega) hf ha,p93_is l (by omega),bind_val]
 have hins:pInsertC fu (l,(n:Int),[(c,f)],())=some (((),(),()),l.take n ++ [(c,f)] ++ l.drop n) := by
  unfold pInsertC
  exact guardE ⟨Int.natCast_nonneg _,by simpa using hn,by simp,by simp only [List.length_singleton]; omega⟩
 by_cases h:n<l.length
 ·by_cases hq:l[n].1=c
  ·simp only [h,hq,dite_true,decide_true,cond_true,if_true,Int.natCast_nonneg,Int.ofNat_lt,and_self,Int.toNat_natCast,List.length_set]
  ·simp only [h,hq,dite_true,decide_false,cond_false,if_false,hins,bind_val,decide_true,cond_true]
 ·simp only [h,dite_false,cond_false,hins,bind_val,decide_true,cond_true]
/-! ### Commit -/
theorem rises_adj:∀ l:List Cn,(∀ i (h:i+1<l.length),ky (l[i]'(Nat.lt_of_succ_lt h)).1<ky l[i+1].1)→Rises l
 | [],_=>List.Pairwise.nil
 | [x],_=>List.pairwise_singleton _ _
 | x :: y :: l,h=>by
  have h1:Rises (y :: l) := rises_adj (y :: l) fun i hi=>h (i+1) (Nat.succ_lt_succ hi)
  have h2:ky x.1<ky y.1 := h 0 (Nat.succ_lt_succ (Nat.succ_pos _))
  refine List.pairwise_cons.2 ⟨fun z hz => ?_,h1⟩
  rcases List.mem_cons.1 hz with rfl | hz
  ·exact h2
  ·exact lt_lt h2 ((List.pairwise_cons.1 h1).1 z hz)
theorem okC_rises {l:List Cn} (h:okC l=true):Rises l∧l.length≤64 := by
 unfold okC at h
 cases hb:(List.range l.length).any (bad l) with
 | true=>rw [hb] at h; exact absurd h Bool.false_ne_true
 | false =>
  rw [hb,cond_false] at h
  refine ⟨rises_adj l fun i hi => ?_,of_decide_eq_true h⟩
  have := List.any_eq_false.1 hb (i+1) (List.mem_range.2 hi)
  unfold bad at this
  have g1:∀ d,l.getD (i+1) d=l[i+1] := fun d=>getD_lt hi
  have g2:∀ d,l.getD i d=l[i]'(Nat.lt_of_succ_lt hi) := fun d=>getD_lt _
  simp only [g1,g2,Nat.succ_pos,decide_true,cond_true,Nat.add_sub_cancel,less_ky] at this
  cases hn:nameB l[i+1].1 with
  | false=>rw [hn] at this; exact absurd rfl this
  | true =>
   rw [hn] at this
   simpa using this
abbrev Rd := D_api_Record
theorem u64_wrap {x:Int} (h1:0≤x) (h2:x<18446744073709551616):IntKind.wrap .u64 x=x := by
 show x % 18446744073709551616=x
 omega
/-! ### Logs -/
def noRec:Rd := (0,⟨#[]⟩,[],0,0)
def wrong (l:List Rd) (i:Nat):Bool := bif ((l.getD i noRec).1 != (i:Int)) then true else bif decide ((l.getD i noRec).2.1.size>32) then true else decide ((l.getD i noRec).2.2.1.length>256)
def logOk (l:List Rd):Bool := bif (List.range l.length).any (wrong l) then false else decide (l.length≤4096)
theorem p86_is (a:Int) (c:ByteArray) (l:List Int) (x y:Int):p86 fu ((a,c,l,x,y,()),())=some ((),bif decide (c.size>32) then 131 else bif decide (l.length>256) then 144 else 0) := by
 unfold p86
 have h1:decide ((c.size:Int)>32)=decide (c.size>32) := decide_eq_decide.2 (by omega)
 have h2:decide ((l.length:Int)>256)=decide (l.length>256) := decide_eq_decide.2 (by omega)
 simp only [h1,h2]
 cases decide (c.size>32) <;> cases decide (l.length>256) <;> rfl
theorem p43_is (l:List Rd) (hl:l.length≤2097152) (hf:4194304<fu):p43 fu (l,())=some ((),logOk l) := by
 unfold p43 logOk
 refine loop_for (List.range l.length) (fun i=>(((i:Int),()),())) (wrong l) ((),false) ((),decide (l.length≤4096)) (by simp only [List.length_range]; omega) (fun i h => ?_) ?_ (by cases (List.range l.length).any (wrong l) <;> rfl)
 ·simp only [List.length_range] at h
  have hg:∀ d,l.getD i d=l[i] := fun d=>getD_lt h
  have hw:IntKind.wrap .u64 (i:Int)=(i:Int) := u64_wrap (by omega) (by omega)
  simp only [List.getElem_range,Int.ofNat_lt,Int.natCast_nonneg,h,decide_true,cond_true,and_self,Int.toNat_natCast,hg,hw,p86_is,bind_val,i64_succ h (by omega),wrong]
  cases (l[i].1 != (i:Int))
  ·simp only [cond_false]
   cases decide (l[i].2.1.size>32) <;> cases decide (l[i].2.2.1.length>256) <;> rfl
  ·rfl
 ·simp only [List.length_range,Int.ofNat_lt,Nat.lt_irrefl,decide_false,cond_false]
  have h3:decide ((l.length:Int)≤4096)=decide (l.length≤4096) := decide_eq_decide.2 (by omega)
  rw [h3]; rfl
theorem p102_is (l:List Int) (h:l.length≤140737488355328):p102 fu (l,())=some ((),l) := by
 unfold p102
 cases l with
 | nil=>rfl
 | cons a l =>
  have h0:(((a :: l).length:Int)==0)=false := beq_eq_false_iff_ne.2 (by simp only [List.length_cons]; omega)
  have h1:(0:Int)≤((a :: l).length:Int)∧((a :: l).length:Int)≤((a :: l).length:Int)∧((a :: l).length:Int)≤9223372036854775807∧(1:Int) * ((a :: l).length:Int)≤140737488355328 := by omega
  simp only [h0,cond_false,h1,and_self,decide_true,cond_true,Int.toNat_natCast,List.length_replicate,copyL_all]
def numR (n:List Rd) (x:Rd):Rd := ((n.length:Int),x.2.1,x.2.2.1,x.2.2.2.1,x.2.2.2.2)
theorem p47_1_is (n:List Rd) (x:Rd) (hn:n.length≤2097152) (hx:x.2.2.1.length≤140737488355328):p47_1 fu (n,(x.1,x.2.1,x.2.2.1,x.2.2.2.1,x.2.2.2.2,()),())=some (((),()),n ++ [numR n x]) := by
 unfold p47_1 p87
 have hw:IntKind.wrap .u64 (n.length:Int)=(n.length:Int) := u64_wrap (by omega) (by omega)
 simp only [p102_is _ hx,bind_val,decide_true,cond_true,hw]
 exact guardE ⟨by unfold maxLen; simp only [List.length_singleton]; omega,by simp only [List.length_singleton]; omega⟩
def befB (c f:ByteArray):Bool := bif (ByteArray.toList c==ByteArray.toList (⟨#[]⟩:ByteArray)) then true else !(Op.bytesLess (ByteArray.toList c) (ByteArray.toList f)||ByteArray.toList c==ByteArray.toList f)
def chkB (a c:ByteArray):Int := bif !decide ((a.size:Int)≤32) then 131 else bif !decide ((c.size:Int)≤32) then 131 else bif !befB c a then 132 else 0
def hasB (a c f:ByteArray):Bool := bif (chkB a c==0) then (bif decide ((f.size:Int)≤32) then (bif !Op.bytesLess f.toList a.toList then befB c f else false) else false) else false
theorem p85_is (c f:ByteArray):p85 fu ((c,ByteArray.toList c==ByteArray.toList (⟨#[]⟩:ByteArray),()),f,())=some ((),befB c f) := by
 unfold p85 befB
 cases (ByteArray.toList c==ByteArray.toList (⟨#[]⟩:ByteArray)) <;> rfl
theorem p41_is (a c:ByteArray):p41 fu ((a,c,()),())=some ((),chkB a c) := by
 unfold p41 chkB
 simp only [p79,p42,bind_val,p85_is]
 cases decide ((a.size:Int)≤32)
 ·rfl
 cases decide ((c.size:Int)≤32)
 ·rfl
 cases befB c a <;> rfl
theorem p80_is (a c f:ByteArray):p80 fu ((a,c,()),f,())=some ((),hasB a c f) := by
 unfold p80 hasB
 simp only [p41_is,p79,p42,bind_val,p85_is]
 cases (chkB a c==0)
 ·rfl
 cases decide ((f.size:Int)≤32)
 ·rfl
 cases Op.bytesLess f.toList a.toList <;> rfl
theorem p32_same (l:List Rd) (hl:l.length≤2097152) (hf:4194304<fu):p32 fu (l,l,())=some ((),true) := by
 unfold p32
 simp only [bne_self_eq_false,cond_false]
 refine loop_for l (fun i=>(((i:Int),()),())) (fun _=>false) ((),false) ((),true) (by omega) (fun i h => ?_) ?_ (by rw [any_no]; rfl)
 ·simp only [Int.ofNat_lt,Int.natCast_nonneg,h,decide_true,cond_true,and_self,Int.toNat_natCast,i64_succ h (by omega),cond_false,beq_self_eq_true,Bool.not_true]
 ·simp only [Int.ofNat_lt,Nat.lt_irrefl,decide_false,cond_false]; rfl
end
section
variable {fu:Nat}
abbrev Pr := Int×Int×Bool×Int
def seqB (s:Int):Bool := decide (1≤s) && decide (s≤9223372036854775807)
def cmpZ (a b:Int):Int := if a<b then -1 else if a>b then 1 else 0
theorem p88_is (s:Int):p88 fu (s,())=some ((),seqB s) := by
 unfold p88 seqB
 by_cases h:1≤s
 ·simp [h]
 ·simp [h]
theorem p103_is (a:Int):p103 fu (a,())=some ((),false) := by simp [p103]
theorem p89_is (a b:Int):p89 fu (a,b,())=some ((),cmpZ a b) := by
 simp only [p89,p103_is,bind_val,cond_false]
 unfold cmpZ
 by_cases h:a<b
 ·simp [h]
 ·by_cases h2:a>b
  ·simp [h,h2]
  ·simp [h,h2]
theorem p52_is (x y:Pr):p52 fu ((x.1,x.2.1,x.2.2.1,x.2.2.2,()),(y.1,y.2.1,y.2.2.1,y.2.2.2,()),())=some ((),cmpZ x.1 y.1) := by
 simp only [p52,p89_is,bind_val]
def findI (l:List Pr) (id:Int):Nat := l.findIdx fun x=>x.1==id
theorem findI_eq {l:List Pr} {id:Int} {i:Nat} (h:i≤findI l id) (hi:i<l.length) (hx:(l[i].1==id)=true):findI l id=i := by
 rcases Nat.lt_or_ge i (findI l id) with h1 | h1
 ·have := List.not_of_lt_findIdx h1
  rw [hx] at this; simp at this
 ·omega
theorem findI_lt {l:List Pr} {id:Int} {i:Nat} (h:i≤findI l id) (hi:i<l.length) (hx:(l[i].1==id)=false):i+1≤findI l id := by
 rcases Nat.lt_or_ge i (findI l id) with h1 | h1
 ·exact h1
 ·exfalso
  have e:findI l id=i := by omega
  have hw:findI l id<l.length := by omega
  have := List.findIdx_getElem (w := hw)
  simp only [show l.findIdx (fun x=>x.1==id)=i from e] at this
  rw [hx] at this; cases this
theorem findI_le (l:List Pr) (id:Int):findI l id≤l.length := List.findIdx_le_length
def find (l:List Pr) (id:Int):Option Pr := l.find? fun x=>x.1==id
theorem findP_is (l:List Pr) (id:Int) (d:Pr):find l id=if findI l id<l.length then some (l.getD (findI l id) d) else none := by
 unfold find findI
 induction l with
 | nil=>rfl
 | cons x l ih =>
  rw [List.find?_cons,List.findIdx_cons]
  cases hx:(x.1==id) with
  | true=>simp
  | false =>
   simp only [cond_false,List.length_cons,Nat.add_lt_add_iff_right,List.getD_cons_succ]
   exact ih
def okP (x:Pr):Bool := !(x.1==0) && (seqB x.2.1 && (x.2.2.1||x.2.2.2==0))
def rowOK (l:List Pr) (i:Nat):Bool := (i==0||decide ((l.getD (i-1) (dflt T_api_Producer)).1<(l.getD i (dflt T_api_Producer)).1)) && okP (l.getD i (dflt T_api_Producer))
def tabI (l:List Pr):Bool := (List.range l.length).all (rowOK l) && decide (l.length≤256)
theorem tabI_no {l:List Pr} {i:Nat} (hi:i<l.length) (h:rowOK l i=false):tabI l=false := by
 unfold tabI
 have:(List.range l.length).all (rowOK l)=false := by
  rw [List.all_eq_false]
  exact ⟨i,List.mem_range.2 hi,by simp [h]⟩
 rw [this]; rfl
theorem cmpZ_neg (a b:Int):decide (cmpZ a b<0)=decide (a<b) := by
 unfold cmpZ
 by_cases h:a<b
 ·simp [h]
 ·by_cases h2:a>b
  ·simp [h,h2]
  ·simp [h,h2]
theorem p49_is (l:List Pr) (hl:l.length≤9223372036854775806) (hf:l.length<fu):p49 fu (l,())=some ((),tabI l) := by
 unfold p49
 refine loopO_eq (I := fun s => ∃ i:Nat,s=(((i:Int),()),())∧i≤l.length ∧ ∀ j,j<i→rowOK l j=true) (m := fun s=>l.length-s.1.1.toNat)
  (g := fun _=>((),tabI l)) ?_ fu _ ⟨0,rfl,Nat.zero_le _,fun j hj=>absurd hj (Nat.not_lt_zero _)⟩ (by simpa using hf)
 rintro s ⟨i,rfl,h1,h2⟩
 by_cases hi:i<l.length
 ·-- what stands ahead of it
  have hd:∀ {R:Type} (k:(Bool×Unit)×Unit→Option R),orK (E := (Bool×Unit)×Unit)
    (bif ((i:Int)==(0:Int)) then some (.inl ((true,()),())) else
     bif decide ((0:Int)≤IntKind.wrap .i64 ((i:Int)-(1:Int))∧IntKind.wrap .i64 ((i:Int)-(1:Int))<(List.length l:Int)) then
      bif decide (Int.toNat (IntKind.wrap .i64 ((i:Int)-(1:Int)))<List.length l) then
       Option.bind (p52 fu (((List.getD l (Int.toNat (IntKind.wrap .i64 ((i:Int)-(1:Int)))) (dflt T_api_Producer)).1,((List.getD l (Int.toNat (IntKind.wrap .i64 ((i:Int)-(1:Int)))) (dflt T_api_Producer)).2).1,(((List.getD l (Int.toNat (IntKind.wrap .i64 ((i:Int)-(1:Int)))) (dflt T_api_Producer)).2).2).1,(((List.getD l (Int.toNat (IntKind.wrap .i64 ((i:Int)-(1:Int)))) (dflt T_api_Producer)).2).2).2,()),((List.getD l i (dflt T_api_Producer)).1,((List.getD l i (dflt T_api_Producer)).2).1,(((List.getD l i (dflt T_api_Producer)).2).2).1,(((List.getD l i (dflt T_api_Producer)).2).2).2,()),())) fun ⟨_,r33⟩ =>
       some (.inl ((decide (r33<(0:Int)),()),()))
      else none
     else none) k=k ((i==0||decide ((l.getD (i-1) (dflt T_api_Producer)).1<(l.getD i (dflt T_api_Producer)).1),()),()) := by
   intro R k
   by_cases h0:i=0
   ·subst h0; simp [orK]
   ·have hw := i64_pred (i := i) (by omega) (by omega)
    have hlt:i-1<l.length := by omega
    have h0':((i:Int)==0)=false := by simpa using h0
    have h0'':(i==0)=false := by simpa using h0
    simp only [h0',h0'',cond_false,hw,Int.natCast_nonneg,Int.ofNat_lt,hlt,true_and,decide_true,cond_true,Int.toNat_natCast,p52_is,bind_val,orK_inl,cmpZ_neg,Bool.false_or]
  simp only [Int.ofNat_lt,hi,decide_true,cond_true,Int.natCast_nonneg,true_and,Int.toNat_natCast,hd]
  generalize hb:(i==0||decide ((l.getD (i-1) (dflt T_api_Producer)).1<(l.getD i (dflt T_api_Producer)).1))=b
  generalize hx:l.getD i (dflt T_api_Producer)=x
  obtain ⟨x1,x2,x3,x4⟩ := x
  have hrow:rowOK l i=(b && okP (x1,x2,x3,x4)) := by unfold rowOK; rw [hb,hx]
  have bad:rowOK l i=false→((),tabI l)=((),false) := fun h=>by rw [tabI_no hi h]
  have good:rowOK l i=true→(∃ s':((Int×Unit)×Unit),(some (.inl ((IntKind.wrap .i64 ((i:Int)+(1:Int)),()),())):Option (((Int×Unit)×Unit) ⊕ (Unit×Bool)))=some (.inl s') ∧
    (∃ i:Nat,s' = (((i:Int),()),())∧i≤l.length ∧ ∀ j,j<i→rowOK l j=true)∧l.length-s'.1.1.toNat<l.length-i∧((),tabI l)=((),tabI l)) := fun h =>
   ⟨((((i+1:Nat):Int),()),()),by rw [i64_succ hi (by omega)],⟨i+1,rfl,hi,fun j hj=>by
     rcases Nat.lt_succ_iff_lt_or_eq.1 hj with h' | rfl
     ·exact h2 j h'
     ·exact h⟩,by simp; omega,rfl⟩
  simp only [okP] at hrow
  by_cases hz:x1=0
  ·right; rw [bad (by rw [hrow]; simp [hz])]; simp [hz,inrO]
  ·have hz':(x1==(0:Int))=false := by simpa using hz
   simp only [hz',cond_false,p88_is,bind_val,Bool.not_false,Bool.true_and] at hrow ⊢
   cases hs:seqB x2 with
   | false=>right; rw [bad (by rw [hrow,hs]; simp)]; simp [inrO]
   | true =>
    cases b with
    | false=>right; rw [bad (by rw [hrow]; simp)]; simp [inrO]
    | true =>
     cases x3 with
     | true =>
      have hr:rowOK l i=true := by rw [hrow,hs]; rfl
      left; simpa using good hr
     | false =>
      by_cases h4:x4=0
      ·have hr:rowOK l i=true := by rw [hrow,hs]; simp [h4]
       left; simpa [h4] using good hr
      ·right; rw [bad (by rw [hrow,hs]; simp [h4])]
       have h4':(x4 != (0:Int))=true := by simpa using h4
       simp [h4',inrO]
 ·right
  have e:i=l.length := by omega
  subst e
  have:(List.range l.length).all (rowOK l)=true := List.all_eq_true.2 fun j hj=>h2 j (List.mem_range.1 hj)
  simp [inrO,tabI,this]
  omega
def mrg (both:Pr→Pr→Pr):Nat→List Pr→List Pr→List Pr
 | 0,a,b=>a ++ b
 | _+1,[],b=>b
 | _+1,x :: a,[]=>x :: a
 | n+1,x :: a,y :: b=>if x.1<y.1 then x :: mrg both n a (y :: b) else if x.1>y.1 then y :: mrg both n (x :: a) b else both x y :: mrg both n a b
theorem mrg_more (both:Pr→Pr→Pr):∀ (n m:Nat) (a b:List Pr),a.length+b.length≤n→a.length+b.length≤m→mrg both n a b=mrg both m a b
 | 0,m,a,b,h,_=>by
  have ha:a=[] := List.eq_nil_of_length_eq_zero (by omega)
  have hb:b=[] := List.eq_nil_of_length_eq_zero (by omega)
  subst ha hb
  cases m <;> rfl
 | n+1,0,a,b,_,h=>by
  have ha:a=[] := List.eq_nil_of_length_eq_zero (by omega)
  have hb:b=[] := List.eq_nil_of_length_eq_zero (by omega)
  subst ha hb
  rfl
 | n+1,m+1,[],b,_,_=>rfl
 | n+1,m+1,x :: a,[],_,_=>rfl
 | n+1,m+1,x :: a,y :: b,h1,h2=>by
  simp only [List.length_cons] at h1 h2
  simp only [mrg]
  rw [mrg_more both n m a (y :: b) (by simp; omega) (by simp; omega),mrg_more both n m (x :: a) b (by simp; omega) (by simp; omega),mrg_more both n m a b (by omega) (by omega)]
def merge (both:Pr→Pr→Pr) (a b:List Pr):List Pr := mrg both (a.length+b.length) a b
theorem merge_nil (both:Pr→Pr→Pr) (b:List Pr):merge both [] b=b := by
 unfold merge
 cases b <;> rfl
theorem merge_nil' (both:Pr→Pr→Pr) (a:List Pr):merge both a []=a := by
 unfold merge
 cases a <;> rfl
theorem merge_cons (both:Pr→Pr→Pr) (x y:Pr) (a b:List Pr):merge both (x :: a) (y :: b)=if x.1<y.1 then x :: merge both a (y :: b) else if x.1>y.1 then y :: merge both (x :: a) b else both x y :: merge both a b := by
 unfold merge
 have e:(x :: a).length+(y :: b).length=(a.length+b.length+1)+1 := by simp; omega
 rw [e]
 simp only [mrg]
 rw [mrg_more both (a.length+b.length+1) (a.length+(y :: b).length) a (y :: b) (by simp; omega) (by omega),
  mrg_more both (a.length+b.length+1) ((x :: a).length+b.length) (x :: a) b (by simp; omega) (by omega),
  mrg_more both (a.length+b.length+1) (a.length+b.length) a b (by omega) (by omega)]
def SP (l:List Pr):Prop := l.Pairwise fun a b=>a.1<b.1
theorem tab_iff (l:List Pr):tabI l=true ↔ (∀ x ∈ l,okP x=true)∧SP l∧l.length≤256 := by
 unfold tabI
 simp only [Bool.and_eq_true,List.all_eq_true,List.mem_range,decide_eq_true_eq]
 constructor
 ·rintro ⟨h1,h2⟩
  refine ⟨fun x hx => ?_,?_,h2⟩
  ·obtain ⟨i,hi,rfl⟩ := List.getElem_of_mem hx
   have := h1 i hi
   unfold rowOK at this
   rw [getD_lt hi] at this
   simp only [Bool.and_eq_true] at this
   exact this.2
  ·have step:∀ i (hi:i+1<l.length),(l[i]'(by omega)).1<l[i+1].1 := fun i hi=>by
    have := h1 (i+1) hi
    unfold rowOK at this
    simp only [Bool.and_eq_true] at this
    have h3 := this.1
    rw [show i+1-1=i by omega,getD_lt hi,getD_lt (show i<l.length by omega)] at h3
    simpa using h3
   unfold SP
   rw [List.pairwise_iff_getElem]
   have key:∀ d i (hi:i+d+1<l.length),(l[i]'(by omega)).1<(l[i+d+1]'hi).1 := by
    intro d
    induction d with
    | zero=>intro i hi; exact step i hi
    | succ d ih =>
     intro i hi
     have h1 := ih i (by omega)
     have h2 := step (i+d+1) (by omega)
     have e:i+(d+1)+1=i+d+1+1 := by omega
     simp only [e]
     omega
   intro i j hi hj hij
   have := key (j-i-1) i (by omega)
   have e:i+(j-i-1)+1=j := by omega
   simp only [e] at this
   exact this
 ·rintro ⟨h1,h2,h3⟩
  refine ⟨fun i hi => ?_,h3⟩
  unfold rowOK
  rw [getD_lt hi]
  simp only [Bool.and_eq_true]
  refine ⟨?_,h1 _ (List.getElem_mem _)⟩
  cases i with
  | zero=>rfl
  | succ i =>
   have := (List.pairwise_iff_getElem.1 h2) i (i+1) (by omega) hi (by omega)
   rw [show i+1-1=i by omega,getD_lt (show i<l.length by omega)]
   simp [this]
theorem find_cons (y:Pr) (l:List Pr) (id:Int):find (y :: l) id=if y.1=id then some y else find l id := by
 unfold find
 rw [List.find?_cons]
 by_cases h:y.1=id
 ·simp [h]
 ·have:(y.1==id)=false := by simpa using h
  simp [h,this]
theorem p33_refl (l:List Pr) (hl:l.length≤9223372036854775806) (hf:l.length<fu):p33 fu (l,l,())=some ((),true) := by
 unfold p33
 simp only [bne_self_eq_false,cond_false]
 refine loopO_eq (I := fun s => ∃ i:Nat,s=(((i:Int),()),())∧i≤l.length) (m := fun s=>l.length-s.1.1.toNat) (g := fun _=>((),true)) ?_ fu _ ⟨0,rfl,Nat.zero_le _⟩ (by simpa using hf)
 rintro s ⟨i,rfl,h1⟩
 by_cases hi:i<l.length
 ·left
  refine ⟨((((i+1:Nat):Int),()),()),?_,⟨i+1,rfl,hi⟩,by simp only [Int.toNat_natCast]; omega,rfl⟩
  simp only [Int.ofNat_lt,hi,decide_true,cond_true,Int.natCast_nonneg,true_and,Int.toNat_natCast,beq_self_eq_true,Bool.and_self,Bool.not_true,cond_false,i64_succ hi (by omega)]
 ·right
  obtain rfl:i=l.length := by omega
  simp [inrO]
end
section
variable {fu:Nat}
theorem take_snoc' {α:Type} {l:List α} {i:Nat} (h:i<l.length) (d:α):l.take (i+1)=l.take i ++ [l.getD i d] := by
 rw [List.take_add_one,List.getD_eq_getElem?_getD,List.getElem?_eq_getElem h]; rfl
def AtP (l:List Pr) (c:Int) (n:Nat):Prop := n≤l.length∧(∀ k (h:k<l.length),k<n→l[k].1<c) ∧ ∀ k (h:k<l.length),n≤k → ¬ l[k].1<c
theorem atP_some (c:Int):∀ l:List Pr,SP l → ∃ n,AtP l c n
 | [],_=>⟨0,Nat.le_refl _,fun k h=>absurd h (Nat.not_lt_zero _),fun k h=>absurd h (Nat.not_lt_zero _)⟩
 | x :: l,hr=>by
  obtain ⟨hx,hr'⟩ := List.pairwise_cons.1 hr
  by_cases h:x.1<c
  ·obtain ⟨n,h1,h2,h3⟩ := atP_some c l hr'
   refine ⟨n+1,Nat.succ_le_succ h1,fun k hk hn => ?_,fun k hk hn => ?_⟩
   ·cases k with
    | zero=>exact h
    | succ k=>exact h2 k (Nat.lt_of_succ_lt_succ hk) (by omega)
   ·cases k with
    | zero=>omega
    | succ k=>exact h3 k (Nat.lt_of_succ_lt_succ hk) (by omega)
  ·refine ⟨0,Nat.zero_le _,fun k hk hn=>absurd hn (Nat.not_lt_zero _),fun k hk _ => ?_⟩
   cases k with
   | zero=>exact h
   | succ k =>
    have := hx _ (List.getElem_mem (Nat.lt_of_succ_lt_succ hk))
    simp only [List.getElem_cons_succ]
    omega
theorem p97_is (x:Pr) (c:Int):p97 fu ((x.1,x.2.1,x.2.2.1,x.2.2.2,()),c,())=some ((),cmpZ x.1 c) := by
 unfold p97
 simp only [p89_is,bind_val]
theorem p96_is (l:List Pr) (c:Int) (n:Nat) (hl:l.length≤2097152) (hf:4194304<fu) (ha:AtP l c n) :
  p96 fu (l,c,((),()),())=some ((),(n:Int),(if h:n<l.length then decide (l[n].1=c) else false),()) := by
 obtain ⟨hn,ha1,ha2⟩ := ha
 unfold p96
 refine loop_val (I := fun s => ∃ h i:Nat,s=(((h:Int),(i:Int),()),())∧h≤n∧n≤i∧i≤l.length) (m := fun s=>Int.toNat s.1.2.1-Int.toNat s.1.1) ⟨0,l.length,rfl,Nat.zero_le _,hn,Nat.le_refl _⟩ (by simp only [Int.toNat_natCast]; omega) fun s hs => ?_
 obtain ⟨h,i,rfl,h1,h2,h3⟩ := hs
 by_cases hlt:h<i
 ·have hm:(h+i) / 2<l.length := by omega
  have hg:∀ d,l.getD ((h+i) / 2) d=l[(h+i) / 2] := fun d=>getD_lt hm
  simp only [mid_is (lo := h) (hi := i) (by omega),Int.ofNat_lt,hlt,Int.natCast_nonneg,hm,decide_true,cond_true,and_self,Int.toNat_natCast,hg,p97_is,bind_val,cmpZ_neg]
  by_cases hc:l[(h+i) / 2].1<c
  ·simp only [hc,decide_true,cond_true,i64_succ hm (by omega)]
   refine ⟨_,rfl,⟨_,_,rfl,?_,h2,h3⟩,by simp only [Int.toNat_natCast]; omega⟩
   rcases Nat.lt_or_ge ((h+i) / 2) n with g | g
   ·exact g
   ·exact absurd hc (ha2 _ hm g)
  ·simp only [hc,decide_false,cond_false]
   refine ⟨_,rfl,⟨_,_,rfl,h1,?_,by omega⟩,by simp only [Int.toNat_natCast]; omega⟩
   rcases Nat.lt_or_ge ((h+i) / 2) n with g | g
   ·exact absurd (ha1 _ hm g) hc
   ·exact g
 ·obtain rfl:h=n := by omega
  simp only [Int.ofNat_lt,hlt,decide_false,cond_false]
  by_cases hm:h<l.length
  ·have hg:∀ d,l.getD h d=l[h] := fun d=>getD_lt hm
   simp only [hm,Int.natCast_nonneg,decide_true,cond_true,and_self,Int.toNat_natCast,hg,p97_is,bind_val,dite_true]
   refine ⟨_,rfl,?_⟩
   have:(cmpZ l[h].1 c==0)=decide (l[h].1=c) := by
    have h5 := ha2 _ hm (Nat.le_refl _)
    unfold cmpZ
    by_cases hx:l[h].1>c
    ·have:¬ l[h].1=c := by omega
     simp [h5,hx,this]
    ·have:l[h].1=c := by omega
     simp [this]
   rw [this]
  ·simp only [hm,decide_false,cond_false,dite_false]
   exact ⟨_,rfl,rfl⟩
theorem p96_find (l:List Pr) (c:Int) (hl:l.length≤2097152) (hf:4194304<fu) (hs:SP l) :
  ∃ n:Nat,p96 fu (l,c,((),()),())=some ((),(n:Int),decide (findI l c<l.length),())∧(findI l c<l.length→n=findI l c) := by
 obtain ⟨n,hn⟩ := atP_some c l hs
 have key:(if h:n<l.length then decide (l[n].1=c) else false)=decide (findI l c<l.length)∧(findI l c<l.length→n=findI l c) := by
  by_cases hk:findI l c<l.length
  ·have e1:l[findI l c].1=c := by
    have hw:findI l c<l.length := hk
    have := List.findIdx_getElem (w := hw)
    have h2:l[List.findIdx (fun x=>x.1==c) l].1=c := by simpa using this
    exact h2
   have e2:n=findI l c := by
    rcases Nat.lt_trichotomy n (findI l c) with g | g | g
    ·have hnl:n<l.length := by omega
     have h1 := hn.2.2 n hnl (Nat.le_refl _)
     have h2 := List.pairwise_iff_getElem.1 hs n (findI l c) hnl hk g
     omega
    ·exact g
    ·have := hn.2.1 _ hk g
     omega
   subst e2
   simp [hk,e1]
  ·have hne:∀ h:n<l.length,¬ l[n].1=c := fun h e=>by
    have := findI_le l c
    have h1:findI l c≤n := by
     rcases Nat.lt_or_ge n (findI l c) with g | g
     ·have := List.not_of_lt_findIdx g
      rw [e] at this
      simp at this
     ·exact g
    omega
   refine ⟨?_,fun h=>absurd h hk⟩
   by_cases h:n<l.length
   ·simp [h,hne h,hk]
   ·simp [h,hk]
 refine ⟨n,?_,key.2⟩
 rw [p96_is l c n hl hf hn,key.1]
def noPr:Pr := (0,0,false,0)
def lastS (rs:List Rd) (id:Int):Int := rs.foldl (fun a x=>if x.2.2.2.1=id then x.2.2.2.2 else a) 0
theorem lastS_snoc (rs:List Rd) (x:Rd) (id:Int):lastS (rs ++ [x]) id=if x.2.2.2.1=id then x.2.2.2.2 else lastS rs id := by
 unfold lastS
 rw [List.foldl_append]
 rfl
def recOk1 (lo hi:ByteArray) (ps:List Pr) (before:List Rd) (x:Rd):Bool :=
 decide (findI ps x.2.2.2.1<ps.length) && (hasB lo hi x.2.1 && (decide (lastS before x.2.2.2.1<x.2.2.2.2) && decide (x.2.2.2.2≤(ps.getD (findI ps x.2.2.2.1) noPr).2.1)))
def recOk (lo hi:ByteArray) (ps:List Pr) (l:List Rd) (j:Nat):Bool := recOk1 lo hi ps (l.take j) (l.getD j noRec)
def lastL (ps:List Pr) (l:List Rd) (i:Nat):List Int := ps.map fun y=>lastS (l.take i) y.1
theorem find_id {ps:List Pr} {id:Int} (hk:findI ps id<ps.length):(ps[findI ps id]).1=id := by
 have hw:findI ps id<ps.length := hk
 have := List.findIdx_getElem (w := hw)
 have h2:ps[List.findIdx (fun x=>x.1==id) ps].1=id := by simpa using this
 exact h2
theorem sp_inj {ps:List Pr} (hs:SP ps) {i j:Nat} (hi:i<ps.length) (hj:j<ps.length) (h:ps[i].1=ps[j].1):i=j := by
 rcases Nat.lt_trichotomy i j with g | g | g
 ·have := List.pairwise_iff_getElem.1 hs i j hi hj g; omega
 ·exact g
 ·have := List.pairwise_iff_getElem.1 hs j i hj hi g; omega
theorem last_set {ps:List Pr} (hs:SP ps) {id s:Int} (F:Int→Int) (hk:findI ps id<ps.length) :
  (ps.map fun y=>F y.1).set (findI ps id) s=ps.map fun y=>if id=y.1 then s else F y.1 := by
 apply List.ext_getElem
 ·simp
 ·intro j h1 h2
  have hj:j<ps.length := by simpa using h2
  rw [List.getElem_set,List.getElem_map,List.getElem_map]
  by_cases e:findI ps id=j
  ·subst e
   simp [find_id hk]
  ·have:¬ id=ps[j].1 := fun g=>e (sp_inj hs hk hj ((find_id hk).trans g))
   simp [e,this]
theorem lastL_get {ps:List Pr} {l:List Rd} {i:Nat} {id:Int} (hk:findI ps id<ps.length) (d:Int):(lastL ps l i).getD (findI ps id) d=lastS (l.take i) id := by
 have hlen:findI ps id<(ps.map fun y=>lastS (l.take i) y.1).length := by simpa using hk
 show (ps.map fun y=>lastS (l.take i) y.1).getD _ d=_
 rw [getD_lt hlen,List.getElem_map,find_id hk]
theorem lastL_succ {ps:List Pr} {l:List Rd} {i:Nat} (hs:SP ps) (hi:i<l.length) (hk:findI ps l[i].2.2.2.1<ps.length) :
  (lastL ps l i).set (findI ps l[i].2.2.2.1) l[i].2.2.2.2=lastL ps l (i+1) := by
 unfold lastL
 rw [last_set hs (fun id=>lastS (l.take i) id) hk]
 apply List.map_congr_left
 intro y _
 rw [take_snoc' hi noRec,getD_lt hi,lastS_snoc]
theorem p62_is (lo up:ByteArray) (e z:Int) (l:List Rd) (ps:List Pr) (cs:List Cn) (hl:l.length≤2097152) (hp:ps.length≤2097152) (hs:SP ps) (hf:4194304<fu) :
  p62 fu ((lo,up,e,z,l,ps,cs,()),())=some ((),(List.range l.length).all (recOk lo up ps l)) := by
 unfold p62
 have h1:(0:Int)≤(ps.length:Int)∧(ps.length:Int)≤(ps.length:Int)∧(ps.length:Int)≤9223372036854775807∧(8:Int) * (ps.length:Int)≤140737488355328 := by omega
 simp only [h1,and_self,decide_true,cond_true,Int.toNat_natCast,List.length_replicate]
 have e0:((List.replicate ps.length (0:Int),(0:Int),()),())=(fun i:Nat=>((lastL ps l i,(i:Int),()),())) 0 := by
  simp only [lastL,List.take_zero,lastS,List.foldl_nil,List.map_const']
  rfl
 rw [e0]
 refine loop_for (List.range l.length) (fun i:Nat=>((lastL ps l i,(i:Int),()),())) (fun j => !recOk lo up ps l j) ((),false) ((),true) (by simp; omega) (fun i h => ?_) ?_ ?_
 ·have hi:i<l.length := by simpa using h
  have hll:(lastL ps l i).length=ps.length := by simp [lastL]
  obtain ⟨n,e1,e2⟩ := p96_find (fu := fu) ps l[i].2.2.2.1 hp hf hs
  have hg:∀ d,l.getD i d=l[i] := fun d=>getD_lt hi
  simp only [Int.ofNat_lt,hi,decide_true,cond_true,Int.natCast_nonneg,true_and,Int.toNat_natCast,hg,e1,bind_val,List.getElem_range,p80_is,recOk,recOk1]
  by_cases hk:findI ps l[i].2.2.2.1<ps.length
  ·obtain rfl := e2 hk
   have hgp:∀ d,ps.getD (findI ps l[i].2.2.2.1) d=ps[findI ps l[i].2.2.2.1] := fun d=>getD_lt hk
   simp only [hk,decide_true,Bool.not_true,cond_false,Bool.true_and]
   cases hh:hasB lo up l[i].2.1 with
   | false=>simp only [Bool.not_false,cond_true,Bool.false_and,inrO_val]
   | true =>
    simp only [Bool.not_true,cond_false,Bool.true_and,hll,hk,decide_true,cond_true,lastL_get hk,hgp,List.length_set]
    by_cases h3:lastS (l.take i) l[i].2.2.2.1<l[i].2.2.2.2
    ·have h3':¬ l[i].2.2.2.2≤lastS (l.take i) l[i].2.2.2.1 := by omega
     by_cases h4:l[i].2.2.2.2≤(ps[findI ps l[i].2.2.2.1]).2.1
     ·have h4':¬ l[i].2.2.2.2>(ps[findI ps l[i].2.2.2.1]).2.1 := by omega
      simp only [h3,h3',h4,h4',decide_true,decide_false,cond_false,Bool.and_self,Bool.not_true,lastL_succ hs hi hk,i64_succ hi (by omega)]
     ·have h4':l[i].2.2.2.2>(ps[findI ps l[i].2.2.2.1]).2.1 := by omega
      simp only [h3,h3',h4,h4',decide_true,decide_false,cond_false,cond_true,Bool.and_false,Bool.not_false,inrO_val]
    ·have h3':l[i].2.2.2.2≤lastS (l.take i) l[i].2.2.2.1 := by omega
     simp only [h3,h3',decide_true,decide_false,cond_true,Bool.false_and,Bool.not_false,inrO_val]
  ·simp only [hk,decide_false,Bool.not_false,cond_true,Bool.false_and,inrO_val]
 ·simp only [List.length_range,Int.lt_irrefl,decide_false,cond_false,inrO_val]
 ·rw [← List.not_all_eq_any_not]
  cases (List.range l.length).all (recOk lo up ps l) <;> rfl
def proOk (l:List Rd) (y:Pr):Bool := !y.2.2.1||(decide (y.2.2.2<(l.length:Int)) && ((l.getD y.2.2.2.toNat noRec).2.2.2.1==y.1 && (l.getD y.2.2.2.toNat noRec).2.2.2.2==y.2.1))
theorem p63_is (lo up:ByteArray) (e z:Int) (l:List Rd) (ps:List Pr) (cs:List Cn) (hl:l.length≤2097152) (hp:ps.length≤2097152) (h0:∀ y ∈ ps,0≤y.2.2.2) (hf:4194304<fu) :
  p63 fu ((lo,up,e,z,l,ps,cs,()),())=some ((),ps.all (proOk l)) := by
 unfold p63
 refine loop_for ps (fun i:Nat=>(((i:Int),()),())) (fun y => !proOk l y) ((),false) ((),true) (by omega) (fun i hi => ?_) ?_ ?_
 ·have hg:∀ d,ps.getD i d=ps[i] := fun d=>getD_lt hi
  have hz := h0 _ (List.getElem_mem hi)
  simp only [Int.ofNat_lt,hi,decide_true,cond_true,Int.natCast_nonneg,true_and,Int.toNat_natCast,hg,proOk,u64_wrap (x := (l.length:Int)) (by omega) (by omega)]
  cases hh:ps[i].2.2.1 with
  | false=>simp only [Bool.not_false,cond_true,Bool.true_or,Bool.not_true,cond_false,i64_succ hi (by omega)]
  | true =>
   simp only [Bool.not_true,cond_false,Bool.false_or]
   by_cases h3:ps[i].2.2.2<(l.length:Int)
   ·have h3':¬ ps[i].2.2.2≥(l.length:Int) := by omega
    have h3n:ps[i].2.2.2.toNat<l.length := by omega
    have hgl:∀ d,l.getD ps[i].2.2.2.toNat d=l[ps[i].2.2.2.toNat] := fun d=>getD_lt h3n
    simp only [h3,h3',h3n,hz,and_self,decide_true,decide_false,cond_true,cond_false,hgl,Bool.true_and]
    cases h4:(l[ps[i].2.2.2.toNat].2.2.2.1==ps[i].1) with
    | false=>simp only [bne,h4,Bool.not_false,cond_true,Bool.false_and,inrO_val]
    | true =>
     simp only [bne,h4,Bool.not_true,cond_false,Bool.true_and]
     cases h5:(l[ps[i].2.2.2.toNat].2.2.2.2==ps[i].2.1) with
     | false=>simp only [Bool.not_false,cond_true,inrO_val]
     | true=>simp only [Bool.not_true,cond_false,i64_succ hi (by omega)]
   ·have h3':ps[i].2.2.2≥(l.length:Int) := by omega
    simp only [h3,h3',decide_true,decide_false,cond_true,Bool.false_and,Bool.not_false,inrO_val]
 ·simp only [Int.lt_irrefl,decide_false,cond_false,inrO_val]
 ·rw [← List.not_all_eq_any_not]
  cases ps.all (proOk l) <;> rfl
def conOk (l:List Rd) (y:Cn):Bool := decide (y.2≤(l.length:Int))
theorem p64_is (lo up:ByteArray) (e z:Int) (l:List Rd) (ps:List Pr) (cs:List Cn) (hl:l.length≤2097152) (hp:cs.length≤2097152) (hf:4194304<fu) :
  p64 fu ((lo,up,e,z,l,ps,cs,()),())=some ((),cs.all (conOk l)) := by
 unfold p64
 refine loop_for cs (fun i:Nat=>(((i:Int),()),())) (fun y => !conOk l y) ((),false) ((),true) (by omega) (fun i hi => ?_) ?_ ?_
 ·have hg:∀ d,cs.getD i d=cs[i] := fun d=>getD_lt hi
  simp only [Int.ofNat_lt,hi,decide_true,cond_true,Int.natCast_nonneg,true_and,Int.toNat_natCast,hg,conOk,u64_wrap (x := (l.length:Int)) (by omega) (by omega)]
  by_cases h3:cs[i].2≤(l.length:Int)
  ·have h3':¬ cs[i].2>(l.length:Int) := by omega
   simp only [h3,h3',decide_true,decide_false,cond_false,Bool.not_true,i64_succ hi (by omega)]
  ·have h3':cs[i].2>(l.length:Int) := by omega
   simp only [h3,h3',decide_true,decide_false,cond_true,Bool.not_false,inrO_val]
 ·simp only [Int.lt_irrefl,decide_false,cond_false,inrO_val]
 ·rw [← List.not_all_eq_any_not]
  cases cs.all (conOk l) <;> rfl
abbrev St16 := ByteArray×ByteArray×Int×Int×List Rd×List Pr×List Cn×Unit
def chkS:St16→Bool
 | (lo,hi,e,_,l,ps,cs,_)=>(chkB lo hi==0) && ((e != 0) && (logOk l && (tabI ps && (okC cs && ((List.range l.length).all (recOk lo hi ps l) && (ps.all (proOk l) && cs.all (conOk l)))))))
def bndS:St16→Prop
 | (_,_,_,_,l,ps,cs,_)=>l.length≤2097152∧ps.length≤2097152∧okL cs ∧ ∀ y ∈ ps,0≤y.2.2.2
theorem p26_is (p:St16) (hb:bndS p) (hf:4194304<fu):p26 fu (p,())=some ((),bif chkS p then 0 else 165) := by
 obtain ⟨lo,hi,e,z,l,ps,cs,⟨⟩⟩ := p
 obtain ⟨h1,h2,h3,h4⟩ := hb
 unfold p26
 simp only [p41_is,bind_val,p43_is l (by omega) hf,p49_is ps (by omega) (show ps.length<fu by omega),p54_is cs h3 hf,p63_is lo hi e z l ps cs h1 h2 h4 hf,p64_is lo hi e z l ps cs h1 h3.1 hf,chkS]
 cases (chkB lo hi==0)
 ·rfl
 cases (e != 0)
 ·rfl
 cases logOk l
 ·rfl
 cases ht:tabI ps
 ·rfl
 simp only [p62_is lo hi e z l ps cs h1 h2 ((tab_iff ps).1 ht).2.1 hf,bind_val]
 cases okC cs
 ·rfl
 cases (List.range l.length).all (recOk lo hi ps l)
 ·rfl
 cases ps.all (proOk l)
 ·rfl
 cases cs.all (conOk l) <;> rfl
end
section
variable {fu:Nat}
abbrev Lw := List (Int×List Int)
def seqsOf (l:List Rd) (k:Int):List Int := (l.filter fun x=>x.2.2.2.1==k).map fun x=>x.2.2.2.2
def MapOf (m:Lw) (l:List Rd):Prop := ∀ k:Int,(lookM (.int .u64) m k).getD []=minsL (seqsOf l k)
theorem look_set (k v k':_):∀ m:Lw,lookM (.int .u64) (setM (.int .u64) m k v) k' = if k' = k then some v else lookM (.int .u64) m k'
 | []=>by
  show cond ((k':Int)==k) (some v) none=_
  by_cases h:k' = k
  ·have:((k':Int)==k)=true := beq_iff_eq.2 h
   rw [if_pos h,this]; rfl
  ·have:((k':Int)==k)=false := beq_eq_false_iff_ne.2 h
   rw [if_neg h,this]; rfl
 | p :: m=>by
  show lookM (.int .u64) (cond ((k:Int)==p.1) ((p.1,v) :: m) (p :: setM (.int .u64) m k v)) k' = _
  by_cases hp:k=p.1
  ·have h0:((k:Int)==p.1)=true := beq_iff_eq.2 hp
   rw [h0]
   show cond ((k':Int)==p.1) (some v) (lookM (.int .u64) m k')=if k' = k then some v else cond ((k':Int)==p.1) (some p.2) (lookM (.int .u64) m k')
   by_cases h:k' = k
   ·have:((k':Int)==p.1)=true := beq_iff_eq.2 (h.trans hp)
    rw [if_pos h,this]; rfl
   ·have:((k':Int)==p.1)=false := beq_eq_false_iff_ne.2 fun e=>h (e.trans hp.symm)
    rw [if_neg h,this]; rfl
  ·have h0:((k:Int)==p.1)=false := beq_eq_false_iff_ne.2 hp
   rw [h0]
   show cond ((k':Int)==p.1) (some p.2) (lookM (.int .u64) (setM (.int .u64) m k v) k')=if k' = k then some v else cond ((k':Int)==p.1) (some p.2) (lookM (.int .u64) m k')
   rw [look_set k v k' m]
   by_cases h:k' = k
   ·have:((k':Int)==p.1)=false := beq_eq_false_iff_ne.2 fun e=>hp (h.symm.trans e)
    rw [if_pos h,if_pos h,this]; rfl
   ·rw [if_neg h,if_neg h]
theorem look_map (f:List Int→List Int) (k:Int):∀ m:Lw,lookM (.int .u64) (m.map fun p=>(p.1,f p.2)) k=(lookM (.int .u64) m k).map f
 | []=>rfl
 | p :: m=>by
  show cond ((k:Int)==p.1) (some (f p.2)) (lookM (.int .u64) (m.map fun p=>(p.1,f p.2)) k)=(cond ((k:Int)==p.1) (some p.2) (lookM (.int .u64) m k)).map f
  rw [look_map f k m]
  cases ((k:Int)==p.1) <;> rfl
theorem grp_is (k:Int):∀ (l:List Rd) (m:Lw),(lookM (.int .u64) (l.foldl (fun m x=>setM (.int .u64) m x.2.2.2.1 ((lookM (.int .u64) m x.2.2.2.1).getD [] ++ [x.2.2.2.2])) m) k).getD []=(lookM (.int .u64) m k).getD [] ++ seqsOf l k
 | [],m=>by simp [seqsOf]
 | x :: l,m=>by
  rw [List.foldl_cons,grp_is k l,look_set]
  by_cases h:k=x.2.2.2.1
  ·have h':(x.2.2.2.1==k)=true := beq_iff_eq.2 h.symm
   rw [if_pos h]
   subst h
   simp only [Option.getD_some,seqsOf,List.filter_cons,beq_self_eq_true,if_true,List.map_cons,List.append_assoc,List.singleton_append]
  ·have h':(x.2.2.2.1==k)=false := beq_eq_false_iff_ne.2 fun e=>h e.symm
   rw [if_neg h]
   simp only [seqsOf,List.filter_cons,h',Bool.false_eq_true,if_false]
theorem low_is (l:List Rd):MapOf (lowM l) l := by
 intro k
 unfold lowM
 rw [look_map]
 have h := grp_is k l []
 have h0:(lookM (.int .u64) ([]:Lw) k).getD []=[] := rfl
 rw [h0,List.nil_append] at h
 have h':(lookM (.int .u64) (grpM l) k).getD []=seqsOf l k := h
 rw [← h']
 cases lookM (.int .u64) (grpM l) k <;> rfl
theorem mins_len:∀ l:List Int,(minsL l).length=l.length
 | []=>rfl
 | x :: l=>by simp only [minsL,List.length_cons,mins_len l]
theorem mins_head (s:Int):∀ (l:List Int) (d:Int),l ≠ []→decide ((minsL l).getD 0 d≥s)=l.all fun y=>decide (y≥s)
 | [],_,h=>absurd rfl h
 | [x],d,_=>by simp [minsL]
 | x :: y :: l,d,_=>by
  have ih := mins_head s (y :: l) d (by simp)
  rw [List.all_cons,← ih]
  have:∃ z t,minsL (y :: l)=z :: t := ⟨_,_,rfl⟩
  obtain ⟨z,t,e⟩ := this
  rw [minsL,e]
  simp only [List.getD_cons_zero]
  rw [Bool.eq_iff_iff,Bool.and_eq_true,decide_eq_true_eq,decide_eq_true_eq,decide_eq_true_eq]
  split <;> constructor <;> intro h <;> omega
def ahead (l r:List Rd):Bool := match l with
 | []=>false
 | x :: _=>(seqsOf r x.2.2.2.1).all fun y=>decide (y≥x.2.2.2.2)
theorem p45_1_is (l:List Rd) (t:List Int) (m:Lw):p45_1 fu ((l,t,m,()),())=some (((l,t,m,()),(),(),()),decide (0<l.length)) := by
 unfold p45_1
 have h:decide ((l.length:Int)>0)=decide (0<l.length) := decide_eq_decide.2 (by omega)
 simp only [decide_true,cond_true,h]
theorem p46_1_is (l r:List Rd) (t u:List Int) (m n:Lw) (hn:MapOf n r):p46_1 fu ((l,t,m,()),(r,u,n,()),())=some (((l,t,m,()),(),(),(r,u,n,()),(),(),()),ahead l r) := by
 unfold p46_1
 simp only [p45_1_is,bind_val,decide_true,cond_true]
 cases l with
 | nil=>rfl
 | cons x l =>
  have hg:∀ d,(x :: l).getD 0 d=x := fun d=>rfl
  have h0:(0:Int)<((x :: l).length:Int) := by simp only [List.length_cons]; omega
  have hk:(lookM (.int .u64) n x.2.2.2.1).getD []=minsL (seqsOf r x.2.2.2.1) := hn _
  have h1:(0:Int)<((l.length+1:Nat):Int) := by omega
  simp only [List.length_cons,Nat.succ_pos,decide_true,Bool.not_true,cond_false,hg,ahead,h1,Int.le_refl,true_and,cond_true]
  generalize (lookM (.int .u64) n x.2.2.2.1).getD []=q at hk
  subst hk
  simp only [mins_len]
  cases hs:seqsOf r x.2.2.2.1 with
  | nil=>rfl
  | cons y q =>
   have h2:(((y :: q).length:Int)==0)=false := beq_eq_false_iff_ne.2 (by simp only [List.length_cons]; omega)
   have h3:(0:Int)<((y :: q).length:Int) := by simp only [List.length_cons]; omega
   have h4:0<(y :: q).length := Nat.succ_pos _
   simp only [h2,h3,h4,decide_true,cond_true,cond_false]
   have := mins_head x.2.2.2.2 (y :: q) (dflt (.int .u64)) (by simp)
   rw [← this]
theorem p48_1_is (x:Rd) (l:List Rd) (t:List Int) (m:Lw) (h:Int) (hm:MapOf m (x :: l)) (ht:t.length≤2097152) :
  ∃ m':Lw,MapOf m' l∧p48_1 fu ((x :: l,t,m,()),h,())=some (((l,t ++ [h],m',()),(),(),()),(x.1,x.2.1,x.2.2.1,x.2.2.2.1,x.2.2.2.2,())) := by
 have hk:(lookM (.int .u64) m x.2.2.2.1).getD []=minsL (seqsOf (x :: l) x.2.2.2.1) := hm _
 have hs:seqsOf (x :: l) x.2.2.2.1=x.2.2.2.2 :: seqsOf l x.2.2.2.1 := by
  simp only [seqsOf,List.filter_cons,beq_self_eq_true,if_true,List.map_cons]
 refine ⟨setM (.int .u64) m x.2.2.2.1 (((lookM (.int .u64) m x.2.2.2.1).getD []).drop 1),fun k => ?_,?_⟩
 ·rw [look_set]
  by_cases h:k=x.2.2.2.1
  ·subst h
   rw [if_pos rfl,Option.getD_some,hk,hs]; rfl
  ·have h':(x.2.2.2.1==k)=false := beq_eq_false_iff_ne.2 fun e=>h e.symm
   rw [if_neg h,hm k]
   simp only [seqsOf,List.filter_cons,h',Bool.false_eq_true,if_false]
 ·unfold p48_1
  have hg:∀ d,(x :: l).getD 0 d=x := fun d=>rfl
  have h1:(0:Int)<((l.length+1:Nat):Int) := by omega
  have h2:1≤l.length+1 := Nat.succ_pos _
  have h3:1≤((lookM (.int .u64) m x.2.2.2.1).getD []).length := by rw [hk,mins_len,hs]; exact Nat.succ_pos _
  have h4:t.length+[h].length≤maxLen∧(t.length+[h].length) * 8≤140737488355328 := ⟨by unfold maxLen; simp only [List.length_singleton]; omega,by simp only [List.length_singleton]; omega⟩
  simp only [List.length_cons,Nat.succ_pos,decide_true,cond_true,hg,h1,h2,Int.le_refl,and_self]
  rw [decide_eq_true h3]
  simp only [cond_true]
  exact guardE ⟨by unfold maxLen; simp only [List.length_nil]; omega,by simp only [List.length_nil]; omega⟩
def jnS:Nat→List Rd→List Int→List Int→List Rd→List Rd→List Rd×List Int×List Int×Int×Unit
 | 0,n,t,u,_,_=>(n,t ++ [(n.length:Int)],u ++ [(n.length:Int)],0,())
 | k+1,n,t,u,l,r =>
  bif ahead l r then (match l with
   | []=>([],[],[],145,())
   | x :: l=>jnS k (n ++ [numR n x]) (t ++ [(n.length:Int)]) u l r)
  else bif ahead r l then (match r with
   | []=>([],[],[],145,())
   | x :: r=>jnS k (n ++ [numR n x]) t (u ++ [(n.length:Int)]) l r)
  else ([],[],[],145,())
def jnE (a b:List Rd):List Rd×List Int×List Int×Int×Unit :=
 bif logOk a && logOk b then (bif decide (a.length+b.length>4096) then ([],[],[],143,()) else jnS (a.length+b.length) [] [] [] a b) else ([],[],[],1,())
theorem ahead_cons {l r:List Rd} (h:ahead l r=true):∃ x l',l=x :: l' := by
 cases l with
 | nil=>cases h
 | cons x l=>exact ⟨x,l,rfl⟩
theorem first_is {a b:Bool} {α:Type} {x z:α} (h:a=true ∨ b=true):(bif a then x else bif b then x else z)=x := by
 cases a <;> cases b <;> simp_all
theorem p20_is (a b:List Rd) (ha:a.length≤1048576) (hb:b.length≤1048576) (hva:∀ x ∈ a,x.2.2.1.length≤1048576) (hvb:∀ x ∈ b,x.2.2.1.length≤1048576) (hf:4194304<fu) :
  p20 fu (a,b,())=some ((),jnE a b) := by
 unfold p20 jnE
 simp only [p43_is a (show a.length≤2097152 by omega) hf,p43_is b (show b.length≤2097152 by omega) hf,bind_val]
 cases logOk a
 ·simp only [Bool.not_false,cond_true,orK_inl,Bool.false_and,cond_false]
 cases logOk b
 ·simp only [Bool.not_false,Bool.not_true,cond_true,cond_false,orK_inl,Bool.and_false]
 simp only [Bool.not_true,cond_false,orK_inl,Bool.and_true,cond_true]
 have hw:IntKind.wrap .i64 ((a.length:Int)+(b.length:Int))=((a.length+b.length:Nat):Int) := by rw [i64_wrap (by omega) (by omega)]; omega
 by_cases h4:a.length+b.length>4096
 ·have h5:((a.length+b.length:Nat):Int)>4096 := by omega
  simp only [hw,h4,h5,decide_true,cond_true]
 have h5:¬ ((a.length+b.length:Nat):Int)>4096 := by omega
 have sa:pNewSrc fu (a,())=some ((),(a,(),lowM a,())) := guardE ha
 have sb:pNewSrc fu (b,())=some ((),(b,(),lowM b,())) := guardE hb
 simp only [hw,h4,h5,decide_false,cond_false,sa,sb,bind_val]
 refine loopO_eq (I := fun s => ∃ (n:List Rd) (l r:List Rd) (t u:List Int) (m m':Lw),s=((n,()),((l,t,m,()),(r,u,m',()),()))∧MapOf m l∧MapOf m' r∧n.length+l.length+r.length≤4096∧t.length≤n.length∧u.length≤n.length∧(∀ x ∈ l,x.2.2.1.length≤1048576) ∧ ∀ x ∈ r,x.2.2.1.length≤1048576)
  (m := fun s=>s.2.1.1.length+s.2.2.1.1.length) (g := fun s=>((),jnS (s.2.1.1.length+s.2.2.1.1.length) s.1.1 s.2.1.2.1 s.2.2.1.2.1 s.2.1.1 s.2.2.1.1)) (fun s hs => ?_) fu _ ⟨[],a,b,[],[],lowM a,lowM b,rfl,low_is a,low_is b,by simp only [List.length_nil]; omega,Nat.le_refl _,Nat.le_refl _,hva,hvb⟩ (by show a.length+b.length<fu; omega)
 obtain ⟨n,l,r,t,u,m,m',rfl,hm,hm',hn,ht,hu,hvl,hvr⟩ := hs
 have hwn:IntKind.wrap .u64 (n.length:Int)=(n.length:Int) := u64_wrap (by omega) (by omega)
 simp only [decide_true,cond_true,p45_1_is,bind_val,hwn]
 by_cases hz:l.length+r.length=0
 ·refine .inr ?_
  obtain rfl:l=[] := List.length_eq_zero_iff.1 (by omega)
  obtain rfl:r=[] := List.length_eq_zero_iff.1 (by omega)
  have g1:t.length+[(n.length:Int)].length≤maxLen∧(t.length+[(n.length:Int)].length) * 8≤140737488355328 := ⟨by unfold maxLen; simp only [List.length_singleton]; omega,by simp only [List.length_singleton]; omega⟩
  have g2:u.length+[(n.length:Int)].length≤maxLen∧(u.length+[(n.length:Int)].length) * 8≤140737488355328 := ⟨by unfold maxLen; simp only [List.length_singleton]; omega,by simp only [List.length_singleton]; omega⟩
  simp only [List.length_nil,Nat.lt_irrefl,decide_false,cond_false,g1,g2,and_self,decide_true,cond_true]
  rfl
 obtain ⟨k,hk⟩:∃ k,l.length+r.length=k+1 := ⟨l.length+r.length-1,by omega⟩
 have hor:decide (0<l.length)=true ∨ decide (0<r.length)=true := by
  rcases Nat.eq_zero_or_pos l.length with h | h
  ·exact .inr (decide_eq_true (by omega))
  ·exact .inl (decide_eq_true h)
 rw [first_is hor]
 simp only [orK_inl,p46_1_is l r t u m m' hm',bind_val]
 cases h1:ahead l r with
 | true =>
  obtain ⟨x,l,rfl⟩ := ahead_cons h1
  obtain ⟨q,hq,e⟩ := p48_1_is (fu := fu) x l t m (n.length:Int) hm (by omega)
  refine .inl ?_
  simp only [cond_true,e,bind_val,p47_1_is n x (by omega) (Nat.le_trans (hvl x List.mem_cons_self) (by omega))]
  refine ⟨_,rfl,⟨_,_,_,_,_,_,_,rfl,hq,hm',?_,?_,?_,fun y hy=>hvl y (List.mem_cons_of_mem _ hy),hvr⟩,?_,?_⟩
  ·simp only [List.length_append,List.length_cons,List.length_nil] at hn ⊢; omega
  ·simp only [List.length_append,List.length_cons,List.length_nil]; omega
  ·simp only [List.length_append,List.length_cons,List.length_nil]; omega
  ·simp only [List.length_cons]; omega
  ·have e1:(x :: l).length+r.length=(l.length+r.length)+1 := by simp only [List.length_cons]; omega
   simp only [e1,jnS,h1,cond_true]
 | false =>
  simp only [cond_false,p46_1_is r l u t m' m hm,bind_val]
  cases h2:ahead r l with
  | true =>
   obtain ⟨x,r,rfl⟩ := ahead_cons h2
   obtain ⟨q,hq,e⟩ := p48_1_is (fu := fu) x r u m' (n.length:Int) hm' (by omega)
   refine .inl ?_
   simp only [cond_true,e,bind_val,p47_1_is n x (by omega) (Nat.le_trans (hvr x List.mem_cons_self) (by omega))]
   refine ⟨_,rfl,⟨_,_,_,_,_,_,_,rfl,hm,hq,?_,?_,?_,hvl,fun y hy=>hvr y (List.mem_cons_of_mem _ hy)⟩,?_,?_⟩
   ·simp only [List.length_append,List.length_cons,List.length_nil] at hn ⊢; omega
   ·simp only [List.length_append,List.length_cons,List.length_nil]; omega
   ·simp only [List.length_append,List.length_cons,List.length_nil]; omega
   ·simp only [List.length_cons]; omega
   ·have e1:l.length+(x :: r).length=(l.length+r.length)+1 := by simp only [List.length_cons]; omega
    simp only [e1,jnS,h1,h2,cond_true,cond_false]
  | false =>
   refine .inr ?_
   simp only [cond_false,hk,jnS,h1,h2]
   rfl
def keepT (a c:ByteArray) (s:List Rd×List Int) (x:Rd):List Rd×List Int := (bif hasB a c x.2.1 then s.1 ++ [numR s.1 x] else s.1,s.2 ++ [(s.1.length:Int)])
def keepF (s:List Rd×List Int):List Rd×List Int := (s.1,s.2 ++ [(s.1.length:Int)])
def keepS (l:List Rd) (a c:ByteArray):List Rd×List Int := bif !logOk l then ([],[]) else bif (chkB a c != 0) then ([],[]) else keepF (l.foldl (keepT a c) ([],[]))
theorem log_at {l:List Rd} (h:logOk l=true):l.length≤4096 ∧ ∀ i (hi:i<l.length),l[i].1=(i:Int)∧l[i].2.1.size≤32∧l[i].2.2.1.length≤256 := by
 unfold logOk at h
 cases hb:(List.range l.length).any (wrong l) with
 | true=>rw [hb] at h; exact absurd h Bool.false_ne_true
 | false =>
  rw [hb,cond_false] at h
  refine ⟨of_decide_eq_true h,fun i hi => ?_⟩
  have := List.any_eq_false.1 hb i (List.mem_range.2 hi)
  unfold wrong at this
  have g:∀ d,l.getD i d=l[i] := fun d=>getD_lt hi
  simp only [g] at this
  cases h1:(l[i].1 != (i:Int)) with
  | true=>rw [h1] at this; exact absurd rfl this
  | false =>
   rw [h1,cond_false] at this
   have h1':l[i].1=(i:Int) := by simpa using h1
   by_cases h2:l[i].2.1.size>32
   ·rw [decide_eq_true h2] at this; exact absurd rfl this
   ·rw [decide_eq_false h2,cond_false] at this
    exact ⟨h1',by omega,by simpa using this⟩
theorem p37_is (l:List Rd) (a c:ByteArray) (hl:l.length≤1048576) (hf:4194304<fu):p37 fu (l,(a,c,()),())=some ((),(keepS l a c).1,(keepS l a c).2,()) := by
 unfold p37 keepS
 simp only [p43_is l (show l.length≤2097152 by omega) hf,p41_is,bind_val]
 cases ho:logOk l
 ·rfl
 cases hq:(chkB a c != 0) with
 | true=>rfl
 | false =>
 simp only [Bool.not_true,cond_false]
 refine loop_fold l (fun i s=>((s.1,s.2,(i:Int),()),())) (keepT a c) (fun s=>((),(keepF s).1,(keepF s).2,())) ([],[]) (fun i s=>s.1.length≤i∧s.2.length≤i) ⟨Nat.le_refl _,Nat.le_refl _⟩ (show l.length<fu by omega) (fun i hi s hs => ?_) (fun s hs => ?_) rfl
 ·obtain ⟨s1,s2⟩ := s
  obtain ⟨h1,h2⟩ := hs
  have h1:s1.length≤i := h1
  have h2:s2.length≤i := h2
  have hg:∀ d,l.getD i d=l[i] := fun d=>getD_lt hi
  have hw:IntKind.wrap .u64 (s1.length:Int)=(s1.length:Int) := u64_wrap (by omega) (by omega)
  have hv := ((log_at ho).2 i hi).2.2
  have g:s2.length+[(s1.length:Int)].length≤maxLen∧(s2.length+[(s1.length:Int)].length) * 8≤140737488355328 := ⟨by unfold maxLen; simp only [List.length_singleton]; omega,by simp only [List.length_singleton]; omega⟩
  simp only [Int.ofNat_lt,Int.natCast_nonneg,hi,decide_true,cond_true,and_self,Int.toNat_natCast,hg,hw,g,p80_is,bind_val,p47_1_is s1 l[i] (show s1.length≤2097152 by omega) (show l[i].2.2.1.length≤140737488355328 by omega),i64_succ hi (by omega),keepT]
  cases hasB a c l[i].2.1
  ·exact ⟨rfl,by show s1.length≤_; omega,by show (s2 ++ [_]).length≤_; rw [List.length_append]; simp only [List.length_singleton]; omega⟩
  ·exact ⟨rfl,by show (s1 ++ [_]).length≤_; rw [List.length_append]; simp only [List.length_singleton]; omega,by show (s2 ++ [_]).length≤_; rw [List.length_append]; simp only [List.length_singleton]; omega⟩
 ·obtain ⟨s1,s2⟩ := s
  have h1:s1.length≤l.length := hs.1
  have h2:s2.length≤l.length := hs.2
  have hw:IntKind.wrap .u64 (s1.length:Int)=(s1.length:Int) := u64_wrap (by omega) (by omega)
  have g:s2.length+[(s1.length:Int)].length≤maxLen∧(s2.length+[(s1.length:Int)].length) * 8≤140737488355328 := ⟨by unfold maxLen; simp only [List.length_singleton]; omega,by simp only [List.length_singleton]; omega⟩
  simp only [Int.ofNat_lt,Nat.lt_irrefl,decide_false,cond_false,decide_true,cond_true,hw,g,and_self]
  rfl
/-! ### The whole -/
def below (n l:List Rd):Prop := ∀ x ∈ n,∀ y ∈ l,x.2.2.2.1=y.2.2.2.1→x.2.2.2.2≤y.2.2.2.2
def Sd (b:Nat) (j l:List Rd) (to:List Int):Prop := to.length=l.length+1∧(b:Int)≤to.getD 0 0 ∧ ∀ i (h:i<l.length),∃ p:Nat,∃ hp:p<j.length,to.getD i 0=(p:Int)∧(p:Int)<to.getD (i+1) 0∧j[p].2=l[i].2
theorem sd_weak {b c:Nat} {j l:List Rd} {to:List Int} (h:Sd b j l to) (hc:c≤b):Sd c j l to := ⟨h.1,by have := h.2.1; omega,h.2.2⟩
theorem sd_nil (b:Nat) (j:List Rd):Sd b j [] [(b:Int)] := ⟨rfl,Int.le_refl _,fun _ h=>absurd h (Nat.not_lt_zero _)⟩
theorem sd_cons {b:Nat} {j l:List Rd} {to:List Int} {x:Rd} (h:Sd (b+1) j l to) (hb:b<j.length) (hx:j[b].2=x.2):Sd b j (x :: l) ((b:Int) :: to) := by
 obtain ⟨h1,h2,h3⟩ := h
 refine ⟨by simp only [List.length_cons,h1],Int.le_refl _,fun i hi => ?_⟩
 cases i with
 | zero =>
  refine ⟨b,hb,rfl,?_,hx⟩
  have e:((b:Int) :: to).getD (0+1) 0=to.getD 0 0 := rfl
  rw [e]
  omega
 | succ i=>exact h3 i (Nat.lt_of_succ_lt_succ hi)
theorem jn_stands:∀ (k:Nat) (n:List Rd) (t u:List Int) (l r:List Rd),l.length+r.length=k→(jnS k n t u l r).2.2.2.1=0 →
  ∃ (rest:List Rd) (tl ul:List Int),jnS k n t u l r=(n ++ rest,t ++ tl,u ++ ul,0,())∧rest.length=k∧Sd n.length (n ++ rest) l tl∧Sd n.length (n ++ rest) r ul ∧
   ∀ i (h:i<rest.length),rest[i].1=((n.length+i:Nat):Int) ∧ ∃ y,(y ∈ l ∨ y ∈ r)∧rest[i].2=y.2
 | 0,n,t,u,l,r,hk,_=>by
  obtain rfl:l=[] := List.length_eq_zero_iff.1 (by omega)
  obtain rfl:r=[] := List.length_eq_zero_iff.1 (by omega)
  exact ⟨[],[(n.length:Int)],[(n.length:Int)],by rw [List.append_nil]; rfl,rfl,sd_nil _ _,sd_nil _ _,fun i h=>absurd h (Nat.not_lt_zero _)⟩
 | k+1,n,t,u,l,r,hk,he=>by
  unfold jnS at he ⊢
  have hnum:∀ (x:Rd) (rest:List Rd),∃ hb:n.length<(n ++ numR n x :: rest).length,(n ++ numR n x :: rest)[n.length].2=x.2 := fun x rest=>⟨by simp,by rw [List.getElem_append_right (Nat.le_refl _)]; simp [numR]⟩
  have hlen:∀ x:Rd,(n ++ [numR n x]).length=n.length+1 := fun x=>by simp
  have happ:∀ (x:Rd) (rest:List Rd),n ++ [numR n x] ++ rest=n ++ numR n x :: rest := fun x rest=>by simp
  cases h1:ahead l r with
  | true =>
   obtain ⟨x,l,rfl⟩ := ahead_cons h1
   rw [h1] at he
   obtain ⟨rest,tl,ul,e1,e2,e3,e4,e5⟩ := jn_stands k (n ++ [numR n x]) (t ++ [(n.length:Int)]) u l r (by simp only [List.length_cons] at hk; omega) he
   rw [hlen,happ] at e3 e4
   obtain ⟨hb,hx⟩ := hnum x rest
   refine ⟨numR n x :: rest,(n.length:Int) :: tl,ul,?_,by rw [List.length_cons,e2],sd_cons e3 hb hx,sd_weak e4 (Nat.le_succ _),fun i hi => ?_⟩
   ·show jnS k (n ++ [numR n x]) (t ++ [(n.length:Int)]) u l r=_
    rw [e1,happ,List.append_assoc]; rfl
   ·cases i with
    | zero=>exact ⟨rfl,x,.inl List.mem_cons_self,rfl⟩
    | succ i =>
     obtain ⟨q1,y,q2,q3⟩ := e5 i (Nat.lt_of_succ_lt_succ hi)
     exact ⟨by simp only [List.getElem_cons_succ]; rw [q1,hlen]; omega,y,q2.imp (List.mem_cons_of_mem _) id,q3⟩
  | false =>
   cases h2:ahead r l with
   | true =>
    obtain ⟨x,r,rfl⟩ := ahead_cons h2
    rw [h1,h2] at he
    obtain ⟨rest,tl,ul,e1,e2,e3,e4,e5⟩ := jn_stands k (n ++ [numR n x]) t (u ++ [(n.length:Int)]) l r (by simp only [List.length_cons] at hk; omega) he
    rw [hlen,happ] at e3 e4
    obtain ⟨hb,hx⟩ := hnum x rest
    refine ⟨numR n x :: rest,tl,(n.length:Int) :: ul,?_,by rw [List.length_cons,e2],sd_weak e3 (Nat.le_succ _),sd_cons e4 hb hx,fun i hi => ?_⟩
    ·show jnS k (n ++ [numR n x]) t (u ++ [(n.length:Int)]) l r=_
     rw [e1,happ,List.append_assoc]; rfl
    ·cases i with
     | zero=>exact ⟨rfl,x,.inr List.mem_cons_self,rfl⟩
     | succ i =>
      obtain ⟨q1,y,q2,q3⟩ := e5 i (Nat.lt_of_succ_lt_succ hi)
      exact ⟨by simp only [List.getElem_cons_succ]; rw [q1,hlen]; omega,y,q2.imp id (List.mem_cons_of_mem _),q3⟩
   | false =>
    rw [h1,h2] at he
    exact absurd he (by show ¬ (145:Int)=0; decide)
def Kp (a c:ByteArray) (b:Nat) (j l:List Rd) (to:List Int):Prop := to.length=l.length+1∧to.getD 0 0=(b:Int) ∧
 ∀ i (h:i<l.length),∃ p:Nat,to.getD i 0=(p:Int)∧to.getD (i+1) 0=(bif hasB a c l[i].2.1 then (p:Int)+1 else (p:Int))∧p≤j.length∧(hasB a c l[i].2.1=true → ∃ hp:p<j.length,j[p].2=l[i].2)
theorem kp_fold (a c:ByteArray):∀ (l j0:List Rd) (k0:List Int),∃ (rest:List Rd) (to:List Int),keepF (l.foldl (keepT a c) (j0,k0))=(j0 ++ rest,k0 ++ to)∧Kp a c j0.length (j0 ++ rest) l to∧rest.length≤l.length
 | [],j0,k0=>⟨[],[(j0.length:Int)],by rw [List.append_nil]; rfl,⟨rfl,rfl,fun i h=>absurd h (Nat.not_lt_zero _)⟩,Nat.le_refl _⟩
 | x :: l,j0,k0=>by
  rw [List.foldl_cons]
  cases hx:hasB a c x.2.1 with
  | true =>
   have e:keepT a c (j0,k0) x=(j0 ++ [numR j0 x],k0 ++ [(j0.length:Int)]) := by unfold keepT; rw [hx]; rfl
   obtain ⟨rest,to,e1,⟨h1,h2,h3⟩,h4⟩ := kp_fold a c l (j0 ++ [numR j0 x]) (k0 ++ [(j0.length:Int)])
   have happ:j0 ++ [numR j0 x] ++ rest=j0 ++ numR j0 x :: rest := by simp
   have hlen:(j0 ++ [numR j0 x]).length=j0.length+1 := by simp
   rw [happ] at h3
   rw [hlen] at h2
   refine ⟨numR j0 x :: rest,(j0.length:Int) :: to,by rw [e,e1,happ,List.append_assoc]; rfl,⟨by simp only [List.length_cons,h1],rfl,fun i hi => ?_⟩,by simp only [List.length_cons]; omega⟩
   cases i with
   | zero =>
    refine ⟨j0.length,rfl,?_,by simp,fun _=>⟨by simp,?_⟩⟩
    ·show to.getD 0 0=bif hasB a c x.2.1 then _ else _
     rw [h2,hx]; rfl
    ·rw [List.getElem_append_right (Nat.le_refl _)]; simp [numR]
   | succ i=>exact h3 i (Nat.lt_of_succ_lt_succ hi)
  | false =>
   have e:keepT a c (j0,k0) x=(j0,k0 ++ [(j0.length:Int)]) := by unfold keepT; rw [hx]; rfl
   obtain ⟨rest,to,e1,⟨h1,h2,h3⟩,h4⟩ := kp_fold a c l j0 (k0 ++ [(j0.length:Int)])
   refine ⟨rest,(j0.length:Int) :: to,by rw [e,e1,List.append_assoc]; rfl,⟨by simp only [List.length_cons,h1],rfl,fun i hi => ?_⟩,by simp only [List.length_cons]; omega⟩
   cases i with
   | zero =>
    refine ⟨j0.length,rfl,?_,by simp,fun h => ?_⟩
    ·show to.getD 0 0=bif hasB a c x.2.1 then _ else _
     rw [h2,hx]; rfl
    ·have h:hasB a c x.2.1=true := h
     rw [hx] at h; cases h
   | succ i=>exact h3 i (Nat.lt_of_succ_lt_succ hi)
theorem sd_mono {b:Nat} {j l:List Rd} {to:List Int} (h:Sd b j l to):∀ k i,i≤k→k≤l.length→to.getD i 0≤to.getD k 0
 | 0,i,hi,_=>by
  obtain rfl:i=0 := Nat.le_zero.1 hi
  exact Int.le_refl _
 | k+1,i,hi,hk=>by
  rcases Nat.lt_or_ge k i with h1 | h1
  ·obtain rfl:i=k+1 := by omega
   exact Int.le_refl _
  ·obtain ⟨p,_,e1,e2,_⟩ := h.2.2 k (by omega)
   have := sd_mono h k i h1 (by omega)
   omega
theorem jn_last:∀ (k:Nat) (n:List Rd) (t u:List Int) (l r:List Rd),(jnS k n t u l r).2.2.2.1=0 →
  ∃ X Y:List Int,(jnS k n t u l r).2.1=X ++ [((jnS k n t u l r).1.length:Int)]∧(jnS k n t u l r).2.2.1=Y ++ [((jnS k n t u l r).1.length:Int)]
 | 0,n,t,u,l,r,_=>⟨t,u,rfl,rfl⟩
 | k+1,n,t,u,l,r,he=>by
  unfold jnS at he ⊢
  cases h1:ahead l r with
  | true =>
   obtain ⟨x,l,rfl⟩ := ahead_cons h1
   rw [h1] at he
   exact jn_last k _ _ _ l r he
  | false =>
   cases h2:ahead r l with
   | true =>
    obtain ⟨x,r,rfl⟩ := ahead_cons h2
    rw [h1,h2] at he
    exact jn_last k _ _ _ l r he
   | false =>
    rw [h1,h2] at he
    exact absurd he (by show ¬ (145:Int)=0; decide)
theorem snoc_last {X:List Int} {m:Int} {to:List Int} (h:to=X ++ [m]) {n:Nat} (hn:to.length=n+1):to.getD n 0=m := by
 subst h
 have:X.length=n := by simpa using hn
 subst this
 simp
end
section
variable {fu:Nat}
def isU (x:Int):Prop := 0≤x∧x<18446744073709551616
def atS (o:List Int) (c:Int):Int := o.getD (min (Int.toNat c) (o.length-1)) 0
theorem p57_is (o:List Int) (c:Int) (ho:0<o.length) (hl:o.length≤2097152) (hc:isU c):p57 fu (o,c,())=some ((),atS o c) := by
 obtain ⟨c1,c2⟩ := hc
 unfold p57 atS
 have e1:IntKind.wrap .u64 (IntKind.wrap .i64 ((o.length:Int)-1))=((o.length-1:Nat):Int) := by
  rw [i64_pred ho (by omega),u64_wrap (by omega) (by omega)]
 have e2:(if ((o.length-1:Nat):Int)<c then ((o.length-1:Nat):Int) else c)=((min (Int.toNat c) (o.length-1):Nat):Int) := by split <;> omega
 have hlt:min (Int.toNat c) (o.length-1)<o.length := by omega
 simp only [e1,e2,Int.natCast_nonneg,Int.ofNat_lt,hlt,and_self,decide_true,cond_true,Int.toNat_natCast,getD_lt hlt]
/-! ### Map -/
def mvC (o:List Int) (x:Cn):Cn := (x.1,atS o x.2)
def mapS (l:List Cn) (o:List Int):List Cn := bif decide (0<o.length) then l.map (mvC o) else []
theorem okL_u {l:List Cn} (h:okL l) {i:Nat} (hi:i<l.length):isU l[i].2 := (h.2 _ (List.getElem_mem hi)).2
theorem take_set_succ {α:Type} (l:List α) (i:Nat) (x:α) (h:i<l.length):(l.set i x).take (i+1)=l.take i ++ [x] := by
 rw [List.take_succ_eq_append_getElem (by simpa using h),List.getElem_set_self,List.take_set_of_le (Nat.le_refl _)]
theorem p100_is (l:List Cn) (o:List Int) (ho:0<o.length) (hl:okL l) (hol:o.length≤2097152) (hf:4194304<fu) :
  p100 fu (l,((),((((o,()),()),()),())),())=some (((((o,()),()),()),()),l.map (mvC o)) := by
 have hn:l.length≤2097152 := hl.1
 unfold p100
 cases hz:((l.length:Int)==0) with
 | true =>
  have:l=[] := List.length_eq_zero_iff.1 (by have := beq_iff_eq.1 hz; omega)
  subst this
  rfl
 | false =>
 have h1:(0:Int)≤(l.length:Int)∧(l.length:Int)≤(l.length:Int)∧(l.length:Int)≤9223372036854775807∧(24:Int) * (l.length:Int)≤140737488355328 := by omega
 simp only [hz,cond_false,h1,and_self,decide_true,cond_true,Int.toNat_natCast,List.length_replicate]
 refine (loopO_eq (I := fun s => ∃ (f:List Cn) (i:Nat),s=((f,(i:Int),()),((((o,()),()),()),()))∧i≤l.length∧f.length=l.length) (m := fun s=>l.length-Int.toNat s.1.2.1) (g := fun s=>(((((o,()),()),()),()),s.1.1.take (Int.toNat s.1.2.1) ++ (l.drop (Int.toNat s.1.2.1)).map (mvC o))) (fun s hs => ?_) fu _ ⟨_,0,rfl,Nat.zero_le _,List.length_replicate⟩ (by show l.length-0<fu; omega)).trans (show _=some (((((o,()),()),()),()),l.map (mvC o)) by simp)
 obtain ⟨f,i,rfl,h2,h3⟩ := hs
 by_cases h:i<l.length
 ·refine .inl ?_
  have hg:∀ d,l.getD i d=l[i] := fun d=>getD_lt h
  have h':i<f.length := by omega
  have e69:p101 fu ((l[i].1,l[i].2,()),((((o,()),()),()),()))=some (((((o,()),()),()),()),(l[i].1,atS o l[i].2,())) := by
   unfold p101
   simp only [p57_is o _ ho hol (okL_u hl h),bind_val]
  simp only [Int.ofNat_lt,Int.natCast_nonneg,h,h',decide_true,cond_true,and_self,Int.toNat_natCast,hg,e69,bind_val,i64_succ h (by omega),List.length_set]
  refine ⟨_,rfl,⟨_,i+1,rfl,h,by rw [List.length_set]; exact h3⟩,by simp only [Int.toNat_natCast]; omega,?_⟩
  simp only [Int.toNat_natCast,take_set_succ f i _ h',List.drop_eq_getElem_cons h,List.map_cons,List.append_assoc,List.singleton_append]
  rfl
 ·refine .inr ?_
  obtain rfl:i=l.length := by omega
  simp only [Int.ofNat_lt,Nat.lt_irrefl,decide_false,cond_false,Int.toNat_natCast,List.drop_length,List.map_nil,List.append_nil]
  rw [← h3,List.take_length]
  rfl
theorem p39_is (l:List Cn) (o:List Int) (hl:okL l) (hol:o.length≤2097152) (hf:4194304<fu):p39 fu (l,o,())=some ((),mapS l o) := by
 unfold p39 mapS
 by_cases h:0<o.length
 ·have h0:((o.length:Int)==0)=false := beq_eq_false_iff_ne.2 (by omega)
  simp only [h0,cond_false,p84,p100_is l o h hl hol hf,bind_val,h,decide_true,cond_true]
 ·have h0:((o.length:Int)==0)=true := beq_iff_eq.2 (by omega)
  simp only [h0,cond_true,h,decide_false,cond_false]
theorem read_u {l:List Cn} (h:okL l) (c:ByteArray):isU (readC l c).1 := by
 unfold readC
 cases hx:l.find? fun x=>x.1.toList==c.toList with
 | some x=>exact (h.2 x (List.mem_of_find?_eq_some hx)).2
 | none=>exact ⟨Int.le_refl _,by decide⟩
def minI (a b:Int):Int := if b<a then b else a
def stepB (a b:List Cn) (f h:List Int) (l:List Cn) (x:Cn):List Cn := insS l (x.1,minI (atS f (readC a x.1).1) (atS h (readC b x.1).1))
def foldB (a b:List Cn) (f h:List Int):List Cn := (a ++ b).foldl (stepB a b f h) []
def finB (l:List Cn):List Cn×Int := bif decide (l.length>64) then ([],143) else (l,0)
def bothS (a b:List Cn) (f h:List Int):List Cn×Int :=
 bif !okC a then ([],1) else bif !okC b then ([],1) else bif decide (0<f.length) then (bif decide (0<h.length) then finB (foldB a b f h) else ([],1)) else ([],1)
theorem p91_is (n:Nat) (hn:n≤2097152):p91 fu ((),(n:Int),())=some ((),[]) := by
 unfold p91
 have e0:IntKind.wrap .i64 ((n:Int)-0)=(n:Int) := by rw [Int.sub_zero,i64_wrap (by omega) (by omega)]
 have h0:¬ (n:Int)<0 := by omega
 simp only [e0,h0,decide_false,cond_false]
 by_cases h:(n:Int)>0
 ·have h1:(0:Int)<(n:Int)∧(n:Int) * 24≤140737488355328∧(n:Int)≤9223372036854775807 := by omega
  simp only [h,h1,and_self,Nat.le_refl,Nat.zero_le,decide_true,cond_true,List.take_zero,List.length_nil]
 ·simp only [h,decide_false,cond_false]
theorem p55_is (a b:List Cn) (ha:a.length≤64) (hb:b.length≤64) (hf:4194304<fu):p55 fu ([a,b],())=some ((),a ++ b) := by
 have hx:∀ x ∈ [a,b],x.length≤64 := by simp [ha,hb]
 have hn:[a,b].length=2 := rfl
 generalize hll:[a,b]=ll at hx hn
 have he:ll.foldl (fun u x=>u ++ x) []=a ++ b := by subst hll; simp
 clear hll
 unfold p55
 refine loop_fold ll (fun i (c:Int)=>((c,(i:Int),()),())) (fun c x=>c+(x.length:Int)) (fun _=>((),a ++ b)) 0 (fun i c=>0≤c∧c≤64 * (i:Int)) ⟨Int.le_refl _,Int.le_refl _⟩ (by omega) (fun i hi c hc => ?_) (fun c hc => ?_) rfl
 ·have hg:∀ d,ll.getD i d=ll[i] := fun d=>getD_lt hi
  have hl := hx _ (List.getElem_mem hi)
  have e1:IntKind.wrap .i64 (c+(ll[i].length:Int))=c+(ll[i].length:Int) := i64_wrap (by omega) (by omega)
  have e2:¬ c+(ll[i].length:Int)<0 := by omega
  refine ⟨?_,by omega,by omega⟩
  simp only [Int.ofNat_lt,Int.natCast_nonneg,hi,decide_true,cond_true,and_self,Int.toNat_natCast,hg,e1,e2,decide_false,cond_false,i64_succ hi (by omega)]
 ·obtain ⟨n,rfl⟩:∃ n:Nat,c=(n:Int) := ⟨Int.toNat c,by omega⟩
  simp only [Int.ofNat_lt,Nat.lt_irrefl,decide_false,cond_false,p91_is n (show n≤2097152 by omega),bind_val,decide_true,cond_true]
  have:∀ (o:Option (Unit×List Cn)) (r:Unit×List Cn),o=some r→inrO (E := ((Int×Int×Unit)×Unit)) o=some (.inr r) := fun o r h=>by rw [h]; rfl
  refine this _ _ ?_
  refine loop_fold ll (fun i (u:List Cn)=>((u,(i:Int),()),())) (fun u x=>u ++ x) (fun u=>((),u)) [] (fun i u=>u.length≤64 * i) (Nat.le_refl _) (by omega) (fun i hi u hu => ?_) (fun u hu => ?_) (by rw [he])
  ·have hg:∀ d,ll.getD i d=ll[i] := fun d=>getD_lt hi
   have hl := hx _ (List.getElem_mem hi)
   refine ⟨?_,by rw [List.length_append]; omega⟩
   simp only [Int.ofNat_lt,Int.natCast_nonneg,hi,decide_true,cond_true,and_self,Int.toNat_natCast,hg,i64_succ hi (by omega)]
   exact guardE ⟨by unfold maxLen; omega,by omega⟩
  ·simp only [Int.ofNat_lt,Nat.lt_irrefl,decide_false,cond_false]; rfl
theorem p24_is (a b:List Cn) (f h:List Int) (ha:okL a) (hb:okL b) (hlf:f.length≤2097152) (hlh:h.length≤2097152) (hf:4194304<fu):p24 fu (a,b,f,h,())=some ((),(bothS a b f h).1,(bothS a b f h).2,()) := by
 unfold p24 bothS
 simp only [p54_is a ha hf,p54_is b hb hf,bind_val]
 cases hoa:okC a
 ·rfl
 cases hob:okC b
 ·rfl
 have la := (okC_rises hoa).2
 have lb := (okC_rises hob).2
 rcases Nat.eq_zero_or_pos f.length with h0' | h0
 ·have h0:¬ 0<f.length := by omega
  have h1:((f.length:Int)==0)=true := beq_iff_eq.2 (by omega)
  simp only [h0,h1,Bool.not_true,cond_false,cond_true,decide_false]
 rcases Nat.eq_zero_or_pos h.length with h2' | h2
 ·have h2:¬ 0<h.length := by omega
  have h1:((f.length:Int)==0)=false := beq_eq_false_iff_ne.2 (by omega)
  have h3:((h.length:Int)==0)=true := beq_iff_eq.2 (by omega)
  simp only [h0,h1,h2,h3,Bool.not_true,cond_false,cond_true,decide_false,decide_true]
 have h1:((f.length:Int)==0)=false := beq_eq_false_iff_ne.2 (by omega)
 have h3:((h.length:Int)==0)=false := beq_eq_false_iff_ne.2 (by omega)
 simp only [h0,h1,h2,h3,Bool.not_true,cond_false,cond_true,decide_true,p55_is a b la lb hf,bind_val]
 refine loop_fold (a ++ b) (fun i l=>((l,(i:Int),()),())) (stepB a b f h) (fun l=>((),(finB l).1,(finB l).2,())) [] (fun i l=>Rises l∧l.length≤i) ⟨List.Pairwise.nil,Nat.le_refl _⟩ (by simp only [List.length_append]; omega) (fun i hi l hl => ?_) (fun l hl => ?_) rfl
 ·obtain ⟨hr,hll⟩ := hl
  have hi':i<a.length+b.length := by simpa using hi
  have hg:∀ d,(a ++ b).getD i d=(a ++ b)[i] := fun d=>getD_lt hi
  refine ⟨?_,rises_insS hr,Nat.le_trans (len_insS _ _) (Nat.succ_le_succ hll)⟩
  simp only [Int.ofNat_lt,Int.natCast_nonneg,hi,decide_true,cond_true,and_self,Int.toNat_natCast,hg,p56_is a _ (show a.length≤2097152 by omega) hf,p56_is b _ (show b.length≤2097152 by omega) hf,bind_val,p57_is f _ h0 hlf (read_u ha _),p57_is h _ h2 hlh (read_u hb _),p58_is l _ _ hr (show l.length≤2097151 by omega) hf,i64_succ hi' (by omega)]
  rfl
 ·simp only [Int.ofNat_lt,Nat.lt_irrefl,decide_false,cond_false,finB]
  by_cases h6:l.length>64
  ·have h7:(l.length:Int)>64 := by omega
   simp only [h6,h7,decide_true,cond_true]; rfl
  ·have h7:¬ (l.length:Int)>64 := by omega
   simp only [h6,h7,decide_false,cond_false]; rfl
end
section
variable {fu:Nat}
def laterP (x y:Pr):Pr := if y.2.1>x.2.1 then y else if y.2.1=x.2.1∧y.2.2.1=true∧x.2.2.1=false then y else x
theorem p53_is (x y:Pr):p53 fu ((x.1,x.2.1,x.2.2.1,x.2.2.2,()),(y.1,y.2.1,y.2.2.1,y.2.2.2,()),())=some ((),((laterP x y).1,(laterP x y).2.1,(laterP x y).2.2.1,(laterP x y).2.2.2,())) := by
 obtain ⟨a,b,c,d⟩ := x
 obtain ⟨e,f,g,h⟩ := y
 simp only [p53,laterP]
 by_cases h1:f>b
 ·simp [h1]
 ·by_cases h2:f=b
  ·subst h2; cases g <;> cases c <;> simp
  ·have h3:(f==b)=false := by simpa using h2
   simp [h1,h2,h3]
theorem p51_is (l r:List Pr) (hb:(l.length+r.length) * 32≤140737488355328) (hf:l.length+r.length<fu) :
  p51 fu (l,r,((),()),((),()),())=some ((),merge laterP l r) := by
 unfold p51
 refine orK_loop (I := fun s => ∃ v0 v1 v9:List Pr,s=((v0,v1,v9,()),())∧v9 ++ merge laterP v0 v1=merge laterP l r∧v9.length+v0.length+v1.length≤l.length+r.length)
   (m := fun s=>s.1.1.length+s.1.2.1.length)
   (Q := fun z => ∃ v0 v1 v9:List Pr,z = .inl ((v0,v1,v9,()),())∧(v0=[] ∨ v1=[])∧v9 ++ merge laterP v0 v1=merge laterP l r∧v9.length+v0.length+v1.length≤l.length+r.length)
   ⟨l,r,[],rfl,rfl,by simp⟩ (by simpa using hf) ?_ ?_
 ·rintro s ⟨v0,v1,v9,rfl,h1,h2⟩
  cases v0 with
  | nil=>exact ⟨.inr (.inl (([],v1,v9,()),())),by simp [inrO],[],v1,v9,rfl,.inl rfl,h1,h2⟩
  | cons x a =>
   cases v1 with
   | nil=>exact ⟨.inr (.inl ((x :: a,[],v9,()),())),by simp [inrO],x :: a,[],v9,rfl,.inr rfl,h1,h2⟩
   | cons y b =>
    rw [merge_cons] at h1
    simp only [List.length_cons] at h2
    have hp := p52_is (fu := fu) x y
    have hm:v9.length+1≤maxLen∧(v9.length+1) * 32≤140737488355328 := by unfold maxLen; omega
    by_cases c1:x.1<y.1
    ·rw [if_pos c1] at h1
     have hc:cmpZ x.1 y.1 = -1 := by simp [cmpZ,c1]
     refine ⟨.inl ((a,y :: b,v9 ++ [x],()),()),?_,⟨a,y :: b,v9 ++ [x],rfl,by simpa using h1,by simp; omega⟩,by simp⟩
     simp [hp,hc,hm]
    ·rw [if_neg c1] at h1
     by_cases c2:x.1>y.1
     ·rw [if_pos c2] at h1
      have hc:cmpZ x.1 y.1=1 := by simp [cmpZ,c1,c2]
      refine ⟨.inl ((x :: a,b,v9 ++ [y],()),()),?_,⟨x :: a,b,v9 ++ [y],rfl,by simpa using h1,by simp; omega⟩,by simp⟩
      simp [hp,hc,hm]
     ·rw [if_neg c2] at h1
      have hc:cmpZ x.1 y.1=0 := by simp [cmpZ,c1,c2]
      refine ⟨.inl ((a,b,v9 ++ [laterP x y],()),()),?_,⟨a,b,v9 ++ [laterP x y],rfl,by simpa using h1,by simp; omega⟩,by simp; omega⟩
      simp [hp,hc,hm,p53_is]
 rintro z ⟨v0,v1,v9,rfl,h1,h2,h3⟩
 simp only [orK_inl,decide_true,cond_true]
 have b1:v9.length+v0.length≤maxLen∧(v9.length+v0.length) * 32≤140737488355328 := by unfold maxLen; omega
 have b2:(v9 ++ v0).length+v1.length≤maxLen∧((v9 ++ v0).length+v1.length) * 32≤140737488355328 := by unfold maxLen; simp; omega
 simp only [b1,b2,and_self,decide_true,cond_true]
 rcases h1 with rfl | rfl
 ·rw [merge_nil] at h2; simp [h2]
 ·rw [merge_nil'] at h2; simp [h2]
def standsB (o:Int) (to:List Int):Bool := decide (o+1<(to.length:Int)) && decide (to.getD o.toNat (dflt (.int .u64))<to.getD (o+1).toNat (dflt (.int .u64)))
theorem p83_is (o:Int) (to:List Int) (h0:0≤o) (hl:to.length≤9223372036854775807):p83 fu (o,to,())=some ((),standsB o to) := by
 have e1 := u64_wrap (x := (to.length:Int)) (by omega) (by omega)
 simp only [p83,standsB,e1]
 by_cases h1:o<(to.length:Int)
 ·have e2 := u64_wrap (x := o+1) (by omega) (by omega)
  simp only [e2]
  by_cases h2:o+1<(to.length:Int)
  ·have h3:0≤o+1 := by omega
   have h4:o.toNat<to.length := by omega
   have h5:(o+1).toNat<to.length := by omega
   simp [h0,h1,h2,h3,h4,h5]
  ·simp [h1,h2]
 ·have h2:¬ (o+1<(to.length:Int)) := by omega
  simp [h1,h2]
def mv (to:List Int) (x:Pr):Pr := if x.2.2.1=true∧standsB x.2.2.2 to=true then (x.1,x.2.1,true,to.getD x.2.2.2.toNat (dflt (.int .u64))) else (x.1,x.2.1,false,0)
theorem p82_is (x:Pr) (to:List Int) (h0:0≤x.2.2.2) (hl:to.length≤9223372036854775807) :
  p82 fu ((x.1,x.2.1,x.2.2.1,x.2.2.2,()),(to,()),())=some ((),((mv to x).1,(mv to x).2.1,(mv to x).2.2.1,(mv to x).2.2.2,())) := by
 obtain ⟨a,b,c,d⟩ := x
 simp only [p82,mv]
 simp only at h0
 cases c with
 | false=>simp [orK]
 | true =>
  simp only [cond_true,p83_is d to h0 hl,bind_val,orK_inl,true_and]
  cases hs:standsB d to with
  | false=>simp
  | true =>
   have h1:d+1<(to.length:Int) := by unfold standsB at hs; simp at hs; exact hs.1
   have h2:d<(to.length:Int) := by omega
   have h3:d.toNat<to.length := by omega
   simp [h0,h2,h3]
theorem mv_1 (to:List Int) (x:Pr):(mv to x).1=x.1 := by unfold mv; split <;> rfl
theorem p81_is (l:List Pr) (to:List Int) (h0:∀ x ∈ l,0≤x.2.2.2) (hl:l.length * 32≤140737488355328) (ht:to.length≤9223372036854775807) (hf:l.length<fu) :
  p81 fu (l,((),((to,()),())),())=some (((to,()),()),l.map (mv to)) := by
 unfold p81
 by_cases hz:l.length=0
 ·have:l=[] := List.eq_nil_of_length_eq_zero hz
  subst this; rfl
 ·have hz':((l.length:Int)==0)=false := by simpa using hz
  have hb:((0:Int)≤(l.length:Int)∧((l.length:Int):Int)≤(l.length:Int)∧((l.length:Int):Int)≤9223372036854775807∧(32:Int) * (l.length:Int)≤140737488355328) := by omega
  simp only [hz',cond_false,hb,and_self,decide_true,cond_true,Int.toNat_natCast,List.length_replicate]
  refine loopO_eq (I := fun s => ∃ (v:List Pr) (i:Nat),s=((v,(i:Int),()),())∧i≤l.length∧v.length=l.length ∧ ∀ j,j<i→v[j]? = (l.map (mv to))[j]?) (m := fun s=>l.length-s.1.2.1.toNat)
   (g := fun _=>(((to,()),()),l.map (mv to))) ?_ fu _ ⟨_,0,rfl,Nat.zero_le _,by simp,fun j hj=>absurd hj (Nat.not_lt_zero _)⟩ (by simpa using hf)
  rintro s ⟨v,i,rfl,h1,h2,h3⟩
  by_cases hi:i<l.length
  ·left
   have hx:0≤(l.getD i (dflt T_api_Producer)).2.2.2 := by rw [getD_lt hi]; exact h0 _ (List.getElem_mem _)
   have e29 := p82_is (fu := fu) (l.getD i (dflt T_api_Producer)) to hx ht
   have hv:i<v.length := by omega
   refine ⟨((v.set i (mv to (l.getD i (dflt T_api_Producer))),((i+1:Nat):Int),()),()),?_,⟨_,i+1,rfl,hi,by simpa using h2,fun j hj => ?_⟩,by simp only [Int.toNat_natCast]; omega,rfl⟩
   ·simp only [Int.ofNat_lt,hi,hv,decide_true,cond_true,Int.natCast_nonneg,and_self,Int.toNat_natCast,e29,bind_val,List.length_set,i64_succ hi (by omega)]
   ·rw [List.getElem?_set]
    by_cases hj':i=j
    ·subst hj'
     rw [if_pos rfl,if_pos hv,List.getElem?_map,List.getElem?_eq_getElem hi,getD_lt hi]; rfl
    ·rw [if_neg hj']
     exact h3 j (by omega)
  ·right
   obtain rfl:i=l.length := by omega
   have:v=l.map (mv to) := List.ext_getElem? fun j=>by
    by_cases hj:j<l.length
    ·exact h3 j hj
    ·rw [List.getElem?_eq_none (by omega),List.getElem?_eq_none (by simp; omega)]
   simp [inrO,this]
theorem p38_is (l:List Pr) (to:List Int) (h0:∀ x ∈ l,0≤x.2.2.2) (hl:l.length * 32≤140737488355328) (ht:to.length≤9223372036854775807) (hf:l.length<fu) :
  p38 fu (l,to,())=some ((),l.map (mv to)) := by
 unfold p38
 simp only [p81_is l to h0 hl ht hf,bind_val,decide_true,cond_true]
def bothP (a b:List Pr) (ta tb:List Int):List Pr×Int :=
 if tabI a=false then ([],1) else if tabI b=false then ([],1) else if (merge laterP (a.map (mv ta)) (b.map (mv tb))).length>256 then ([],153) else (merge laterP (a.map (mv ta)) (b.map (mv tb)),0)
theorem p22_is (a b:List Pr) (ta tb:List Int) (ha0:∀ x ∈ a,0≤x.2.2.2) (hb0:∀ x ∈ b,0≤x.2.2.2) (ha:a.length * 32≤140737488355328) (hb:b.length * 32≤140737488355328) (hta:ta.length≤9223372036854775807) (htb:tb.length≤9223372036854775807)
  (hf:a.length+b.length+1000<fu):p22 fu (a,b,ta,tb,())=some ((),((bothP a b ta tb).1,(bothP a b ta tb).2,())) := by
 unfold p22 bothP
 simp only [p49_is (fu := fu) a (by omega) (by omega),p49_is (fu := fu) b (by omega) (by omega),bind_val]
 cases h1:tabI a with
 | false=>simp
 | true =>
  cases h2:tabI b with
  | false=>simp
  | true =>
   have l1:a.length≤256 := ((tab_iff a).1 h1).2.2
   have l2:b.length≤256 := ((tab_iff b).1 h2).2.2
   have hm := p51_is (fu := fu) (a.map (mv ta)) (b.map (mv tb)) (by simp; omega) (by simp; omega)
   simp only [Bool.not_true,cond_false,p38_is (fu := fu) a ta ha0 ha hta (by omega),p38_is (fu := fu) b tb hb0 hb htb (by omega),bind_val,decide_true,cond_true,hm,Bool.true_eq_false,if_false,p50_1]
   by_cases h5:(merge laterP (a.map (mv ta)) (b.map (mv tb))).length>256
   ·have h5':((merge laterP (a.map (mv ta)) (b.map (mv tb))).length:Int)>256 := by omega
    simp [h5,h5']
   ·have h5':¬ ((merge laterP (a.map (mv ta)) (b.map (mv tb))).length:Int)>256 := by omega
    simp [h5,h5']
theorem mrg_ind {both:Pr→Pr→Pr} {P:List Pr→List Pr→List Pr→Prop} (h1:∀ b,P [] b b) (h2:∀ a,P a [] a) (h3:∀ x y a b m,x.1<y.1→P a (y :: b) m→P (x :: a) (y :: b) (x :: m))
  (h4:∀ x y a b m,x.1>y.1→P (x :: a) b m→P (x :: a) (y :: b) (y :: m)) (h5:∀ x y a b m,x.1=y.1→P a b m→P (x :: a) (y :: b) (both x y :: m)):∀ (n:Nat) (a b:List Pr),a.length+b.length≤n→P a b (merge both a b)
 | _,[],b,_=>by rw [merge_nil]; exact h1 b
 | _,x :: a,[],_=>by rw [merge_nil']; exact h2 _
 | 0,x :: a,y :: b,h=>by simp at h
 | n+1,x :: a,y :: b,h=>by
  simp only [List.length_cons] at h
  rw [merge_cons]
  by_cases c1:x.1<y.1
  ·rw [if_pos c1]; exact h3 x y a b _ c1 (mrg_ind h1 h2 h3 h4 h5 n a (y :: b) (by simp; omega))
  ·rw [if_neg c1]
   by_cases c2:x.1>y.1
   ·rw [if_pos c2]; exact h4 x y a b _ c2 (mrg_ind h1 h2 h3 h4 h5 n (x :: a) b (by simp; omega))
   ·rw [if_neg c2]; exact h5 x y a b _ (by omega) (mrg_ind h1 h2 h3 h4 h5 n a b (by omega))
theorem merge_ind {both:Pr→Pr→Pr} {P:List Pr→List Pr→List Pr→Prop} (h1:∀ b,P [] b b) (h2:∀ a,P a [] a) (h3:∀ x y a b m,x.1<y.1→P a (y :: b) m→P (x :: a) (y :: b) (x :: m))
  (h4:∀ x y a b m,x.1>y.1→P (x :: a) b m→P (x :: a) (y :: b) (y :: m)) (h5:∀ x y a b m,x.1=y.1→P a b m→P (x :: a) (y :: b) (both x y :: m)) (a b:List Pr):P a b (merge both a b) :=
 mrg_ind h1 h2 h3 h4 h5 _ a b (Nat.le_refl _)
def comb (both:Pr→Pr→Pr):Option Pr→Option Pr→Option Pr
 | some x,some y=>some (both x y)
 | some x,none=>some x
 | none,o=>o
theorem find_none {l:List Pr} {id:Int} (h:∀ z ∈ l,id<z.1):find l id=none := by
 unfold find
 rw [List.find?_eq_none]
 intro z hz
 have := h z hz
 simp; omega
theorem sp_cons {x:Pr} {l:List Pr}:SP (x :: l) ↔ (∀ z ∈ l,x.1<z.1)∧SP l := List.pairwise_cons
theorem merge_find {both:Pr→Pr→Pr} (hb:∀ x y,x.1=y.1→(both x y).1=x.1) (id:Int) (a b:List Pr):SP a→SP b→find (merge both a b) id=comb both (find a id) (find b id) := by
 refine merge_ind (both := both) (P := fun a b m=>SP a→SP b→find m id=comb both (find a id) (find b id)) ?_ ?_ ?_ ?_ ?_ a b
 ·intro b _ _; rfl
 ·intro a _ _; show _=comb both (find a id) none; cases find a id <;> rfl
 ·intro x y a b m h ih ha hb'
  rw [find_cons,find_cons x]
  by_cases hi:x.1=id
  ·rw [if_pos hi,if_pos hi,find_none (l := y :: b) (fun z hz=>by
    rcases List.mem_cons.1 hz with rfl | hz
    ·omega
    ·have := (sp_cons.1 hb').1 z hz; omega)]; rfl
  ·rw [if_neg hi,if_neg hi]; exact ih (sp_cons.1 ha).2 hb'
 ·intro x y a b m h ih ha hb'
  rw [find_cons,find_cons y]
  by_cases hi:y.1=id
  ·rw [if_pos hi,if_pos hi,find_none (l := x :: a) (fun z hz=>by
    rcases List.mem_cons.1 hz with rfl | hz
    ·omega
    ·have := (sp_cons.1 ha).1 z hz; omega)]; rfl
  ·rw [if_neg hi,if_neg hi]; exact ih ha (sp_cons.1 hb').2
 ·intro x y a b m h ih ha hb'
  rw [find_cons,find_cons x,find_cons y,hb x y h,← h]
  by_cases hi:x.1=id
  ·rw [if_pos hi,if_pos hi,if_pos hi]; rfl
  ·rw [if_neg hi,if_neg hi,if_neg hi]; exact ih (sp_cons.1 ha).2 (sp_cons.1 hb').2
theorem merge_all {both:Pr→Pr→Pr} {p:Pr→Prop} (hb:∀ x y,p x→p y→x.1=y.1→p (both x y)) (a b:List Pr):(∀ z ∈ a,p z)→(∀ z ∈ b,p z) → ∀ z ∈ merge both a b,p z := by
 refine merge_ind (both := both) (P := fun a b m=>(∀ z ∈ a,p z)→(∀ z ∈ b,p z) → ∀ z ∈ m,p z) ?_ ?_ ?_ ?_ ?_ a b
 ·intro b _ h; exact h
 ·intro a h _; exact h
 ·intro x y a b m h ih ha hb' z hz
  rcases List.mem_cons.1 hz with rfl | hz
  ·exact ha _ List.mem_cons_self
  ·exact ih (fun z hz=>ha z (List.mem_cons_of_mem _ hz)) hb' z hz
 ·intro x y a b m h ih ha hb' z hz
  rcases List.mem_cons.1 hz with rfl | hz
  ·exact hb' _ List.mem_cons_self
  ·exact ih ha (fun z hz=>hb' z (List.mem_cons_of_mem _ hz)) z hz
 ·intro x y a b m h ih ha hb' z hz
  rcases List.mem_cons.1 hz with rfl | hz
  ·exact hb x y (ha _ List.mem_cons_self) (hb' _ List.mem_cons_self) h
  ·exact ih (fun z hz=>ha z (List.mem_cons_of_mem _ hz)) (fun z hz=>hb' z (List.mem_cons_of_mem _ hz)) z hz
theorem merge_sp {both:Pr→Pr→Pr} (hb:∀ x y,x.1=y.1→(both x y).1=x.1) (a b:List Pr):SP a→SP b→SP (merge both a b) := by
 have low:∀ (k:Int) (a b:List Pr),(∀ z ∈ a,k<z.1)→(∀ z ∈ b,k<z.1) → ∀ z ∈ merge both a b,k<z.1 := fun k a b=>merge_all (fun x y h1 _ h=>by rw [hb x y h]; exact h1) a b
 suffices h:SP a→SP b→SP (merge both a b) ∧ ∀ k:Int,(∀ z ∈ a,k<z.1)→(∀ z ∈ b,k<z.1) → ∀ z ∈ merge both a b,k<z.1 from fun h1 h2=>(h h1 h2).1
 refine merge_ind (both := both) (P := fun a b m=>SP a→SP b→SP m ∧ ∀ k:Int,(∀ z ∈ a,k<z.1)→(∀ z ∈ b,k<z.1) → ∀ z ∈ m,k<z.1) ?_ ?_ ?_ ?_ ?_ a b
 ·intro b _ h; exact ⟨h,fun _ _ h=>h⟩
 ·intro a h _; exact ⟨h,fun _ h _=>h⟩
 ·intro x y a b m h ih ha hb'
  obtain ⟨i1,i2⟩ := ih (sp_cons.1 ha).2 hb'
  have lw:∀ z ∈ m,x.1<z.1 := i2 x.1 (sp_cons.1 ha).1 fun z hz=>by
   rcases List.mem_cons.1 hz with rfl | hz
   ·exact h
   ·have := (sp_cons.1 hb').1 z hz; omega
  refine ⟨sp_cons.2 ⟨lw,i1⟩,fun k k1 _ z hz => ?_⟩
  have := k1 x List.mem_cons_self
  rcases List.mem_cons.1 hz with rfl | hz
  ·exact this
  ·have := lw z hz; omega
 ·intro x y a b m h ih ha hb'
  obtain ⟨i1,i2⟩ := ih ha (sp_cons.1 hb').2
  have lw:∀ z ∈ m,y.1<z.1 := i2 y.1 (fun z hz=>by
   rcases List.mem_cons.1 hz with rfl | hz
   ·exact h
   ·have := (sp_cons.1 ha).1 z hz; omega) (sp_cons.1 hb').1
  refine ⟨sp_cons.2 ⟨lw,i1⟩,fun k _ k2 z hz => ?_⟩
  have := k2 y List.mem_cons_self
  rcases List.mem_cons.1 hz with rfl | hz
  ·exact this
  ·have := lw z hz; omega
 ·intro x y a b m h ih ha hb'
  obtain ⟨i1,i2⟩ := ih (sp_cons.1 ha).2 (sp_cons.1 hb').2
  have lw:∀ z ∈ m,x.1<z.1 := i2 x.1 (sp_cons.1 ha).1 fun z hz=>by have := (sp_cons.1 hb').1 z hz; omega
  have e := hb x y h
  refine ⟨sp_cons.2 ⟨fun z hz=>by rw [e]; exact lw z hz,i1⟩,fun k k1 _ z hz => ?_⟩
  have := k1 x List.mem_cons_self
  rcases List.mem_cons.1 hz with rfl | hz
  ·rw [e]; exact this
  ·have := lw z hz; omega
theorem map_sp (to:List Int) {l:List Pr} (h:SP l):SP (l.map (mv to)) := by
 unfold SP at h ⊢
 rw [List.pairwise_map]
 exact h.imp fun h=>by rw [mv_1,mv_1]; exact h
theorem later_1 (x y:Pr) (h:x.1=y.1):(laterP x y).1=x.1 := by
 unfold laterP; split
 ·exact h.symm
 ·split
  ·exact h.symm
  ·rfl
theorem both_len (a b:List Pr) (ta tb:List Int):(bothP a b ta tb).1.length≤256 := by
 unfold bothP
 split
 ·simp
 ·split
  ·simp
  ·split
   ·simp
   ·simp only; omega
end
section
variable {fu:Nat}
theorem pIsN_is (a b:Int):pIsN fu (a,b,())=some ((),a==b) := rfl
def noSt:St16 := (⟨#[]⟩,⟨#[]⟩,0,0,[],[],[],())
def badS (p:St16):Bool := !chkS p||(p.2.2.1==18446744073709551615)
def liveS (p:St16):Bool := p.2.2.2.1==0
def partS (p:St16):Int := bif badS p then 172 else bif liveS p then 171 else 0
theorem loop1 {S R:Type} {f:S→Option (S ⊕ R)} {s:S} {r:R} (h:f s=some (.inr r)) (hf:0<fu):loopO fu f s=some r := by
 obtain ⟨n,rfl⟩:∃ n,fu=n+1 := ⟨fu-1,by omega⟩
 simp only [loopO,h]
theorem loopN {S R:Type} {f:S→Option (S ⊕ R)} {n:Nat} {s s':S} (h:f s=some (.inl s')):loopO (n+1) f s=loopO n f s' := by
 simp only [loopO,h]
theorem inrO_of {E R:Type} {o:Option R} {r:R} (h:o=some r):inrO (E := E) o=some (.inr r) := by rw [h]; rfl
theorem p16_one (p:St16) (hb:bndS p) (hf:4194304<fu):p16 fu ([((p.1,p.2.1),p.2.2.1,p.2.2.2.1,p.2.2.2.2.1,p.2.2.2.2.2.1,p.2.2.2.2.2.2.1)],())=some ((),partS p) := by
 have h16 := p26_is (fu := fu) p hb hf
 obtain ⟨lo,hi,e,z,l,ps,cs,⟨⟩⟩ := p
 obtain ⟨n,rfl⟩:∃ n,fu=n+1+1 := ⟨fu-2,by omega⟩
 unfold p16 partS badS
 dsimp only
 have g:∀ d,List.getD [((lo,hi),e,z,l,ps,cs)] 0 d=((lo,hi),e,z,l,ps,cs) := fun d=>rfl
 have e1:decide ((0:Int)<(List.length [((lo,hi),e,z,l,ps,cs)]:Int))=true := rfl
 have e2:decide ((0:Int)≤0∧(0:Int)<(List.length [((lo,hi),e,z,l,ps,cs)]:Int))=true := rfl
 have e3:decide (Int.toNat 0<List.length [((lo,hi),e,z,l,ps,cs)])=true := rfl
 have e3':decide (0<List.length [((lo,hi),e,z,l,ps,cs)])=true := rfl
 have e4:decide ((1:Int)<(List.length [((lo,hi),e,z,l,ps,cs)]:Int))=false := rfl
 have w1:IntKind.wrap .i64 ((0:Int)+1)=1 := rfl
 cases hc:chkS (lo,hi,e,z,l,ps,cs,()) with
 | false =>
  rw [hc] at h16
  refine loop1 ?_ (by omega)
  simp only [e1,e2,e3',cond_true,Int.toNat_zero,g,h16,bind_val,pIsN_is,cond_false]
  rfl
 | true =>
  rw [hc] at h16
  cases hm:(e==18446744073709551615) with
  | true =>
   refine loop1 ?_ (by omega)
   simp only [e1,e2,e3',cond_true,Int.toNat_zero,g,h16,bind_val,pIsN_is,hm,show ((0:Int)==165)=false from rfl,cond_false]
   rfl
  | false =>
   rw [loopN (s' := (((1:Int),()),())) (by simp only [e1,e2,e3',cond_true,Int.toNat_zero,g,h16,bind_val,pIsN_is,hm,show ((0:Int)==165)=false from rfl,cond_false,w1])]
   refine loop1 ?_ (by omega)
   simp only [e4,cond_false]
   refine inrO_of ?_
   unfold liveS
   cases hz:(z==0) with
   | true=>exact loop1 (by simp only [e1,e2,e3',cond_true,Int.toNat_zero,g,hz]; rfl) (by omega)
   | false =>
    rw [loopN (s' := (((1:Int),()),())) (by simp only [e1,e2,e3',cond_true,Int.toNat_zero,g,hz,cond_false,w1])]
    exact loop1 (by simp only [e4,cond_false]; rfl) (by omega)
def cutE (a c f:ByteArray):Int := bif (chkB a c != 0) then chkB a c else bif !decide ((f.size:Int)≤32) then 131 else bif (Op.bytesLess f.toList a.toList||f.toList==a.toList) then 132 else bif !hasB a c f then 132 else 0
def noRg:ByteArray×ByteArray×Unit := (⟨#[]⟩,⟨#[]⟩,())
theorem p35_is (a c f:ByteArray):p35 fu ((a,c,()),f,())=some ((),bif (cutE a c f != 0) then (noRg,noRg,cutE a c f,()) else ((a,f,()),(f,c,()),0,())) := by
 unfold p35 cutE
 simp only [p41_is,p79,p80_is,bind_val]
 cases h1:(chkB a c != 0) with
 | true=>simp only [cond_true,orK_inl,h1]; rfl
 | false =>
  simp only [cond_false]
  cases h2:!decide ((f.size:Int)≤32) with
  | true=>rfl
  | false =>
   simp only [cond_false]
   cases h3:(Op.bytesLess f.toList a.toList||f.toList==a.toList) with
   | true=>rfl
   | false =>
    simp only [cond_false]
    cases h4:!hasB a c f with
    | true=>rfl
    | false=>simp only [cond_false,orK_inl,h1]; rfl
def kid (p:St16) (a c:ByteArray):St16 := (a,c,IntKind.wrap .u64 (p.2.2.1+1),0,(keepS p.2.2.2.2.1 a c).1,p.2.2.2.2.2.1.map (mv (keepS p.2.2.2.2.1 a c).2),mapS p.2.2.2.2.2.2.1 (keepS p.2.2.2.2.1 a c).2,())
def splitS (p:St16) (f:ByteArray):St16×St16×Int×Unit :=
 bif (partS p != 0) then (noSt,noSt,partS p,()) else bif (cutE p.1 p.2.1 f != 0) then (noSt,noSt,cutE p.1 p.2.1 f,()) else (kid p p.1 f,kid p f p.2.1,0,())
theorem keep_lens (l:List Rd) (a c:ByteArray):(keepS l a c).1.length≤l.length∧(keepS l a c).2.length≤l.length+1 := by
 unfold keepS
 cases logOk l with
 | false=>exact ⟨Nat.zero_le _,Nat.zero_le _⟩
 | true =>
  cases (chkB a c != 0) with
  | true=>exact ⟨Nat.zero_le _,Nat.zero_le _⟩
  | false =>
   obtain ⟨rest,to,h1,h2,h3⟩ := kp_fold a c l [] []
   simp only [Bool.not_true,cond_false,h1,List.nil_append]
   exact ⟨h3,by rw [h2.1]; exact Nat.le_refl _⟩
theorem p36_1_is (p:St16) (a c:ByteArray) (hb:bndS p) (hl:p.2.2.2.2.1.length≤1048576) (hf:4194304<fu):p36_1 fu ((a,c,()),p,())=some ((p,()),kid p a c) := by
 obtain ⟨lo,hi,e,z,l,ps,cs,⟨⟩⟩ := p
 obtain ⟨h1,h2,h3,h4⟩ := hb
 obtain ⟨k1,k2⟩ := keep_lens l a c
 unfold p36_1 kid
 dsimp only at hl ⊢
 simp only [p37_is (fu := fu) l a c hl hf,bind_val,decide_true,cond_true,p38_is (fu := fu) ps (keepS l a c).2 h4 (by omega) (by omega) (by omega),p39_is (fu := fu) cs (keepS l a c).2 h3 (by omega) hf]
theorem p9_is (p:St16) (f:ByteArray) (hb:bndS p) (hl:p.2.2.2.2.1.length≤1048576) (hf:4194304<fu):p9 fu (p,f,())=some ((),splitS p f) := by
 have h19 := p16_one (fu := fu) p hb hf
 have h21 := fun a c=>p36_1_is (fu := fu) p a c hb hl hf
 obtain ⟨lo,hi,e,z,l,ps,cs,⟨⟩⟩ := p
 unfold p9 splitS
 dsimp only at h19 ⊢
 rw [h19]
 simp only [bind_val]
 cases h1:(partS (lo,hi,e,z,l,ps,cs,()) != 0) with
 | true=>rfl
 | false =>
  simp only [cond_false]
  rw [p35_is]
  cases h2:(cutE lo hi f != 0) with
  | true=>simp only [bind_val,cond_true,noRg,h2]; rfl
  | false =>
   simp only [bind_val,cond_false,show ((0:Int) != 0)=false from rfl]
   rw [h21 lo f]
   simp only [bind_val]
   rw [h21 f hi]
   simp only [bind_val,decide_true,cond_true,kid]
end
section
variable {fu:Nat}
def someS:St16 := (⟨#[]⟩,⟨#[]⟩,3,1,[(0,⟨#[97]⟩,[],7,1),(1,⟨#[109]⟩,[],7,2),(2,⟨#[98]⟩,[],8,1)],[(7,2,true,1),(8,1,true,2)],[(⟨#[99]⟩,2)],())
def someA:St16 := (⟨#[]⟩,⟨#[99]⟩,4,0,[(0,⟨#[97]⟩,[],7,1),(1,⟨#[98]⟩,[],8,1)],[(7,2,false,0),(8,1,true,1)],[(⟨#[99]⟩,1)],())
def someB:St16 := (⟨#[99]⟩,⟨#[]⟩,4,0,[(0,⟨#[109]⟩,[],7,2)],[(7,2,true,0),(8,1,false,0)],[(⟨#[99]⟩,1)],())
theorem some_bnd:bndS someS := ⟨by decide,by decide,⟨by decide,fun y hy=>by
  rw [List.mem_singleton.1 hy]
  exact ⟨by decide,by decide,by decide⟩⟩,fun y hy=>by
  rcases List.mem_cons.1 hy with e | e
  ·rw [e]; decide
  ·rw [List.mem_singleton.1 e]; decide⟩
theorem some_split:splitS someS ⟨#[99]⟩=(someA,someB,0,()) := by kernel_rfl
theorem p4_is (hf:4194304<fu):p4 fu ()=some ((),true) := by
 have h := p9_is (fu := fu) someS ⟨#[99]⟩ some_bnd (by decide) hf
 rw [some_split] at h
 unfold p4
 rw [show p10 fu ()=some ((),someS) from rfl]
 simp only [bind_val,someS,decide_true,cond_true] at h ⊢
 rw [h]
 rfl
theorem p8_same (p:St16) (h1:p.2.2.2.2.1.length≤2097152) (h2:p.2.2.2.2.2.1.length≤2097152) (h3:p.2.2.2.2.2.2.1.length≤2097152) (hf:4194304<fu):p8 fu (p,p,())=some ((),true) := by
 obtain ⟨lo,hi,e,z,l,ps,cs,⟨⟩⟩ := p
 unfold p8
 simp only [p32_same l h1 hf,p33_refl ps (show ps.length≤9223372036854775806 by dsimp only at h2; omega) (show ps.length<fu by dsimp only at h2; omega),p34_is cs h3 hf,bind_val,cond_true,self_beq,beq_self_eq_true,Bool.and_self]
end
section
variable {fu:Nat}
def tup (p:St16):(ByteArray×ByteArray)×Int×Int×List Rd×List Pr×List Cn := ((p.1,p.2.1),p.2.2.1,p.2.2.2.1,p.2.2.2.2.1,p.2.2.2.2.2.1,p.2.2.2.2.2.2.1)
def partS2 (a b:St16):Int := bif badS a||badS b then 172 else bif liveS a||liveS b then 171 else 0
theorem p19_two (p q:St16) (hp:bndS p) (hq:bndS q) (hf:4194304<fu):p16 fu ([((p.1,p.2.1),p.2.2.1,p.2.2.2.1,p.2.2.2.2.1,p.2.2.2.2.2.1,p.2.2.2.2.2.2.1),((q.1,q.2.1),q.2.2.1,q.2.2.2.1,q.2.2.2.2.1,q.2.2.2.2.2.1,q.2.2.2.2.2.2.1)],())=some ((),partS2 p q) := by
 have h16 := p26_is (fu := fu) p hp hf
 have k16 := p26_is (fu := fu) q hq hf
 obtain ⟨lo,hi,e,z,l,ps,cs,⟨⟩⟩ := p
 obtain ⟨lo',hi',e',z',l',ps',cs',⟨⟩⟩ := q
 obtain ⟨n,rfl⟩:∃ n,fu=n+1+1+1 := ⟨fu-3,by omega⟩
 unfold p16 partS2 badS
 dsimp only
 generalize hL:[((lo,hi),e,z,l,ps,cs),((lo',hi'),e',z',l',ps',cs')]=L
 have g0:∀ d,List.getD L 0 d=((lo,hi),e,z,l,ps,cs) := fun d=>by rw [← hL]; rfl
 have g1:∀ d,List.getD L 1 d=((lo',hi'),e',z',l',ps',cs') := fun d=>by rw [← hL]; rfl
 have hlen:List.length L=2 := by rw [← hL]; rfl
 have e1:decide ((0:Int)<((2:Nat):Int))=true := rfl
 have e2:decide ((0:Int)≤0∧(0:Int)<((2:Nat):Int))=true := rfl
 have e3:decide (Int.toNat 0<2)=true := rfl
 have e3':decide (0<2)=true := rfl
 have f1:decide ((1:Int)<((2:Nat):Int))=true := rfl
 have f2:decide ((0:Int)≤1∧(1:Int)<((2:Nat):Int))=true := rfl
 have f3:decide (Int.toNat 1<2)=true := rfl
 have t1:Int.toNat 1=1 := rfl
 have f3':decide (1<2)=true := rfl
 have e4:decide ((2:Int)<((2:Nat):Int))=false := rfl
 have w1:IntKind.wrap .i64 ((0:Int)+1)=1 := rfl
 have w2:IntKind.wrap .i64 ((1:Int)+1)=2 := rfl
 have n0:((0:Int)==165)=false := rfl
 have y0:((165:Int)==165)=true := rfl
 rw [hlen]
 have second:∀ {f:(Int×Unit)×Unit→Option (((Int×Unit)×Unit) ⊕ (Unit×Int))},(f ((0,()),())=if z=0 then some (.inr ((),171)) else some (.inl ((1,()),())))→(f ((1,()),())=if z' = 0 then some (.inr ((),171)) else some (.inl ((2,()),())))→(f ((2,()),())=some (.inr ((),0))) →
   loopO (n+1+1+1) f ((0,()),())=some ((),bif liveS (lo,hi,e,z,l,ps,cs,())||liveS (lo',hi',e',z',l',ps',cs',()) then 171 else 0) := fun {f} q0 q1 q2=>by
  unfold liveS
  by_cases hz:z=0
  ·rw [if_pos hz] at q0
   rw [loop1 q0 (by omega),show (z==0)=true by simpa using hz]
   rfl
  ·rw [if_neg hz] at q0
   rw [loopN q0,show (z==0)=false by simpa using hz]
   by_cases hz':z' = 0
   ·rw [if_pos hz'] at q1
    rw [loop1 q1 (by omega),show (z' == 0)=true by simpa using hz']
    rfl
   ·rw [if_neg hz'] at q1
    rw [loopN q1,loop1 q2 (by omega),show (z' == 0)=false by simpa using hz']
    rfl
 cases hc:chkS (lo,hi,e,z,l,ps,cs,()) with
 | false =>
  rw [hc] at h16
  refine loop1 ?_ (by omega)
  simp only [e1,e2,e3',cond_true,Int.toNat_zero,g0,h16,bind_val,pIsN_is,cond_false,y0,inrO,Option.map_some,Bool.not_false,Bool.true_or]
 | true =>
  rw [hc] at h16
  cases hm:(e==18446744073709551615) with
  | true =>
   refine loop1 ?_ (by omega)
   simp only [e1,e2,e3',cond_true,Int.toNat_zero,g0,h16,bind_val,pIsN_is,hm,n0,cond_false,inrO,Option.map_some,Bool.or_true,Bool.true_or]
  | false =>
   rw [loopN (s' := (((1:Int),()),())) (by simp only [e1,e2,e3',cond_true,Int.toNat_zero,g0,h16,bind_val,pIsN_is,hm,n0,cond_false,w1])]
   cases hc':chkS (lo',hi',e',z',l',ps',cs',()) with
   | false =>
    rw [hc'] at k16
    refine loop1 ?_ (by omega)
    simp only [f1,f2,f3',t1,cond_true,g1,k16,bind_val,pIsN_is,cond_false,y0,inrO,Option.map_some,Bool.not_false,Bool.true_or,Bool.or_true]
   | true =>
    rw [hc'] at k16
    cases hm':(e' == 18446744073709551615) with
    | true =>
     refine loop1 ?_ (by omega)
     simp only [f1,f2,f3',t1,cond_true,g1,k16,bind_val,pIsN_is,hm',n0,cond_false,inrO,Option.map_some,Bool.or_true]
    | false =>
     rw [loopN (s' := (((2:Int),()),())) (by simp only [f1,f2,f3',t1,cond_true,g1,k16,bind_val,pIsN_is,hm',n0,cond_false,w2])]
     refine loop1 ?_ (by omega)
     simp only [e4,cond_false,Bool.not_true,Bool.or_self]
     refine inrO_of ?_
     refine second ?_ ?_ ?_
     ·simp only [e1,e2,e3',cond_true,Int.toNat_zero,g0,w1,inrO,Option.map_some]
      by_cases hz:z=0
      ·rw [if_pos hz,show (z==0)=true by simpa using hz]; rfl
      ·rw [if_neg hz,show (z==0)=false by simpa using hz]; rfl
     ·simp only [f1,f2,f3',t1,cond_true,g1,w2,inrO,Option.map_some]
      by_cases hz:z' = 0
      ·rw [if_pos hz,show (z' == 0)=true by simpa using hz]; rfl
      ·rw [if_neg hz,show (z' == 0)=false by simpa using hz]; rfl
     ·simp only [e4,cond_false,inrO,Option.map_some]
def rgE (a c f h:ByteArray):Int := bif (chkB a c != 0) then chkB a c else bif (chkB f h != 0) then chkB f h else bif !(c==f && ((c.toList==(⟨#[]⟩:ByteArray).toList)==false && true)) then 133 else 0
theorem p18_is (a c f h:ByteArray) (hf:4194304<fu):p18 fu ((a,c,()),(f,h,()),())=some ((),bif (rgE a c f h != 0) then (noRg,rgE a c f h,()) else ((a,h,()),0,())) := by
 obtain ⟨n,rfl⟩:∃ n,fu=n+1+1+1 := ⟨fu-3,by omega⟩
 unfold p18 rgE
 dsimp only
 have e1:decide ((0:Int)<2)=true := rfl
 have e2:decide ((0:Int)≤0∧(0:Int)<2)=true := rfl
 have f1:decide ((1:Int)<2)=true := rfl
 have f2:decide ((0:Int)≤1∧(1:Int)<2)=true := rfl
 have e4:decide ((2:Int)<2)=false := rfl
 have w1:IntKind.wrap .i64 ((0:Int)+1)=1 := rfl
 have w2:IntKind.wrap .i64 ((1:Int)+1)=2 := rfl
 have z0:((0:Int)==0)=true := rfl
 have z1:((1:Int)==0)=false := rfl
 have z2:((1:Int)==1)=true := rfl
 cases h1:(chkB a c != 0) with
 | true =>
  refine loop1 ?_ (by omega)
  simp only [e1,e2,z0,cond_true,p41_is,bind_val,h1,inrO,Option.map_some]
  rfl
 | false =>
  rw [loopN (s' := (((1:Int),()),())) (by simp only [e1,e2,z0,cond_true,p41_is,bind_val,h1,cond_false,w1])]
  cases h2:(chkB f h != 0) with
  | true =>
   refine loop1 ?_ (by omega)
   simp only [f1,f2,z1,z2,cond_true,cond_false,p41_is,bind_val,h2,inrO,Option.map_some]
   rfl
  | false =>
   rw [loopN (s' := (((2:Int),()),())) (by simp only [f1,f2,z1,z2,cond_true,cond_false,p41_is,bind_val,h2,w2])]
   refine loop1 ?_ (by omega)
   simp only [e4,cond_false,p42,bind_val]
   cases !(c==f && ((c.toList==(⟨#[]⟩:ByteArray).toList)==false && true)) <;> rfl
def mkM (a b:St16) (l:List Rd) (ps:List Pr) (cs:List Cn):St16 := (a.1,b.2.1,IntKind.wrap .u64 ((if b.2.2.1>a.2.2.1 then b.2.2.1 else a.2.2.1)+1),0,l,ps,cs,())
def jnR (a b:St16) := jnE a.2.2.2.2.1 b.2.2.2.2.1
def prR (a b:St16) := bothP a.2.2.2.2.2.1 b.2.2.2.2.2.1 (jnR a b).2.1 (jnR a b).2.2.1
def cnR (a b:St16) := bothS a.2.2.2.2.2.2.1 b.2.2.2.2.2.2.1 (jnR a b).2.1 (jnR a b).2.2.1
def mrgS (a b:St16):St16 := mkM a b (jnR a b).1 (prR a b).1 (cnR a b).1
def mrgE (a b:St16):Int :=
 bif (partS2 a b != 0) then partS2 a b else bif (rgE a.1 a.2.1 b.1 b.2.1 != 0) then rgE a.1 a.2.1 b.1 b.2.1 else bif ((jnR a b).2.2.2.1 != 0) then (jnR a b).2.2.2.1
 else bif ((prR a b).2 != 0) then (prR a b).2 else bif ((cnR a b).2 != 0) then (cnR a b).2 else bif chkS (mrgS a b) then 0 else 172
def mergeS (a b:St16):St16×Int×Unit := bif (mrgE a b != 0) then (noSt,mrgE a b,()) else (mrgS a b,0,())
end
section
variable {fu:Nat}
theorem ne_zero {x:Int} (h:(x != 0)=false):x=0 := by simpa using h
structure Jn (a b j:List Rd) (ta tb:List Int):Prop where
 len:j.length=a.length+b.length
 la:ta.length=a.length+1
 lb:tb.length=b.length+1
 sa:Sd 0 j a ta
 sb:Sd 0 j b tb
 at_:∀ i (h:i<j.length),j[i].1=(i:Int) ∧ ∃ y,(y ∈ a ∨ y ∈ b)∧j[i].2=y.2
 ea:ta.getD a.length 0=(j.length:Int)
 eb:tb.getD b.length 0=(j.length:Int)
theorem jn_good {a b:List Rd} (h:(jnE a b).2.2.2.1=0):logOk a=true∧logOk b=true∧a.length+b.length≤4096∧Jn a b (jnE a b).1 (jnE a b).2.1 (jnE a b).2.2.1∧jnE a b=jnS (a.length+b.length) [] [] [] a b := by
 unfold jnE at h ⊢
 cases h1:logOk a with
 | false=>rw [h1] at h; exact absurd h (show ¬ (1:Int)=0 by decide)
 | true =>
  cases h2:logOk b with
  | false=>rw [h1,h2] at h; exact absurd h (show ¬ (1:Int)=0 by decide)
  | true =>
   rw [h1,h2] at h
   by_cases h3:a.length+b.length>4096
   ·rw [decide_eq_true h3] at h; exact absurd h (show ¬ (143:Int)=0 by decide)
   ·rw [decide_eq_false h3] at h ⊢
    simp only [Bool.and_self,cond_true,cond_false] at h ⊢
    obtain ⟨rest,tl,ul,e1,e2,e3,e4,e5⟩ := jn_stands _ [] [] [] a b rfl h
    obtain ⟨X,Y,l1,l2⟩ := jn_last _ [] [] [] a b h
    rw [e1] at l1 l2
    rw [e1]
    simp only [List.nil_append,List.length_nil,Nat.zero_add] at e3 e4 e5 l1 l2 ⊢
    exact ⟨trivial,trivial,by omega,⟨e2,e3.1,e4.1,e3,e4,e5,snoc_last l1 e3.1,snoc_last l2 e4.1⟩,trivial⟩
theorem Jn.to {a b j:List Rd} {ta tb:List Int} (h:Jn a b j ta tb) (i:Nat):(0≤ta.getD i 0∧ta.getD i 0≤(j.length:Int))∧0≤tb.getD i 0∧tb.getD i 0≤(j.length:Int) := by
 have key:∀ {l:List Rd} {to:List Int},Sd 0 j l to→to.getD l.length 0=(j.length:Int)→0≤to.getD i 0∧to.getD i 0≤(j.length:Int) := fun {l to} hs he=>by
  by_cases hi:i≤l.length
  ·have h1 := sd_mono hs l.length i hi (Nat.le_refl _)
   have h2 := sd_mono hs i 0 (Nat.zero_le _) hi
   have h3 := hs.2.1
   omega
  ·rw [List.getD_eq_getElem?_getD,List.getElem?_eq_none (by rw [hs.1]; omega)]
   exact ⟨Int.le_refl _,Int.natCast_nonneg _⟩
 exact ⟨key h.sa h.ea,key h.sb h.eb⟩
theorem mv_nn {to:List Int} (h:∀ i,0≤to.getD i 0) (x:Pr):0≤(mv to x).2.2.2 := by
 unfold mv
 split
 ·exact h _
 ·exact Int.le_refl _
theorem later_or (x y:Pr):laterP x y=x ∨ laterP x y=y := by
 unfold laterP
 split
 ·exact .inr rfl
 ·split
  ·exact .inr rfl
  ·exact .inl rfl
theorem bothP_all {P:Pr→Prop} {a b:List Pr} {ta tb:List Int} (ha:∀ x ∈ a,P (mv ta x)) (hb:∀ x ∈ b,P (mv tb x)):∀ y ∈ (bothP a b ta tb).1,P y := by
 unfold bothP
 split
 ·exact fun y hy=>absurd hy List.not_mem_nil
 ·split
  ·exact fun y hy=>absurd hy List.not_mem_nil
  ·split
   ·exact fun y hy=>absurd hy List.not_mem_nil
   ·refine merge_all (fun x y h1 h2 _ => ?_) _ _ (fun z hz => ?_) fun z hz => ?_
    ·rcases later_or x y with e | e <;> rw [e]
     ·exact h1
     ·exact h2
    ·obtain ⟨x,hx,rfl⟩ := List.mem_map.1 hz
     exact ha x hx
    ·obtain ⟨x,hx,rfl⟩ := List.mem_map.1 hz
     exact hb x hx
theorem foldB_all {P:Cn→Prop} (a b:List Cn) (f h:List Int) (hp:∀ x ∈ a ++ b,P (x.1,minI (atS f (readC a x.1).1) (atS h (readC b x.1).1))):∀ y ∈ foldB a b f h,P y := by
 unfold foldB
 have key:∀ (m:List Cn) (l:List Cn),(∀ x ∈ m,x ∈ a ++ b)→(∀ y ∈ l,P y) → ∀ y ∈ m.foldl (stepB a b f h) l,P y := by
  intro m
  induction m with
  | nil=>exact fun l _ hl=>hl
  | cons x m ih =>
   intro l hm hl
   rw [List.foldl_cons]
   refine ih _ (fun y hy=>hm y (List.mem_cons_of_mem _ hy)) fun y hy => ?_
   rcases mem_insS hy with e | e
   ·rw [e]; exact hp x (hm x List.mem_cons_self)
   ·exact hl y e
 exact key _ _ (fun _ h=>h) fun y hy=>absurd hy List.not_mem_nil
theorem min_cases (a b:Int):minI a b=a ∨ minI a b=b := by
 unfold minI
 split
 ·exact .inr rfl
 ·exact .inl rfl
theorem cn_len (a b:St16):(cnR a b).1.length≤64 := by
 unfold cnR bothS
 cases !okC a.2.2.2.2.2.2.1 with
 | true=>exact Nat.zero_le _
 | false =>
  cases !okC b.2.2.2.2.2.2.1 with
  | true=>exact Nat.zero_le _
  | false =>
   cases decide (0<(jnR a b).2.1.length) with
   | false=>exact Nat.zero_le _
   | true =>
    cases decide (0<(jnR a b).2.2.1.length) with
    | false=>exact Nat.zero_le _
    | true =>
     simp only [cond_false,cond_true]
     unfold finB
     by_cases h:(foldB a.2.2.2.2.2.2.1 b.2.2.2.2.2.2.1 (jnR a b).2.1 (jnR a b).2.2.1).length>64
     ·rw [decide_eq_true h]; exact Nat.zero_le _
     ·rw [decide_eq_false h]; simp only [cond_false]; omega
theorem cn_all {P:Cn→Prop} (a b:St16) (hp:∀ x ∈ a.2.2.2.2.2.2.1 ++ b.2.2.2.2.2.2.1,P (x.1,minI (atS (jnR a b).2.1 (readC a.2.2.2.2.2.2.1 x.1).1) (atS (jnR a b).2.2.1 (readC b.2.2.2.2.2.2.1 x.1).1))):∀ y ∈ (cnR a b).1,P y := by
 unfold cnR bothS
 cases !okC a.2.2.2.2.2.2.1 with
 | true=>exact fun y hy=>absurd hy List.not_mem_nil
 | false =>
  cases !okC b.2.2.2.2.2.2.1 with
  | true=>exact fun y hy=>absurd hy List.not_mem_nil
  | false =>
   cases decide (0<(jnR a b).2.1.length) with
   | false=>exact fun y hy=>absurd hy List.not_mem_nil
   | true =>
    cases decide (0<(jnR a b).2.2.1.length) with
    | false=>exact fun y hy=>absurd hy List.not_mem_nil
    | true =>
     simp only [cond_false,cond_true]
     unfold finB
     cases decide ((foldB a.2.2.2.2.2.2.1 b.2.2.2.2.2.2.1 (jnR a b).2.1 (jnR a b).2.2.1).length>64) with
     | true=>exact fun y hy=>absurd hy List.not_mem_nil
     | false=>exact foldB_all _ _ _ _ hp
theorem at_nn {a b j:List Rd} {ta tb:List Int} (h:Jn a b j ta tb) (c:Int):(0≤atS ta c∧atS ta c≤(j.length:Int))∧0≤atS tb c∧atS tb c≤(j.length:Int) := ⟨(h.to _).1,(h.to _).2⟩
theorem mrg_bnd {a b:St16} (ha:bndS a) (hb:bndS b) (hj:(jnR a b).2.2.2.1=0):bndS (mrgS a b)∧(mrgS a b).2.2.2.2.1.length≤4096 := by
 obtain ⟨-,-,g3,g4,-⟩ := jn_good hj
 have hlen:(jnR a b).1.length=a.2.2.2.2.1.length+b.2.2.2.2.1.length := g4.len
 have hpl:(prR a b).1.length≤256 := both_len _ _ _ _
 have hcl := cn_len a b
 have hca:okL a.2.2.2.2.2.2.1 := by obtain ⟨_,_,_,_,_,_,_,⟨⟩⟩ := a; exact ha.2.2.1
 have hcb:okL b.2.2.2.2.2.2.1 := by obtain ⟨_,_,_,_,_,_,_,⟨⟩⟩ := b; exact hb.2.2.1
 refine ⟨⟨by omega,by omega,⟨by omega,cn_all a b fun x hx => ?_⟩,bothP_all (fun x _=>mv_nn (fun i=>(g4.to i).1.1) x) fun x _=>mv_nn (fun i=>(g4.to i).2.1) x⟩,by show (jnR a b).1.length≤4096; omega⟩
 have q1 := (at_nn g4 (readC a.2.2.2.2.2.2.1 x.1).1).1
 have q2 := (at_nn g4 (readC b.2.2.2.2.2.2.1 x.1).1).2
 have hl:((jnE a.2.2.2.2.1 b.2.2.2.2.1).1.length:Int)≤4096 := by have := g4.len; omega
 refine ⟨?_,?_⟩
 ·rcases List.mem_append.1 hx with h | h
  ·exact (hca.2 x h).1
  ·exact (hcb.2 x h).1
 ·dsimp only
  unfold jnR
  rcases min_cases (atS (jnE a.2.2.2.2.1 b.2.2.2.2.1).2.1 (readC a.2.2.2.2.2.2.1 x.1).1) (atS (jnE a.2.2.2.2.1 b.2.2.2.2.1).2.2.1 (readC b.2.2.2.2.2.2.1 x.1).1) with e | e <;> rw [e] <;> omega
theorem p6_is (a b:St16) (ha:bndS a) (hb:bndS b) (la:a.2.2.2.2.1.length≤1048576) (lb:b.2.2.2.2.1.length≤1048576) (va:∀ x ∈ a.2.2.2.2.1,x.2.2.1.length≤1048576) (vb:∀ x ∈ b.2.2.2.2.1,x.2.2.1.length≤1048576) (hf8:8388608<fu) :
  p6 fu (a,b,())=some ((),mergeS a b) := by
 have hf:4194304<fu := by omega
 have h19 := p19_two (fu := fu) a b ha hb hf
 have h29 := p18_is (fu := fu) a.1 a.2.1 b.1 b.2.1 hf
 have h31 := p20_is (fu := fu) a.2.2.2.2.1 b.2.2.2.2.1 la lb va vb hf
 have hbnd := mrg_bnd ha hb
 unfold mergeS mrgE
 have hE:(jnE a.2.2.2.2.1 b.2.2.2.2.1)=((jnR a b).1,(jnR a b).2.1,(jnR a b).2.2.1,(jnR a b).2.2.2.1,()) := rfl
 have h33:(jnR a b).2.2.2.1=0→p22 fu (a.2.2.2.2.2.1,b.2.2.2.2.2.1,(jnR a b).2.1,(jnR a b).2.2.1,())=some ((),((prR a b).1,(prR a b).2,())) := fun h=>by
  obtain ⟨-,-,g3,g4,-⟩ := jn_good h
  have e1:(jnR a b).2.1.length=a.2.2.2.2.1.length+1 := g4.la
  have e2:(jnR a b).2.2.1.length=b.2.2.2.2.1.length+1 := g4.lb
  obtain ⟨_,_,_,_,l,ps,cs,⟨⟩⟩ := a
  obtain ⟨_,_,_,_,l',ps',cs',⟨⟩⟩ := b
  obtain ⟨b1,b2,b3,b4⟩ := ha
  obtain ⟨c1,c2,c3,c4⟩ := hb
  exact p22_is ps ps' _ _ b4 c4 (by omega) (by omega) (by omega) (by omega) (by omega)
 have h35:(jnR a b).2.2.2.1=0→p24 fu (a.2.2.2.2.2.2.1,b.2.2.2.2.2.2.1,(jnR a b).2.1,(jnR a b).2.2.1,())=some ((),((cnR a b).1,(cnR a b).2,())) := fun h=>by
  obtain ⟨-,-,g3,g4,-⟩ := jn_good h
  have e1:(jnR a b).2.1.length=a.2.2.2.2.1.length+1 := g4.la
  have e2:(jnR a b).2.2.1.length=b.2.2.2.2.1.length+1 := g4.lb
  obtain ⟨_,_,_,_,l,ps,cs,⟨⟩⟩ := a
  obtain ⟨_,_,_,_,l',ps',cs',⟨⟩⟩ := b
  obtain ⟨b1,b2,b3,b4⟩ := ha
  obtain ⟨c1,c2,c3,c4⟩ := hb
  exact p24_is cs cs' _ _ b3 c3 (by omega) (by omega) hf
 have h16:(jnR a b).2.2.2.1=0→p26 fu (mrgS a b,())=some ((),bif chkS (mrgS a b) then 0 else 165) := fun h=>p26_is (mrgS a b) (hbnd h).1 hf
 rw [hE] at h31
 generalize hj1:(jnR a b).1=j1 at *
 generalize hj2:(jnR a b).2.1=j2 at *
 generalize hj3:(jnR a b).2.2.1=j3 at *
 generalize hj4:(jnR a b).2.2.2.1=j4 at *
 have hM:mrgS a b=(a.1,b.2.1,IntKind.wrap .u64 ((if b.2.2.1>a.2.2.1 then b.2.2.1 else a.2.2.1)+1),0,j1,(prR a b).1,(cnR a b).1,()) := by rw [← hj1]; rfl
 rw [hM] at h16 ⊢
 generalize (prR a b).1=q1 at *
 generalize (prR a b).2=q2 at *
 generalize (cnR a b).1=r1 at *
 generalize (cnR a b).2=r2 at *
 clear hbnd hE hM hj1 hj2 hj3 hj4
 obtain ⟨n,hn⟩:∃ n,fu=n+1+1+1+1+1 := ⟨fu-5,by omega⟩
 generalize partS2 a b=pe at *
 obtain ⟨lo,hi,e,z,l,ps,cs,⟨⟩⟩ := a
 obtain ⟨lo',hi',e',z',l',ps',cs',⟨⟩⟩ := b
 dsimp only at h19 h29 h31 h33 h35 h16 ⊢
 generalize rgE lo hi lo' hi' = ge at *
 have e1:decide ((0:Int)<4)=true := rfl
 have e2:decide ((0:Int)≤0∧(0:Int)<4)=true := rfl
 have f1:decide ((1:Int)<4)=true := rfl
 have f2:decide ((0:Int)≤1∧(1:Int)<4)=true := rfl
 have g1:decide ((2:Int)<4)=true := rfl
 have g2:decide ((0:Int)≤2∧(2:Int)<4)=true := rfl
 have k1:decide ((3:Int)<4)=true := rfl
 have k2:decide ((0:Int)≤3∧(3:Int)<4)=true := rfl
 have e4:decide ((4:Int)<4)=false := rfl
 have w1:IntKind.wrap .i64 ((0:Int)+1)=1 := rfl
 have w2:IntKind.wrap .i64 ((1:Int)+1)=2 := rfl
 have w3:IntKind.wrap .i64 ((2:Int)+1)=3 := rfl
 have w4:IntKind.wrap .i64 ((3:Int)+1)=4 := rfl
 have z0:((0:Int)==0)=true := rfl
 have z1:((1:Int)==0)=false := rfl
 have z2:((1:Int)==1)=true := rfl
 have z3:((2:Int)==0)=false := rfl
 have z4:((2:Int)==1)=false := rfl
 have z5:((2:Int)==2)=true := rfl
 have z6:((3:Int)==0)=false := rfl
 have z7:((3:Int)==1)=false := rfl
 have z8:((3:Int)==2)=false := rfl
 have z9:((3:Int)==3)=true := rfl
 have nz:((0:Int) != 0)=false := rfl
 unfold p6
 dsimp only
 rw [h19]
 simp only [bind_val]
 cases hpe:(pe != 0) with
 | true=>simp only [cond_true,hpe,noSt]
 | false =>
  simp only [cond_false]
  cases hge:(ge != 0) with
  | true =>
   rw [hge] at h29
   refine loop1 ?_ (by omega)
   simp only [e1,e2,z0,cond_true,p17_5,h29,bind_val,decide_true,noRg,hge,inrO,Option.map_some,noSt]
  | false =>
   rw [hge] at h29
   rw [show loopO (S := _) fu=loopO (n+1+1+1+1+1) by rw [← hn]]
   rw [loopN (by simp only [e1,e2,z0,cond_true,p17_5,h29,bind_val,decide_true,cond_false,nz,w1]; rfl)]
   cases hj:(j4 != 0) with
   | true =>
    refine loop1 ?_ (by omega)
    simp only [f1,f2,z1,z2,cond_true,cond_false,p19_5,h31,bind_val,decide_true,hj,inrO,Option.map_some,noSt]
   | false =>
    have hj0 := ne_zero hj
    subst hj0
    rw [loopN (by simp only [f1,f2,z1,z2,cond_true,cond_false,p19_5,h31,bind_val,decide_true,nz,w2]; rfl)]
    cases hq:(q2 != 0) with
    | true =>
     refine loop1 ?_ (by omega)
     simp only [g1,g2,z3,z4,z5,cond_true,cond_false,p21_9,h33 rfl,bind_val,decide_true,hq,inrO,Option.map_some,noSt]
    | false =>
     have hq0 := ne_zero hq
     subst hq0
     rw [loopN (by simp only [g1,g2,z3,z4,z5,cond_true,cond_false,p21_9,h33 rfl,bind_val,decide_true,nz,w3]; rfl)]
     cases hr:(r2 != 0) with
     | true =>
      refine loop1 ?_ (by omega)
      simp only [k1,k2,z6,z7,z8,z9,cond_true,cond_false,p23_9,h35 rfl,bind_val,decide_true,hr,inrO,Option.map_some,noSt]
     | false =>
      have hr0 := ne_zero hr
      subst hr0
      rw [loopN (by simp only [k1,k2,z6,z7,z8,z9,cond_true,cond_false,p23_9,h35 rfl,bind_val,decide_true,nz,w4]; rfl)]
      refine loop1 ?_ (by omega)
      simp only [e4,cond_false,decide_true,cond_true,h16 rfl,bind_val,pIsN_is]
      cases chkS (lo,hi',IntKind.wrap .u64 ((if e' > e then e' else e)+1),0,j1,q1,r1,()) <;> rfl
end
section
variable {fu:Nat}
theorem p98_is (a:ByteArray) (hf:a.size<fu):p98 fu (a,())=some ((),nameB a) := by
 unfold p98 nameB
 have hl := numsOf_length a
 by_cases h1:a.size<1
 ·have h2:(a.size:Int)<1 := by omega
  have h3:¬ (1≤a.size∧a.size≤32) := by omega
  simp only [h2,h3,decide_true,decide_false,cond_true]
  cases (numsOf a).any qb <;> rfl
 have h2:¬ (a.size:Int)<1 := by omega
 by_cases h4:a.size>32
 ·have h5:(a.size:Int)>32 := by omega
  have h3:¬ (1≤a.size∧a.size≤32) := by omega
  simp only [h2,h3,h5,decide_true,decide_false,cond_true,cond_false]
  cases (numsOf a).any qb <;> rfl
 have h5:¬ (a.size:Int)>32 := by omega
 have h3:(1≤a.size∧a.size≤32) := by omega
 simp only [h2,h3,h5,decide_true,decide_false,cond_false,and_self]
 refine loop_for (numsOf a) (fun i=>(((i:Int),()),())) qb ((),false) ((),true) (by omega) (fun i h => ?_) ?_ (by cases (numsOf a).any qb <;> rfl)
 ·have h':i<a.size := by omega
  simp only [Int.ofNat_lt,Int.natCast_nonneg,h',decide_true,cond_true,and_self,Int.toNat_natCast,bAt_num a i h,i64_succ h' (by omega)]
  exact step_qb _
 ·rw [hl]
  simp only [Int.ofNat_lt,Nat.lt_irrefl,decide_false,cond_false]; rfl
theorem p67_is (l:List Cn) (hl:okL l) (hf:4194304<fu):p67 fu (l,())=some ((),okC l) := by
 unfold p67 okC
 have hn:l.length≤2097152 := hl.1
 rcases Nat.lt_or_ge 64 l.length with h6' | h6
 ·have h6:¬ l.length≤64 := by omega
  have h7:(l.length:Int)>64 := by omega
  simp only [h6,h7,decide_true,decide_false,cond_true]
  cases (List.range l.length).any (bad l) <;> rfl
 have h7:¬ (l.length:Int)>64 := by omega
 simp only [h6,h7,decide_true,decide_false,cond_false]
 refine loop_for (List.range l.length) (fun i=>(((i:Int),()),())) (bad l) ((),false) ((),true) (by simp only [List.length_range]; omega) (fun i h => ?_) ?_ (by cases (List.range l.length).any (bad l) <;> rfl)
 ·simp only [List.length_range] at h
  have hs := okL_at hl h
  have hg:∀ d,l.getD i d=l[i] := fun d=>getD_lt h
  simp only [List.getElem_range,Int.ofNat_lt,Int.natCast_nonneg,h,decide_true,cond_true,and_self,Int.toNat_natCast,hg,p98_is _ (fu := fu) (show l[i].1.size<fu by omega),bind_val,i64_succ h (by omega),bad]
  cases nameB l[i].1
  ·rfl
  simp only [Bool.not_true,cond_false]
  by_cases h0:0<i
  ·have h1:(i:Int)>0 := by omega
   have h2:i-1<l.length := by omega
   have h3:∀ d,l.getD (i-1) d=l[i-1] := fun d=>getD_lt h2
   simp only [h0,h1,decide_true,cond_true,i64_pred h0 (by omega),Int.natCast_nonneg,Int.ofNat_lt,h2,and_self,Int.toNat_natCast,h3]
   cases Op.bytesLess l[i-1].1.toList l[i].1.toList <;> rfl
  ·have h1:¬ (i:Int)>0 := by omega
   simp only [h0,h1,decide_false,cond_false]
 ·simp only [List.length_range,Int.ofNat_lt,Nat.lt_irrefl,decide_false,cond_false]; rfl
theorem p76_is (l:List Cn) (c:ByteArray) (hl:l.length≤2097152) (hf:4194304<fu):p76 fu (l,c,())=some ((),(readC l c).1,(readC l c).2,()) := by
 unfold p76
 refine loop_find l (fun i=>(((i:Int),()),())) (fun x=>x.1.toList==c.toList) (fun o=>((),(readO o).1,(readO o).2,())) (by omega) (fun i h => ?_) ?_ rfl
 ·have hg:∀ d,l.getD i d=l[i] := fun d=>getD_lt h
  simp only [Int.ofNat_lt,Int.natCast_nonneg,h,decide_true,cond_true,and_self,Int.toNat_natCast,hg,i64_succ h (by omega)]
  cases l[i].1.toList==c.toList <;> rfl
 ·simp only [Int.ofNat_lt,Nat.lt_irrefl,decide_false,cond_false]; rfl
theorem p77_is (l:List Cn) (c:ByteArray) (f:Int) (hl:l.length≤2097152) (hf:4194304<fu):p77 fu (l,(c,f,()),())=some ((),insS l (c,f)) := by
 unfold p77
 refine (loopO_eq (I := fun s => ∃ (h:List Cn) (i:Bool) (j:Nat),s=((h,i,(j:Int),()),())∧j≤l.length∧h.length≤j+(bif i then 1 else 0)) (m := fun s=>l.length+1-Int.toNat s.1.2.2.1) (g := fun s=>((),s.1.1 ++ docR (c,f) s.1.2.1 (l.drop (Int.toNat s.1.2.2.1)))) (fun s hs => ?_) fu _ ⟨[],false,0,rfl,Nat.zero_le _,Nat.zero_le _⟩ (by show l.length+1-0<fu; omega)).trans (by simp [docR])
 obtain ⟨h,i,j,rfl,h1,h2'⟩ := hs
 have h2:h.length≤j+1 := Nat.le_trans h2' (by cases i <;> simp)
 by_cases hj:j<l.length
 ·refine .inl ?_
  have hg:∀ d,l.getD j d=l[j] := fun d=>getD_lt hj
  have hm:∀ x:Cn,h.length+[x].length≤maxLen∧(h.length+[x].length) * 24≤140737488355328 := fun x=>⟨by unfold maxLen; simp only [List.length_singleton]; omega,by simp only [List.length_singleton]; omega⟩
  have hm2:∀ x y:Cn,(h ++ [y]).length+[x].length≤maxLen∧((h ++ [y]).length+[x].length) * 24≤140737488355328 := fun x y=>⟨by unfold maxLen; simp only [List.length_append,List.length_singleton]; omega,by simp only [List.length_append,List.length_singleton]; omega⟩
  simp only [Int.ofNat_lt,Int.natCast_nonneg,hj,decide_true,cond_true,and_self,Int.toNat_natCast,hg,i64_succ hj (by omega),hm,List.drop_eq_getElem_cons hj]
  cases hb:Op.bytesLess l[j].1.toList c.toList with
  | true =>
   have he:(l[j].1.toList==c.toList)=false := isB_less (e := (c,f)) hb
   simp only [Bool.not_true,cond_false,orK_inl,he,Bool.not_false,cond_true]
   refine ⟨_,guardE ⟨by unfold maxLen; simp only [List.length_singleton]; omega,by simp only [List.length_singleton]; omega⟩,⟨_,_,j+1,rfl,hj,by simp only [List.length_append,List.length_singleton] at h2' ⊢; omega⟩,by simp only [Int.toNat_natCast]; omega,?_⟩
   have hk:isB (c,f) l[j]=true := by unfold isB; simp only [he,Bool.not_false]
   cases i
   ·simp only [docR,cond_false,Int.toNat_natCast,insS,hb,cond_true,List.append_assoc,List.singleton_append]
   ·simp only [docR,cond_true,Int.toNat_natCast,List.filter_cons,hk,if_true,List.append_assoc,List.singleton_append]
  | false =>
   cases i
   ·simp only [Bool.not_false,cond_true,orK_inl]
    cases he:(l[j].1.toList==c.toList) with
    | true =>
     simp only [Bool.not_true,cond_false]
     refine ⟨_,rfl,⟨_,_,j+1,rfl,hj,by simp only [List.length_append,List.length_singleton,cond_true,cond_false] at h2' ⊢; omega⟩,by simp only [Int.toNat_natCast]; omega,?_⟩
     have hk:isB (c,f) l[j]=false := by unfold isB; simp only [he,Bool.not_true]
     simp only [docR,cond_false,cond_true,Int.toNat_natCast,insS,hb,List.append_assoc,List.singleton_append,List.filter_cons,hk,Bool.false_eq_true,if_false]
    | false =>
     simp only [Bool.not_false,cond_true]
     refine ⟨_,guardE ⟨by unfold maxLen; simp only [List.length_append,List.length_singleton]; omega,by simp only [List.length_append,List.length_singleton]; omega⟩,⟨_,_,j+1,rfl,hj,by simp only [List.length_append,List.length_singleton,cond_true,cond_false] at h2' ⊢; omega⟩,by simp only [Int.toNat_natCast]; omega,?_⟩
     have hk:isB (c,f) l[j]=true := by unfold isB; simp only [he,Bool.not_false]
     simp only [docR,cond_false,cond_true,Int.toNat_natCast,insS,hb,List.append_assoc,List.cons_append,List.nil_append,List.filter_cons,hk,if_true]
   ·simp only [Bool.not_false,Bool.not_true,cond_true,cond_false,orK_inl]
    cases he:(l[j].1.toList==c.toList) with
    | true =>
     simp only [Bool.not_true,cond_false]
     refine ⟨_,rfl,⟨_,_,j+1,rfl,hj,by simp only [cond_true] at h2' ⊢; omega⟩,by simp only [Int.toNat_natCast]; omega,?_⟩
     have hk:isB (c,f) l[j]=false := by unfold isB; simp only [he,Bool.not_true]
     simp only [docR,cond_true,Int.toNat_natCast,List.filter_cons,hk,Bool.false_eq_true,if_false]
    | false =>
     simp only [Bool.not_false,cond_true]
     refine ⟨_,guardE ⟨by unfold maxLen; simp only [List.length_singleton]; omega,by simp only [List.length_singleton]; omega⟩,⟨_,_,j+1,rfl,hj,by simp only [List.length_append,List.length_singleton,cond_true] at h2' ⊢; omega⟩,by simp only [Int.toNat_natCast]; omega,?_⟩
     have hk:isB (c,f) l[j]=true := by unfold isB; simp only [he,Bool.not_false]
     simp only [docR,cond_true,Int.toNat_natCast,List.append_assoc,List.singleton_append,List.filter_cons,hk,if_true]
 ·refine .inr ?_
  obtain rfl:j=l.length := by omega
  have hm:h.length+[(c,f)].length≤maxLen∧(h.length+[(c,f)].length) * 24≤140737488355328 := ⟨by unfold maxLen; simp only [List.length_singleton]; omega,by simp only [List.length_singleton]; omega⟩
  simp only [Int.ofNat_lt,Nat.lt_irrefl,decide_false,cond_false,Int.toNat_natCast,List.drop_length,hm,and_self,decide_true,cond_true]
  cases i
  ·rfl
  ·simp only [Bool.not_true,cond_false,docR,cond_true,List.filter_nil,List.append_nil]; rfl
/-! ### By halves -/
theorem p78_is (o:List Int) (c:Int) (ho:0<o.length) (hl:o.length≤2097152) (hc:isU c):p78 fu (o,c,())=some ((),atS o c) := by
 obtain ⟨c1,c2⟩ := hc
 unfold p78 atS
 have e1:IntKind.wrap .u64 (o.length:Int)=(o.length:Int) := u64_wrap (by omega) (by omega)
 have e3:IntKind.wrap .i64 ((o.length:Int)-1)=((o.length-1:Nat):Int) := i64_pred ho (by omega)
 have hlt:min (Int.toNat c) (o.length-1)<o.length := by omega
 simp only [e1,e3]
 by_cases h:c≥(o.length:Int)
 ·have e:min (Int.toNat c) (o.length-1)=o.length-1 := by omega
  have h':o.length-1<o.length := by omega
  rw [e]
  simp only [h,decide_true,cond_true,Int.natCast_nonneg,Int.ofNat_lt,h',and_self,Int.toNat_natCast,getD_lt h']
 ·have e:min (Int.toNat c) (o.length-1)=Int.toNat c := by omega
  have e4:IntKind.wrap .i64 c=((Int.toNat c:Nat):Int) := by rw [i64_wrap (by omega) (by omega)]; omega
  have h':Int.toNat c<o.length := by omega
  rw [e]
  simp only [h,decide_false,cond_false,e4,Int.natCast_nonneg,Int.ofNat_lt,h',and_self,Int.toNat_natCast,getD_lt h',decide_true,cond_true]
/-! ### Map -/
theorem p31_is (a b:List Cn) (f h:List Int) (ha:okL a) (hb:okL b) (hlf:f.length≤2097152) (hlh:h.length≤2097152) (hf:4194304<fu):p31 fu (a,b,f,h,())=some ((),(bothS a b f h).1,(bothS a b f h).2,()) := by
 unfold p31 bothS
 simp only [p67_is a ha hf,p67_is b hb hf,bind_val]
 cases hoa:okC a
 ·rfl
 cases hob:okC b
 ·rfl
 have la := (okC_rises hoa).2
 have lb := (okC_rises hob).2
 have g1:a.length≤maxLen∧a.length * 24≤140737488355328 := ⟨by unfold maxLen; omega,by omega⟩
 have g2:a.length+b.length≤maxLen∧(a.length+b.length) * 24≤140737488355328 := ⟨by unfold maxLen; omega,by omega⟩
 rcases Nat.eq_zero_or_pos f.length with h0' | h0
 ·have h0:¬ 0<f.length := by omega
  have h1:((f.length:Int)==0)=true := beq_iff_eq.2 (by omega)
  simp only [h0,h1,Bool.not_true,cond_false,cond_true,decide_false]
 rcases Nat.eq_zero_or_pos h.length with h2' | h2
 ·have h2:¬ 0<h.length := by omega
  have h1:((f.length:Int)==0)=false := beq_eq_false_iff_ne.2 (by omega)
  have h3:((h.length:Int)==0)=true := beq_iff_eq.2 (by omega)
  simp only [h0,h1,h2,h3,Bool.not_true,cond_false,cond_true,decide_false,decide_true]
 have h1:((f.length:Int)==0)=false := beq_eq_false_iff_ne.2 (by omega)
 have h3:((h.length:Int)==0)=false := beq_eq_false_iff_ne.2 (by omega)
 simp only [h0,h1,h2,h3,Bool.not_true,cond_false,cond_true,decide_true,Nat.zero_add,List.nil_append,List.length_nil,g1,g2,and_self]
 refine loop_fold (a ++ b) (fun i l=>((l,(i:Int),()),())) (stepB a b f h) (fun l=>((),(finB l).1,(finB l).2,())) [] (fun i l=>Rises l∧l.length≤i) ⟨List.Pairwise.nil,Nat.le_refl _⟩ (by simp only [List.length_append]; omega) (fun i hi l hl => ?_) (fun l hl => ?_) rfl
 ·obtain ⟨hr,hll⟩ := hl
  have hi':i<a.length+b.length := by simpa using hi
  have hg:∀ d,(a ++ b).getD i d=(a ++ b)[i] := fun d=>getD_lt hi
  refine ⟨?_,rises_insS hr,Nat.le_trans (len_insS _ _) (Nat.succ_le_succ hll)⟩
  simp only [Int.ofNat_lt,Int.natCast_nonneg,hi,decide_true,cond_true,and_self,Int.toNat_natCast,hg,p76_is a _ (show a.length≤2097152 by omega) hf,p76_is b _ (show b.length≤2097152 by omega) hf,bind_val,p78_is f _ h0 hlf (read_u ha _),p78_is h _ h2 hlh (read_u hb _),p77_is l _ _ (show l.length≤2097152 by omega) hf,i64_succ hi' (by omega)]
  rfl
 ·simp only [Int.ofNat_lt,Nat.lt_irrefl,decide_false,cond_false,finB]
  by_cases h6:l.length>64
  ·have h7:(l.length:Int)>64 := by omega
   simp only [h6,h7,decide_true,cond_true]; rfl
  ·have h7:¬ (l.length:Int)>64 := by omega
   simp only [h6,h7,decide_false,cond_false]; rfl
end
section
variable {fu:Nat}
def newest (_ y:Pr):Pr := y
def ins (l:List Pr) (x:Pr):List Pr := merge newest l [x]
theorem ins_nil (x:Pr):ins [] x=[x] := merge_nil _ _
theorem ins_cons (y x:Pr) (l:List Pr):ins (y :: l) x=if y.1<x.1 then y :: ins l x else if y.1>x.1 then x :: y :: l else x :: l := by
 unfold ins
 rw [merge_cons,merge_nil',merge_nil']; rfl
theorem ins_mem {x z:Pr}:∀ {l:List Pr},z ∈ ins l x→z=x ∨ z ∈ l
 | [],h=>by rw [ins_nil] at h; exact .inl (by simpa using h)
 | y :: l,h=>by
  rw [ins_cons] at h
  split at h
  ·rcases List.mem_cons.1 h with rfl | h
   ·exact .inr (List.mem_cons_self ..)
   ·rcases ins_mem h with h | h
    ·exact .inl h
    ·exact .inr (List.mem_cons_of_mem _ h)
  ·split at h
   ·rcases List.mem_cons.1 h with h | h
    ·exact .inl h
    ·exact .inr h
   ·rcases List.mem_cons.1 h with h | h
    ·exact .inl h
    ·exact .inr (List.mem_cons_of_mem _ h)
theorem ins_len (x:Pr):∀ l:List Pr,(ins l x).length≤l.length+1
 | []=>by rw [ins_nil]; simp
 | y :: l=>by
  rw [ins_cons]
  have := ins_len x l
  split
  ·simp; omega
  ·split <;> simp
theorem ins_sp {x:Pr}:∀ {l:List Pr},SP l→SP (ins l x)
 | [],_=>by rw [ins_nil]; exact List.pairwise_singleton ..
 | y :: l,h=>by
  rw [ins_cons]
  have h' := List.pairwise_cons.1 h
  split
  ·rename_i c
   refine List.pairwise_cons.2 ⟨fun z hz => ?_,ins_sp h'.2⟩
   rcases ins_mem hz with rfl | hz
   ·exact c
   ·exact h'.1 z hz
  ·split
   ·rename_i c1 c2
    refine List.pairwise_cons.2 ⟨fun z hz => ?_,h⟩
    rcases List.mem_cons.1 hz with rfl | hz
    ·exact c2
    ·have := h'.1 z hz; omega
   ·rename_i c1 c2
    refine List.pairwise_cons.2 ⟨fun z hz => ?_,h'.2⟩
    have := h'.1 z hz; omega
theorem ins_find (x:Pr) (id:Int):∀ l:List Pr,find (ins l x) id=if x.1=id then some x else find l id
 | []=>by rw [ins_nil,find_cons]
 | y :: l=>by
  rw [ins_cons,find_cons]
  split
  ·rename_i c
   rw [find_cons,ins_find x id l]
   by_cases h:y.1=id
   ·rw [if_pos h,if_neg (by omega),if_pos h]
   ·rw [if_neg h]
    by_cases h2:x.1=id
    ·rw [if_pos h2,if_pos h2]
    ·rw [if_neg h2,if_neg h2,if_neg h]
  ·split
   ·rw [find_cons,find_cons]
   ·rename_i c1 c2
    rw [find_cons]
    by_cases h2:x.1=id
    ·rw [if_pos h2,if_pos h2]
    ·rw [if_neg h2,if_neg h2,if_neg (by omega)]
theorem p99_is (x:Pr) (to:List Int) (h0:0≤x.2.2.2) (hl:to.length≤9223372036854775807) :
  p99 fu ((x.1,x.2.1,x.2.2.1,x.2.2.2,()),to,())=some ((),((mv to x).1,(mv to x).2.1,(mv to x).2.2.1,(mv to x).2.2.2,())) := by
 obtain ⟨a,b,c,d⟩ := x
 simp only at h0
 simp only [p99,mv]
 cases c with
 | false=>simp [orK]
 | true =>
  simp only [cond_true,true_and]
  by_cases h1:(to.length:Int)>0
  ·have e1:IntKind.wrap .u64 (IntKind.wrap .i64 ((to.length:Int)-1))=(to.length:Int)-1 := by rw [i64_wrap (by omega) (by omega),u64_wrap (by omega) (by omega)]
   simp only [h1,decide_true,cond_true,e1]
   by_cases h2:d<(to.length:Int)-1
   ·have e2:IntKind.wrap .i64 d=d := i64_wrap (by omega) (by omega)
    have e3:IntKind.wrap .i64 (d+1)=d+1 := i64_wrap (by omega) (by omega)
    have k1:0≤d+1∧d+1<(to.length:Int) := by omega
    have k2:(d+1).toNat<to.length := by omega
    have k3:0≤d∧d<(to.length:Int) := by omega
    have k4:d.toNat<to.length := by omega
    have es:standsB d to=decide (to.getD d.toNat (dflt (.int .u64))<to.getD (d+1).toNat (dflt (.int .u64))) := by
     unfold standsB; simp [k1.2]
    simp only [h2,e2,e3,k1,k2,k3,k4,decide_true,cond_true,and_self,orK_inl,es,gt_iff_lt,decide_eq_true_eq]
    by_cases h3:to.getD d.toNat (dflt (.int .u64))<to.getD (d+1).toNat (dflt (.int .u64))
    ·simp only [h3,decide_true,cond_true,if_true]
    ·simp only [h3,decide_false,cond_false,if_false]
   ·have es:standsB d to=false := by
     unfold standsB
     have:¬ (d+1<(to.length:Int)) := by omega
     simp [this]
    simp [h2,es,orK]
  ·have es:standsB d to=false := by
    unfold standsB
    have:¬ (d+1<(to.length:Int)) := by omega
    simp [this]
   simp only [h1,es,decide_false,cond_false,orK_inl,Bool.false_eq_true,if_false]
theorem p73_is (l:List Pr) (to:List Int) (h0:∀ x ∈ l,0≤x.2.2.2) (hl:l.length * 32≤140737488355328) (ht:to.length≤9223372036854775807) (hf:l.length<fu) :
  p73 fu (l,to,())=some ((),l.map (mv to)) := by
 unfold p73
 refine loopO_eq (I := fun s => ∃ i:Nat,s=(((l.take i).map (mv to),(i:Int),()),())∧i≤l.length) (m := fun s=>l.length-s.1.2.1.toNat) (g := fun _=>((),l.map (mv to))) ?_ fu _ ⟨0,by simp,Nat.zero_le _⟩ (by simpa using hf)
 rintro s ⟨i,rfl,h1⟩
 by_cases hi:i<l.length
 ·left
  have hx:0≤(l.getD i (dflt T_api_Producer)).2.2.2 := by rw [getD_lt hi]; exact h0 _ (List.getElem_mem _)
  have e37 := p99_is (fu := fu) (l.getD i (dflt T_api_Producer)) to hx ht
  have hb:(((l.take i).map (mv to)).length+[mv to (l.getD i (dflt T_api_Producer))].length≤maxLen∧(((l.take i).map (mv to)).length+[mv to (l.getD i (dflt T_api_Producer))].length) * 32≤140737488355328) := by
   simp only [List.length_map,List.length_take,List.length_singleton]
   exact ⟨by show _≤9223372036854775807; omega,by omega⟩
  refine ⟨(((l.take (i+1)).map (mv to),((i+1:Nat):Int),()),()),?_,⟨i+1,rfl,hi⟩,by simp only [Int.toNat_natCast]; omega,rfl⟩
  rw [take_snoc' hi (dflt T_api_Producer),List.map_append]
  simp only [Int.ofNat_lt,hi,decide_true,cond_true,Int.natCast_nonneg,true_and,Int.toNat_natCast,e37,bind_val,i64_succ hi (by omega),hb,List.map_cons,List.map_nil]
 ·right
  obtain rfl:i=l.length := by omega
  simp [inrO]
theorem sp_ext:∀ {a b:List Pr},SP a→SP b→(∀ id,find a id=find b id)→a=b
 | [],[],_,_,_=>rfl
 | [],y :: b,_,_,h=>by have := h y.1; rw [find_cons,if_pos rfl] at this; cases this
 | x :: a,[],_,_,h=>by have := h x.1; rw [find_cons,if_pos rfl] at this; cases this
 | x :: a,y :: b,ha,hb,h=>by
  obtain ⟨a1,a2⟩ := sp_cons.1 ha
  obtain ⟨b1,b2⟩ := sp_cons.1 hb
  have e:x=y := by
   rcases Int.lt_trichotomy x.1 y.1 with hl | he | hg
   ·have := h x.1
    rw [find_cons,if_pos rfl,find_none (l := y :: b) (fun z hz=>by
     rcases List.mem_cons.1 hz with rfl | hz
     ·exact hl
     ·have := b1 z hz; omega)] at this
    cases this
   ·have := h x.1
    rw [find_cons,if_pos rfl,find_cons,if_pos he.symm] at this
    exact Option.some.inj this
   ·have := h y.1
    rw [find_cons y,if_pos rfl,find_none (l := x :: a) (fun z hz=>by
     rcases List.mem_cons.1 hz with rfl | hz
     ·exact hg
     ·have := a1 z hz; omega)] at this
    cases this
  subst e
  have:a=b := sp_ext a2 b2 fun id=>by
   by_cases hi:x.1=id
   ·rw [← hi,find_none a1,find_none b1]
   ·have := h id
    rw [find_cons,find_cons,if_neg hi,if_neg hi] at this
    exact this
  rw [this]
theorem ins_app {x:Pr} (r:List Pr):∀ {l:List Pr},(∀ z ∈ l,z.1<x.1)→ins (l ++ r) x=l ++ ins r x
 | [],_=>rfl
 | y :: l,h=>by
  rw [List.cons_append,ins_cons,if_pos (h y List.mem_cons_self),ins_app r fun z hz=>h z (List.mem_cons_of_mem _ hz)]; rfl
theorem ins_more {x y:Pr} (hy:y.1>x.1):∀ {l:List Pr},SP (l ++ [y])→(∃ z ∈ l,z.1≥x.1)→ins (l ++ [y]) x=ins l x ++ [y]
 | [],_,⟨z,hz,_⟩=>by cases hz
 | w :: l,h,⟨z,hz,hzx⟩=>by
  rw [List.cons_append,ins_cons,ins_cons]
  by_cases c1:w.1<x.1
  ·rw [if_pos c1,if_pos c1,ins_more hy (sp_cons.1 h).2 (by
    rcases List.mem_cons.1 hz with rfl | hz
    ·omega
    ·exact ⟨z,hz,hzx⟩)]; rfl
  ·rw [if_neg c1,if_neg c1]
   split <;> rfl
theorem p74_is (l:List Pr) (id:Int) (hl:l.length≤9223372036854775806) (hf:l.length<fu) :
  p74 fu (l,id,())=some ((),if findI l id<l.length then ((findI l id:Nat):Int) else -1) := by
 unfold p74
 refine loopO_eq (I := fun s => ∃ i:Nat,s=(((i:Int),()),())∧i≤l.length∧i≤findI l id) (m := fun s=>l.length-s.1.1.toNat)
  (g := fun _=>((),if findI l id<l.length then ((findI l id:Nat):Int) else -1)) ?_ fu _ ⟨0,rfl,Nat.zero_le _,Nat.zero_le _⟩ (by simpa using hf)
 rintro s ⟨i,rfl,h1,h2⟩
 by_cases hi:i<l.length
 ·cases hx:(l[i].1==id) with
  | true =>
   right
   have e := findI_eq h2 hi hx
   simp [hi,inrO,hx,e]
  | false =>
   left
   refine ⟨((((i+1:Nat):Int),()),()),?_,⟨i+1,rfl,hi,findI_lt h2 hi hx⟩,?_,rfl⟩
   ·simp [hi,hx,i64_succ hi (by omega)]
   ·simp; omega
 ·right
  have e:i=l.length := by omega
  have e2:findI l id=l.length := by have := findI_le l id; omega
  subst e
  simp [inrO,e2]
theorem p75_is (l:List Pr) (x:Pr) (hs:SP l) (hl:(l.length+1) * 32≤140737488355328) (hf:l.length<fu):p75 fu (l,(x.1,x.2.1,x.2.2.1,x.2.2.2,()),())=some ((),ins l x) := by
 unfold p75
 refine loopO_eq (I := fun s => ∃ (i:Nat) (v:List Pr) (b:Bool),s=((v,b,(i:Int),()),())∧i≤l.length∧((b=false∧v=l.take i ∧ ∀ z ∈ l.take i,z.1<x.1) ∨ (b=true∧v=ins (l.take i) x ∧ ∃ z ∈ l.take i,z.1≥x.1)))
  (m := fun s=>l.length-s.1.2.2.1.toNat) (g := fun _=>((),ins l x)) ?_ fu _ ⟨0,[],false,rfl,Nat.zero_le _,.inl ⟨rfl,by simp,by simp⟩⟩ (by simpa using hf)
 rintro s ⟨i,v,b,rfl,h1,h2⟩
 by_cases hi:i<l.length
 ·left
  have ht := take_snoc' hi (dflt T_api_Producer)
  have hsp:SP (l.take i ++ [l.getD i (dflt T_api_Producer)]) := by rw [← ht]; exact List.Pairwise.sublist (List.take_sublist _ _) hs
  generalize hy:l.getD i (dflt T_api_Producer)=y at ht hsp
  have hlt:(l.take i).length=i := by rw [List.length_take]; omega
  have hc:∀ n:Nat,n≤i+1→(n+1≤maxLen∧(n+1) * 32≤140737488355328) := fun n hn=>⟨by show _≤9223372036854775807; omega,by omega⟩
  have ws := i64_succ hi (show l.length≤9223372036854775807 by omega)
  rcases h2 with ⟨rfl,rfl,h3⟩ | ⟨rfl,rfl,z,hz,h3⟩
  ·by_cases c1:y.1≥x.1
   ·by_cases c2:y.1=x.1
    ·have b1:(x.1 != x.1)=false := by simp
     have b2:(y.1 != x.1)=false := by simpa using c2
     refine ⟨((l.take i ++ [x],true,((i+1:Nat):Int),()),()),?_,⟨i+1,_,true,rfl,hi,.inr ⟨rfl,?_,y,by rw [ht]; simp,c1⟩⟩,by simp only [Int.toNat_natCast]; omega,rfl⟩
     ·simp only [Int.ofNat_lt,hi,hy,decide_true,cond_true,cond_false,Int.natCast_nonneg,and_self,Int.toNat_natCast,Bool.not_false,orK_inl,List.length_append,List.length_singleton,c1,b2,hlt,hc i (by omega),ws]
     ·rw [ht,ins_app _ h3,ins_cons,if_neg (by omega),if_neg (by omega)]
    ·have b2:(y.1 != x.1)=true := by simpa using c2
     refine ⟨((l.take i ++ [x] ++ [y],true,((i+1:Nat):Int),()),()),?_,⟨i+1,_,true,rfl,hi,.inr ⟨rfl,?_,y,by rw [ht]; simp,c1⟩⟩,by simp only [Int.toNat_natCast]; omega,rfl⟩
     ·simp only [Int.ofNat_lt,hi,hy,decide_true,cond_true,Int.natCast_nonneg,and_self,Int.toNat_natCast,Bool.not_false,orK_inl,List.length_append,List.length_singleton,c1,b2,hlt,hc i (by omega),hc (i+1) (by omega),ws]
     ·rw [ht,ins_app _ h3,ins_cons,if_neg (by omega),if_pos (by omega)]; simp
   ·have c2:¬ y.1=x.1 := by omega
    have b2:(y.1 != x.1)=true := by simpa using c2
    refine ⟨((l.take i ++ [y],false,((i+1:Nat):Int),()),()),?_,⟨i+1,_,false,rfl,hi,.inl ⟨rfl,ht.symm,fun z hz => ?_⟩⟩,by simp only [Int.toNat_natCast]; omega,rfl⟩
    ·simp only [Int.ofNat_lt,hi,hy,decide_true,decide_false,cond_true,cond_false,Int.natCast_nonneg,and_self,Int.toNat_natCast,Bool.not_false,orK_inl,List.length_append,List.length_singleton,c1,b2,hlt,hc i (by omega),ws]
    ·rw [ht] at hz
     rcases List.mem_append.1 hz with hz | hz
     ·exact h3 z hz
     ·have:z=y := by simpa using hz
      subst this; omega
  ·have hzy:z.1<y.1 := (List.pairwise_append.1 hsp).2.2 z hz y (by simp)
   have c1:y.1≥x.1 := by omega
   have c2:¬ y.1=x.1 := by omega
   have b2:(y.1 != x.1)=true := by simpa using c2
   have hil := ins_len x (l.take i)
   rw [hlt] at hil
   refine ⟨((ins (l.take i) x ++ [y],true,((i+1:Nat):Int),()),()),?_,⟨i+1,_,true,rfl,hi,.inr ⟨rfl,?_,z,by rw [ht]; simp [hz],h3⟩⟩,by simp only [Int.toNat_natCast]; omega,rfl⟩
   ·simp only [Int.ofNat_lt,hi,hy,decide_true,cond_true,cond_false,Int.natCast_nonneg,and_self,Int.toNat_natCast,Bool.not_true,orK_inl,List.length_append,List.length_singleton,c1,b2,hc (ins (l.take i) x).length (by omega),ws]
   ·rw [ht,ins_more (by omega) hsp ⟨z,hz,h3⟩]
 ·right
  obtain rfl:i=l.length := by omega
  rw [List.take_length] at h2
  have hc:(l.length+1≤maxLen∧(l.length+1) * 32≤140737488355328) := ⟨by show _≤9223372036854775807; omega,by omega⟩
  rcases h2 with ⟨rfl,rfl,h3⟩ | ⟨rfl,rfl,_⟩
  ·have := ins_app (x := x) [] h3
   rw [List.append_nil,ins_nil] at this
   simp [inrO,hc,this]
  ·simp [inrO]
theorem p66_is (l:List Pr) (hl:l.length≤9223372036854775806) (hf:l.length<fu):p66 fu (l,())=some ((),tabI l) := by
 unfold p66
 by_cases h256:(l.length:Int)>256
 ·have:tabI l=false := by
   unfold tabI
   have:decide (l.length≤256)=false := by simpa using (show 256<l.length by omega)
   rw [this,Bool.and_false]
  simp only [h256,decide_true,cond_true,this]
 ·simp only [h256,decide_false,cond_false]
  refine loopO_eq (I := fun s => ∃ i:Nat,s=(((i:Int),()),())∧i≤l.length ∧ ∀ j,j<i→rowOK l j=true) (m := fun s=>l.length-s.1.1.toNat)
   (g := fun _=>((),tabI l)) ?_ fu _ ⟨0,rfl,Nat.zero_le _,fun j hj=>absurd hj (Nat.not_lt_zero _)⟩ (by simpa using hf)
  rintro s ⟨i,rfl,h1,h2⟩
  by_cases hi:i<l.length
  ·have hi':(i:Int)<(l.length:Int) := by omega
   simp only [hi',decide_true,cond_true,Int.natCast_nonneg,Int.toNat_natCast,hi,and_self]
   have hrow:rowOK l i=((i==0||decide ((l.getD (i-1) (dflt T_api_Producer)).1<(l.getD i (dflt T_api_Producer)).1)) && okP (l.getD i (dflt T_api_Producer))) := rfl
   have bad:rowOK l i=false→((),tabI l)=((),false) := fun h=>by rw [tabI_no hi h]
   have good:rowOK l i=true→(∃ s':((Int×Unit)×Unit),(some (.inl ((IntKind.wrap .i64 ((i:Int)+(1:Int)),()),())):Option (((Int×Unit)×Unit) ⊕ (Unit×Bool)))=some (.inl s') ∧
     (∃ i:Nat,s' = (((i:Int),()),())∧i≤l.length ∧ ∀ j,j<i→rowOK l j=true)∧l.length-s'.1.1.toNat<l.length-i∧True) := fun h =>
    ⟨((((i+1:Nat):Int),()),()),by rw [i64_succ hi (by omega)],⟨i+1,rfl,hi,fun j hj=>by
      rcases Nat.lt_succ_iff_lt_or_eq.1 hj with h' | rfl
      ·exact h2 j h'
      ·exact h⟩,by simp; omega,trivial⟩
   -- what stands ahead of it
   have hahead : ∃ bb : Bool, (i == 0 || decide ((l.getD (i - 1) (dflt T_api_Producer)).1 < (l.getD i (dflt T_api_Producer)).1)) = bb ∧ ∀ (X Y : Option (((Int × Unit) × Unit) ⊕ (Unit × Bool))), (bif decide ((i : Int) > (0 : Int)) then
           bif decide ((0:Int)≤IntKind.wrap .i64 ((i:Int)-(1:Int))∧IntKind.wrap .i64 ((i:Int)-(1:Int))<(List.length l:Int)) then
            bif decide (Int.toNat (IntKind.wrap .i64 ((i:Int)-(1:Int)))<List.length l) then
              bif decide (((List.getD l (Int.toNat (IntKind.wrap .i64 ((i:Int)-(1:Int)))) (dflt T_api_Producer)).1)≥(List.getD l i (dflt T_api_Producer)).1) then X else Y
            else none
           else none
       else Y)=bif bb then Y else X := by
    by_cases h0:i=0
    ·subst h0; exact ⟨true,rfl,fun X Y=>by simp⟩
    ·have hpos:(i:Int)>0 := by omega
     have hlt:i-1<l.length := by omega
     have hlt':((i-1:Nat):Int)<(l.length:Int) := by omega
     have hw:IntKind.wrap .i64 ((i:Int)-(1:Int))=((i-1:Nat):Int) := i64_pred (by omega) (by omega)
     have h0':(i==0)=false := by simpa using h0
     refine ⟨decide ((l.getD (i-1) (dflt T_api_Producer)).1<(l.getD i (dflt T_api_Producer)).1),by rw [h0',Bool.false_or],fun X Y => ?_⟩
     simp only [hpos,decide_true,cond_true,hw,Int.natCast_nonneg,hlt',and_self,Int.toNat_natCast,hlt]
     by_cases hlt2:(l.getD (i-1) (dflt T_api_Producer)).1<(l.getD i (dflt T_api_Producer)).1
     ·have hn:¬ (l.getD (i-1) (dflt T_api_Producer)).1≥(l.getD i (dflt T_api_Producer)).1 := by omega
      simp only [hn,hlt2,decide_true,decide_false,cond_true,cond_false]
     ·have hn:(l.getD (i-1) (dflt T_api_Producer)).1≥(l.getD i (dflt T_api_Producer)).1 := by omega
      simp only [hn,hlt2,decide_true,decide_false,cond_true,cond_false]
   obtain ⟨bb,hbb,hah⟩ := hahead
   rw [hbb] at hrow
   simp only [hah]
   clear hah hbb
   obtain ⟨x,hx⟩:∃ x,l.getD i (dflt T_api_Producer)=x := ⟨_,rfl⟩
   simp only [hx] at hrow ⊢
   clear hx
   obtain ⟨x1,x2,x3,x4⟩ := x
   simp only [okP,seqB] at hrow
   simp only
   by_cases hz:x1=0
   ·right; rw [bad (by rw [hrow]; simp [hz])]; simp [hz,inrO]
   ·have hz':(x1==(0:Int))=false := by simpa using hz
    simp only [hz',cond_false]
    by_cases hs1:x2<1
    ·right
     have:decide (1≤x2)=false := by simpa using hs1
     rw [bad (by rw [hrow,this]; simp)]; simp [hs1,inrO]
    ·have hs1':decide (1≤x2)=true := by simpa using (show 1≤x2 by omega)
     simp only [hs1,decide_false,cond_false]
     by_cases hs2:x2>9223372036854775807
     ·right
      have:decide (x2≤9223372036854775807)=false := by simpa using hs2
      rw [bad (by rw [hrow,this]; simp)]; simp [hs2,inrO]
     ·have hs2':decide (x2≤9223372036854775807)=true := by simpa using (show x2≤9223372036854775807 by omega)
      simp only [hs2,decide_false,cond_false]
      cases bb with
      | false =>
       right; rw [bad (by rw [hrow]; rfl)]
       cases x3 with
       | true=>simp [inrO]
       | false =>
        by_cases h4:x4=0
        ·simp [h4,inrO]
        ·have h4':(x4 != (0:Int))=true := by simpa using h4
         simp [h4',inrO]
      | true =>
       cases x3 with
       | true =>
        left
        simp only [Bool.not_true,cond_false,cond_true]
        exact good (by rw [hrow]; simp [hz,hs1',hs2'])
       | false =>
        by_cases h4:x4=0
        ·subst h4
         left
         simp only [Bool.not_false,cond_true,bne_self_eq_false,cond_false]
         exact good (by rw [hrow]; simp [hz,hs1',hs2'])
        ·right; rw [bad (by rw [hrow]; simp [h4])]
         have h4':(x4 != (0:Int))=true := by simpa using h4
         simp [h4',inrO]
  ·right
   have e:i=l.length := by omega
   subst e
   have:(List.range l.length).all (rowOK l)=true := List.all_eq_true.2 fun j hj=>h2 j (List.mem_range.1 hj)
   simp [inrO,tabI,this]
   omega
def stepQ (l:List Pr) (y:Pr):List Pr := match find l y.1 with
 | none=>ins l y
 | some x=>if y.2.1>x.2.1 ∨ (y.2.1=x.2.1∧y.2.2.1=true∧x.2.2.1=false) then ins l y else l
theorem stepQ_sp {l:List Pr} {y:Pr} (h:SP l):SP (stepQ l y) := by
 unfold stepQ
 split
 ·exact ins_sp h
 ·split
  ·exact ins_sp h
  ·exact h
theorem stepQ_len (l:List Pr) (y:Pr):(stepQ l y).length≤l.length+1 := by
 unfold stepQ
 have := ins_len y l
 split
 ·exact this
 ·split
  ·exact this
  ·omega
theorem stepQ_find (l:List Pr) (y:Pr) (id:Int):find (stepQ l y) id=if y.1=id then comb laterP (find l id) (some y) else find l id := by
 unfold stepQ
 by_cases hi:y.1=id
 ·subst hi
  rw [if_pos rfl]
  cases hf:find l y.1 with
  | none=>simp only [ins_find,if_true,comb]
  | some x =>
   simp only [comb,laterP]
   by_cases h1:y.2.1>x.2.1
   ·rw [if_pos (.inl h1),if_pos h1,ins_find,if_pos rfl]
   ·rw [if_neg h1]
    by_cases h2:y.2.1=x.2.1∧y.2.2.1=true∧x.2.2.1=false
    ·rw [if_pos (.inr h2),if_pos h2,ins_find,if_pos rfl]
    ·rw [if_neg h2,if_neg (fun h=>h.elim h1 h2),hf]
 ·rw [if_neg hi]
  split
  ·rw [ins_find,if_neg hi]
  ·split
   ·rw [ins_find,if_neg hi]
   ·rfl
def foldQ (l b:List Pr):List Pr := b.foldl stepQ l
theorem foldQ_sp:∀ (b l:List Pr),SP l→SP (foldQ l b)
 | [],_,h=>h
 | _ :: b,_,h=>foldQ_sp b _ (stepQ_sp h)
theorem foldQ_len:∀ (b l:List Pr),(foldQ l b).length≤l.length+b.length
 | [],_=>Nat.le_refl _
 | y :: b,l=>by
  have h1 := foldQ_len b (stepQ l y)
  have h2 := stepQ_len l y
  simp only [foldQ,List.foldl_cons,List.length_cons] at h1 ⊢
  omega
theorem foldQ_find (id:Int):∀ (b l:List Pr),SP b→find (foldQ l b) id=comb laterP (find l id) (find b id)
 | [],l,_=>by show find l id=comb laterP (find l id) none; cases find l id <;> rfl
 | y :: b,l,h=>by
  obtain ⟨h1,h2⟩ := sp_cons.1 h
  show find (foldQ (stepQ l y) b) id=_
  rw [foldQ_find id b _ h2,stepQ_find,find_cons]
  by_cases hi:y.1=id
  ·rw [if_pos hi,if_pos hi,find_none (l := b) (by rw [← hi]; exact h1)]
   cases find l id <;> rfl
  ·rw [if_neg hi,if_neg hi]
theorem foldQ_merge {l b:List Pr} (hl:SP l) (hb:SP b):foldQ l b=merge laterP l b :=
 sp_ext (foldQ_sp b l hl) (merge_sp later_1 l b hl hb) fun id=>by rw [foldQ_find id b l hb,merge_find later_1 id l b hl hb]
theorem foldQ_take {l b:List Pr} {i:Nat} (h:i<b.length):foldQ l (b.take (i+1))=stepQ (foldQ l (b.take i)) (b.getD i (dflt T_api_Producer)) := by
 unfold foldQ
 rw [take_snoc' h (dflt T_api_Producer),List.foldl_append]; rfl
theorem p30_is (a b:List Pr) (ta tb:List Int) (ha0:∀ x ∈ a,0≤x.2.2.2) (hb0:∀ x ∈ b,0≤x.2.2.2) (ha:a.length * 32≤140737488355328) (hb:b.length * 32≤140737488355328) (hta:ta.length≤9223372036854775807) (htb:tb.length≤9223372036854775807)
  (hf:a.length+b.length+1000<fu):p30 fu (a,b,ta,tb,())=some ((),((bothP a b ta tb).1,(bothP a b ta tb).2,())) := by
 unfold p30
 have hS:bothP a b ta tb=if tabI a=false then ([],1) else if tabI b=false then ([],1) else if (foldQ (a.map (mv ta)) (b.map (mv tb))).length>256 then ([],153) else (foldQ (a.map (mv ta)) (b.map (mv tb)),0) := by
  unfold bothP
  cases h1:tabI a with
  | false=>rfl
  | true =>
   cases h2:tabI b with
   | false=>rfl
   | true=>rw [foldQ_merge (map_sp ta ((tab_iff a).1 h1).2.1) (map_sp tb ((tab_iff b).1 h2).2.1)]
 rw [hS]
 simp only [p66_is (fu := fu) a (by omega) (by omega),p66_is (fu := fu) b (by omega) (by omega),bind_val]
 cases h1:tabI a with
 | false=>simp
 | true =>
  cases h2:tabI b with
  | false=>simp
  | true =>
   have l1:a.length≤256 := ((tab_iff a).1 h1).2.2
   have l2:b.length≤256 := ((tab_iff b).1 h2).2.2
   have s1:SP (a.map (mv ta)) := map_sp ta ((tab_iff a).1 h1).2.1
   simp only [Bool.not_true,cond_false,p73_is (fu := fu) a ta ha0 ha hta (by omega),p73_is (fu := fu) b tb hb0 hb htb (by omega),bind_val,decide_true,cond_true,Bool.true_eq_false,if_false]
   have m1:(a.map (mv ta)).length≤256 := by simpa using l1
   have m2:(b.map (mv tb)).length≤256 := by simpa using l2
   obtain ⟨A,hA⟩:∃ A,a.map (mv ta)=A := ⟨_,rfl⟩
   obtain ⟨B,hB⟩:∃ B,b.map (mv tb)=B := ⟨_,rfl⟩
   simp only [hA,hB] at s1 m1 m2 ⊢
   clear hA hB hS
   refine loopO_eq (I := fun s => ∃ i:Nat,s=((foldQ A (B.take i),(i:Int),()),())∧i≤B.length) (m := fun s=>B.length-s.1.2.1.toNat)
    (g := fun _=>((),((if (foldQ A B).length>256 then (([]:List Pr),(153:Int)) else (foldQ A B,0)).1,(if (foldQ A B).length>256 then (([]:List Pr),(153:Int)) else (foldQ A B,0)).2,()))) ?_ fu _ ⟨0,rfl,Nat.zero_le _⟩ (by simp; omega)
   rintro s ⟨i,rfl,h3⟩
   by_cases hi:i<B.length
   ·left
    have hstep := foldQ_take (l := A) hi
    have hlen := foldQ_len (B.take i) A
    rw [List.length_take] at hlen
    have hsp := foldQ_sp (B.take i) A s1
    obtain ⟨L,hL⟩:∃ L,foldQ A (B.take i)=L := ⟨_,rfl⟩
    rw [hL] at hstep hlen hsp
    obtain ⟨y,hy⟩:∃ y,B.getD i (dflt T_api_Producer)=y := ⟨_,rfl⟩
    rw [hy] at hstep
    have e35 := p74_is (fu := fu) L y.1 (by omega) (by omega)
    have e36 := p75_is (fu := fu) L y hsp (by omega) (by omega)
    refine ⟨((stepQ L y,((i+1:Nat):Int),()),()),?_,⟨i+1,by rw [hstep],hi⟩,by simp only [Int.toNat_natCast]; omega,rfl⟩
    simp only [hL,Int.ofNat_lt,hi,decide_true,cond_true,Int.natCast_nonneg,and_self,Int.toNat_natCast,hy,e35,e36,bind_val,i64_succ hi (by omega)]
    unfold stepQ
    rw [findP_is L y.1 (dflt T_api_Producer)]
    by_cases hk:findI L y.1<L.length
    ·have hneg:¬ ((findI L y.1:Nat):Int)<0 := by omega
     simp only [hk,if_true,hneg,decide_false,cond_false,Int.natCast_nonneg,Int.ofNat_lt,and_self,decide_true,cond_true,Int.toNat_natCast]
     obtain ⟨x,hx⟩:∃ x,L.getD (findI L y.1) (dflt T_api_Producer)=x := ⟨_,rfl⟩
     simp only [hx]
     clear hx e35 e36
     by_cases g1:y.2.1>x.2.1
     ·simp only [g1,decide_true,cond_true,orK_inl,true_or,if_true]
     ·by_cases g2:y.2.1=x.2.1
      ·have g2':(y.2.1==x.2.1)=true := by simpa using g2
       simp only [g1,g2',decide_false,cond_false,cond_true,false_or]
       cases g3:y.2.2.1 with
       | true =>
        cases g4:x.2.2.1 with
        | true=>simp [orK_inl]
        | false=>simp [orK_inl,g2]
       | false=>simp [orK_inl]
      ·have g2':(y.2.1==x.2.1)=false := by simpa using g2
       simp only [g1,g2,g2',decide_false,cond_false,false_or,false_and,if_false,orK_inl]
    ·simp [hk,orK_inl]
   ·right
    obtain rfl:i=B.length := by omega
    rw [List.take_length]
    by_cases h5:(foldQ A B).length>256
    ·have h5':((foldQ A B).length:Int)>256 := by omega
     simp [inrO,h5,h5']
    ·have h5':¬ ((foldQ A B).length:Int)>256 := by omega
     simp [inrO,h5,h5']
end
section
variable {fu:Nat}
theorem p65_is (l:List Rd) (hl:l.length≤2097152) (hf:4194304<fu):p65 fu (l,())=some ((),logOk l) := by
 unfold p65 logOk
 by_cases h4:l.length≤4096
 ·have h4':¬ (l.length:Int)>4096 := by omega
  simp only [h4',decide_false,cond_false,h4,decide_true]
  refine loop_for (List.range l.length) (fun i=>(((i:Int),()),())) (wrong l) ((),false) ((),true) (by simp only [List.length_range]; omega) (fun i h => ?_) ?_ (by cases (List.range l.length).any (wrong l) <;> rfl)
  ·simp only [List.length_range] at h
   have hg:∀ d,l.getD i d=l[i] := fun d=>getD_lt h
   have hw:IntKind.wrap .u64 (i:Int)=(i:Int) := u64_wrap (by omega) (by omega)
   simp only [List.getElem_range,Int.ofNat_lt,Int.natCast_nonneg,h,decide_true,cond_true,and_self,Int.toNat_natCast,hg,hw,i64_succ h (by omega),wrong]
   cases (l[i].1 != (i:Int))
   ·simp only [cond_false]
    by_cases c1:l[i].2.1.size>32
    ·simp only [c1,show (l[i].2.1.size:Int)>32 by omega,decide_true,cond_true,inrO_val]
    ·by_cases c2:l[i].2.2.1.length>256
     ·simp only [c1,show ¬ (l[i].2.1.size:Int)>32 by omega,c2,show (l[i].2.2.1.length:Int)>256 by omega,decide_true,decide_false,cond_true,cond_false,inrO_val]
     ·simp only [c1,show ¬ (l[i].2.1.size:Int)>32 by omega,c2,show ¬ (l[i].2.2.1.length:Int)>256 by omega,decide_false,cond_false]
   ·rfl
  ·simp only [List.length_range,Int.ofNat_lt,Nat.lt_irrefl,decide_false,cond_false]
   rfl
 ·have h4':(l.length:Int)>4096 := by omega
  simp only [h4',decide_true,cond_true,h4,decide_false]
  cases (List.range l.length).any (wrong l) <;> rfl
theorem p68_is (a c:ByteArray):p68 fu ((a,c,()),())=some ((),chkB a c) := by
 unfold p68 chkB befB
 by_cases c1:a.size≤32
 ·by_cases c2:c.size≤32
  ·simp only [show ¬ (a.size:Int)>32 by omega,show ¬ (c.size:Int)>32 by omega,show (a.size:Int)≤32 by omega,show (c.size:Int)≤32 by omega,decide_true,decide_false,cond_false,Bool.not_true]
   cases (ByteArray.toList c==ByteArray.toList (⟨#[]⟩:ByteArray)) with
   | true=>rfl
   | false =>
    cases (Op.bytesLess (ByteArray.toList c) (ByteArray.toList a)||ByteArray.toList c==ByteArray.toList a) <;> rfl
  ·simp only [show ¬ (a.size:Int)>32 by omega,show (c.size:Int)>32 by omega,show (a.size:Int)≤32 by omega,show ¬ (c.size:Int)≤32 by omega,decide_true,decide_false,cond_true,cond_false,Bool.not_true,Bool.not_false]
 ·simp only [show (a.size:Int)>32 by omega,show ¬ (a.size:Int)≤32 by omega,decide_true,decide_false,cond_true,Bool.not_false]
theorem bef_less {c f:ByteArray}:befB c f=bif (ByteArray.toList c==ByteArray.toList (⟨#[]⟩:ByteArray)) then true else Op.bytesLess f.toList c.toList := by
 unfold befB
 cases (ByteArray.toList c==ByteArray.toList (⟨#[]⟩:ByteArray)) with
 | true=>rfl
 | false =>
  simp only [cond_false,less_ky,eq_ky]
  by_cases h:ky c<ky f
  ·have:¬ ky f<ky c := fun g=>lt_irr _ (lt_lt h g)
   simp [h,this]
  ·by_cases g:c=f
   ·subst g; simp
   ·have hh:ky f<ky c := by
     by_cases k:ky f<ky c
     ·exact k
     ·exact absurd (ky_inj (both_not h k)) g
    simp [h,g,hh]
theorem p69_is (a c f:ByteArray):p69 fu ((a,c,()),f,())=some ((),hasB a c f) := by
 unfold p69 hasB
 simp only [p68_is,bind_val]
 cases (chkB a c==0) with
 | false=>rfl
 | true =>
  simp only [cond_true]
  cases decide ((f.size:Int)≤32) with
  | false=>rfl
  | true =>
   simp only [cond_true]
   cases Op.bytesLess f.toList a.toList with
   | true=>rfl
   | false =>
    simp only [Bool.not_false,cond_true,bef_less]
    cases (ByteArray.toList c==ByteArray.toList (⟨#[]⟩:ByteArray)) <;> rfl
def proI (l:List Pr) (id:Int):Int := bif decide (findI l id<l.length) then (findI l id:Int) else -1
theorem p70_is (l:List Pr) (id:Int) (hl:l.length≤9223372036854775806) (hf:l.length<fu):p70 fu (l,id,())=some ((),proI l id) := by
 unfold p70
 refine loopO_eq (I := fun s => ∃ i:Nat,s=(((i:Int),()),())∧i≤l.length ∧ ∀ j (hj:j<l.length),j<i → ¬ (l[j]).1=id) (m := fun s=>l.length-s.1.1.toNat)
  (g := fun _=>((),proI l id)) ?_ fu _ ⟨0,rfl,Nat.zero_le _,fun j _ hj=>absurd hj (Nat.not_lt_zero _)⟩ (by simpa using hf)
 rintro s ⟨i,rfl,h1,h2⟩
 by_cases hi:i<l.length
 ·have hg:∀ d,l.getD i d=l[i] := fun d=>getD_lt hi
  simp only [Int.ofNat_lt,hi,decide_true,cond_true,Int.natCast_nonneg,Int.toNat_natCast,and_self,hg]
  by_cases he:l[i].1=id
  ·right
   have hk:findI l id=i := by
    unfold findI
    refine (List.findIdx_eq hi).2 ⟨by simpa using he,fun j hj => ?_⟩
    have := h2 j (by omega) hj
    simpa using this
   rw [beq_iff_eq.2 he]
   simp only [cond_true,inrO_val,proI,hk,hi,decide_true]
  ·left
   have he':(l[i].1==id)=false := by simpa using he
   refine ⟨((((i+1:Nat):Int),()),()),by rw [he',i64_succ hi (by omega)]; rfl,⟨i+1,rfl,hi,fun j hj hji => ?_⟩,by simp; omega,trivial⟩
   rcases Nat.lt_succ_iff_lt_or_eq.1 hji with g | rfl
   ·exact h2 j hj g
   ·exact he
 ·right
  have hn:¬ (i:Int)<(l.length:Int) := by omega
  obtain rfl:i=l.length := by omega
  have hk:¬ findI l id<l.length := fun hh=>by
   exact h2 _ hh hh (find_id hh)
  simp only [hn,decide_false,cond_false,inrO_val,proI,hk]
theorem bif_any {X R:Type} (l:List X) (q:X→Bool) (a b:R):(bif l.any fun x => !q x then a else b)=bif l.all q then b else a := by
 rw [← List.not_all_eq_any_not]
 cases l.all q <;> rfl
theorem p27_is (p:St16) (hb:bndS p) (hf:4194304<fu):p27 fu (p,())=some ((),bif chkS p then 0 else 165) := by
 obtain ⟨lo,hi,e,z,l,ps,cs,⟨⟩⟩ := p
 obtain ⟨hl,hp,hcs,h0⟩ := hb
 unfold p27
 simp only [p68_is,bind_val,p65_is l hl hf,p66_is ps (by omega) (show ps.length<fu by omega),p67_is cs hcs hf,chkS]
 cases hc:(chkB lo hi==0) with
 | false=>simp only [bne,hc,Bool.not_false,cond_true,Bool.false_and,cond_false]
 | true =>
 simp only [bne,hc,Bool.not_true,cond_false,Bool.true_and]
 cases (e==0) with
 | true=>rfl
 | false =>
 simp only [cond_false,Bool.not_false,Bool.true_and]
 cases logOk l with
 | false=>rfl
 | true =>
 simp only [Bool.not_true,cond_false,Bool.true_and]
 cases ht:tabI ps with
 | false=>rfl
 | true =>
 have hs := ((tab_iff ps).1 ht).2.1
 simp only [Bool.not_true,cond_false,Bool.true_and]
 cases okC cs with
 | false=>rfl
 | true =>
 simp only [Bool.not_true,cond_false,Bool.true_and]
 have h1:(0:Int)≤(ps.length:Int)∧(ps.length:Int)≤(ps.length:Int)∧(ps.length:Int)≤9223372036854775807∧(8:Int) * (ps.length:Int)≤140737488355328 := by omega
 simp only [h1,and_self,decide_true,cond_true,Int.toNat_natCast,List.length_replicate]
 have e0:((List.replicate ps.length (0:Int),(0:Int),()),())=(fun i:Nat=>((lastL ps l i,(i:Int),()),())) 0 := by
  simp only [lastL,List.take_zero,lastS,List.foldl_nil,List.map_const']
  rfl
 rw [e0]
 refine loop_for (List.range l.length) (fun i:Nat=>((lastL ps l i,(i:Int),()),())) (fun j => !recOk lo hi ps l j) ((),(165:Int)) ((),bif (ps.all (proOk l) && cs.all (conOk l)) then 0 else 165) (by simp; omega) (fun i h => ?_) ?_ ?_
 ·have hi':i<l.length := by simpa using h
  have hll:(lastL ps l i).length=ps.length := by simp [lastL]
  have hg:∀ d,l.getD i d=l[i] := fun d=>getD_lt hi'
  simp only [Int.ofNat_lt,hi',decide_true,cond_true,Int.natCast_nonneg,true_and,Int.toNat_natCast,hg,bind_val,List.getElem_range,p69_is,p70_is ps l[i].2.2.2.1 (by omega) (show ps.length<fu by omega),recOk,recOk1]
  cases hh:hasB lo hi l[i].2.1 with
  | false=>simp only [Bool.not_false,cond_true,Bool.false_and,Bool.and_false,inrO_val]
  | true =>
   simp only [Bool.not_true,cond_false,Bool.true_and]
   by_cases hk:findI ps l[i].2.2.2.1<ps.length
   ·have hgp:∀ d,ps.getD (findI ps l[i].2.2.2.1) d=ps[findI ps l[i].2.2.2.1] := fun d=>getD_lt hk
    have hp0:proI ps l[i].2.2.2.1=(findI ps l[i].2.2.2.1:Int) := by simp only [proI,hk,decide_true,cond_true]
    have hpn:¬ ((findI ps l[i].2.2.2.1:Nat):Int)<0 := by omega
    simp only [hp0,hpn,hk,decide_true,decide_false,cond_false,Bool.true_and,hll,Int.ofNat_lt,and_self,Int.natCast_nonneg,cond_true,Int.toNat_natCast,lastL_get hk,hgp,List.length_set]
    by_cases h3:lastS (l.take i) l[i].2.2.2.1<l[i].2.2.2.2
    ·have h3':¬ l[i].2.2.2.2≤lastS (l.take i) l[i].2.2.2.1 := by omega
     by_cases h4:l[i].2.2.2.2≤(ps[findI ps l[i].2.2.2.1]).2.1
     ·have h4':¬ l[i].2.2.2.2>(ps[findI ps l[i].2.2.2.1]).2.1 := by omega
      simp only [h3,h3',h4,h4',decide_true,decide_false,cond_false,Bool.and_self,Bool.not_true,lastL_succ hs hi' hk,i64_succ hi' (by omega)]
     ·have h4':l[i].2.2.2.2>(ps[findI ps l[i].2.2.2.1]).2.1 := by omega
      simp only [h3,h3',h4,h4',decide_true,decide_false,cond_false,cond_true,Bool.and_false,Bool.not_false,inrO_val]
    ·have h3':l[i].2.2.2.2≤lastS (l.take i) l[i].2.2.2.1 := by omega
     simp only [h3,h3',decide_true,decide_false,cond_true,Bool.false_and,Bool.not_false,inrO_val]
   ·have hp0:proI ps l[i].2.2.2.1 = -1 := by simp only [proI,hk,decide_false,cond_false]
    simp only [hp0,hk,show ((-1:Int)<0) from by decide,decide_true,decide_false,cond_true,Bool.false_and,Bool.not_false,inrO_val]
 ·simp only [List.length_range,Int.lt_irrefl,decide_false,cond_false]
  refine congrArg inrO ?_ |>.trans (inrO_val)
  refine loop_for ps (fun i:Nat=>(((i:Int),()),())) (fun y => !proOk l y) ((),(165:Int)) ((),bif cs.all (conOk l) then 0 else 165) (show ps.length<fu by omega) (fun i h => ?_) ?_ ?_
  ·have hg:∀ d,ps.getD i d=ps[i] := fun d=>getD_lt h
   have hz := h0 _ (List.getElem_mem h)
   simp only [Int.ofNat_lt,h,decide_true,cond_true,Int.natCast_nonneg,true_and,Int.toNat_natCast,hg,proOk,u64_wrap (x := (l.length:Int)) (by omega) (by omega)]
   cases hh:ps[i].2.2.1 with
   | false=>simp only [Bool.not_false,cond_true,Bool.true_or,Bool.not_true,cond_false,i64_succ h (by omega)]
   | true =>
    simp only [Bool.not_true,cond_false,Bool.false_or]
    by_cases h3:ps[i].2.2.2<(l.length:Int)
    ·have h3':¬ ps[i].2.2.2≥(l.length:Int) := by omega
     have h3n:ps[i].2.2.2.toNat<l.length := by omega
     have hgl:∀ d,l.getD ps[i].2.2.2.toNat d=l[ps[i].2.2.2.toNat] := fun d=>getD_lt h3n
     simp only [i64_wrap (x := ps[i].2.2.2) (by omega) (by omega),h3,h3',h3n,hz,and_self,decide_true,decide_false,cond_true,cond_false,hgl,Bool.true_and]
     cases h4:(l[ps[i].2.2.2.toNat].2.2.2.1==ps[i].1) with
     | false=>simp only [Bool.not_false,cond_true,Bool.false_and,inrO_val]
     | true =>
      simp only [Bool.not_true,cond_false,Bool.true_and]
      cases h5:(l[ps[i].2.2.2.toNat].2.2.2.2==ps[i].2.1) with
      | false=>simp only [Bool.not_false,cond_true,inrO_val]
      | true=>simp only [Bool.not_true,cond_false,i64_succ h (by omega)]
    ·have h3':ps[i].2.2.2≥(l.length:Int) := by omega
     simp only [h3,h3',decide_true,decide_false,cond_true,Bool.false_and,Bool.not_false,inrO_val]
  ·simp only [Int.lt_irrefl,decide_false,cond_false]
   refine congrArg inrO ?_ |>.trans (inrO_val)
   refine loop_for cs (fun i:Nat=>(((i:Int),()),())) (fun y => !conOk l y) ((),(165:Int)) ((),(0:Int)) (show cs.length<fu by have := hcs.1; omega) (fun i h => ?_) ?_ ?_
   ·have hg:∀ d,cs.getD i d=cs[i] := fun d=>getD_lt h
    have hcl := hcs.1
    simp only [Int.ofNat_lt,h,decide_true,cond_true,Int.natCast_nonneg,true_and,Int.toNat_natCast,hg,conOk,u64_wrap (x := (l.length:Int)) (by omega) (by omega)]
    by_cases h3:cs[i].2≤(l.length:Int)
    ·have h3':¬ cs[i].2>(l.length:Int) := by omega
     simp only [h3,h3',decide_true,decide_false,cond_false,Bool.not_true,i64_succ h (by omega)]
    ·have h3':cs[i].2>(l.length:Int) := by omega
     simp only [h3,h3',decide_true,decide_false,cond_true,Bool.not_false,inrO_val]
   ·simp only [Int.lt_irrefl,decide_false,cond_false,inrO_val]
   ·rw [bif_any]; cases cs.all (conOk l) <;> rfl
  ·rw [bif_any]; cases ps.all (proOk l) <;> rfl
 ·rw [bif_any]; cases (List.range l.length).all (recOk lo hi ps l) <;> rfl
end
section
variable {fu:Nat}
theorem p72_is (n:List Rd) (x:Rd) (hn:n.length≤2097152) (hx:x.2.2.1.length≤140737488355328) :
  p72 fu ((x.1,x.2.1,x.2.2.1,x.2.2.2.1,x.2.2.2.2,()),(n.length:Int),())=some ((),((numR n x).1,(numR n x).2.1,(numR n x).2.2.1,(numR n x).2.2.2.1,(numR n x).2.2.2.2,())) := by
 unfold p72 numR
 have hw:IntKind.wrap .u64 (n.length:Int)=(n.length:Int) := u64_wrap (by omega) (by omega)
 have g:List.length ([]:List Int)+List.length x.2.2.1≤maxLen∧(List.length ([]:List Int)+List.length x.2.2.1) * 1≤140737488355328 := ⟨by unfold maxLen; simp only [List.length_nil]; omega,by simp only [List.length_nil]; omega⟩
 simp only [List.length_nil,decide_true,cond_true,List.nil_append,hw] at g ⊢
 simp only [g,and_self,decide_true,cond_true]
def lowerS (l:List Rd) (x:Rd):Bool := l.any fun y=>bif y.2.2.2.1==x.2.2.2.1 then decide (y.2.2.2.2<x.2.2.2.2) else false
theorem p71_is (l:List Rd) (x:Rd) (hl:l.length≤2097152) (hf:4194304<fu):p71 fu (l,(x.1,x.2.1,x.2.2.1,x.2.2.2.1,x.2.2.2.2,()),())=some ((),lowerS l x) := by
 unfold p71
 refine loop_for l (fun i:Nat=>(((i:Int),()),())) (fun y=>bif y.2.2.2.1==x.2.2.2.1 then decide (y.2.2.2.2<x.2.2.2.2) else false) ((),true) ((),false) (show l.length<fu by omega) (fun i hi => ?_) ?_ ?_
 ·have hg:∀ d,l.getD i d=l[i] := fun d=>getD_lt hi
  simp only [Int.ofNat_lt,Int.natCast_nonneg,hi,decide_true,cond_true,and_self,Int.toNat_natCast,hg,i64_succ hi (by omega)]
  cases (l[i].2.2.2.1==x.2.2.2.1) with
  | false=>rfl
  | true =>
   simp only [cond_true]
   cases decide (l[i].2.2.2.2<x.2.2.2.2) <;> rfl
 ·simp only [Int.lt_irrefl,decide_false,cond_false,inrO_val]
 ·unfold lowerS
  cases l.any (fun y=>bif y.2.2.2.1==x.2.2.2.1 then decide (y.2.2.2.2<x.2.2.2.2) else false) <;> rfl
theorem ahead_low (x:Rd) (l:List Rd):∀ r:List Rd,ahead (x :: l) r = !lowerS r x
 | []=>rfl
 | y :: r=>by
  have ih := ahead_low x l r
  unfold ahead lowerS seqsOf at ih ⊢
  dsimp only at ih ⊢
  simp only [List.filter_cons,List.any_cons]
  cases h:(y.2.2.2.1==x.2.2.2.1) with
  | false=>simp only [Bool.false_eq_true,if_false,cond_false,Bool.false_or]; exact ih
  | true =>
   simp only [if_true,List.map_cons,List.all_cons,cond_true,Bool.not_or]
   rw [ih]
   by_cases c:y.2.2.2.2<x.2.2.2.2
   ·have:¬ y.2.2.2.2≥x.2.2.2.2 := by omega
    simp only [c,this,decide_true,decide_false,Bool.not_true,Bool.false_and]
   ·have:y.2.2.2.2≥x.2.2.2.2 := by omega
    simp only [c,this,decide_true,decide_false,Bool.not_false,Bool.true_and]
theorem p29_is (a b:List Rd) (ha:a.length≤1048576) (hb:b.length≤1048576) (hva:∀ x ∈ a,x.2.2.1.length≤1048576) (hvb:∀ x ∈ b,x.2.2.1.length≤1048576) (hf:4194304<fu) :
  p29 fu (a,b,())=some ((),jnE a b) := by
 unfold p29 jnE
 simp only [p65_is a (show a.length≤2097152 by omega) hf,p65_is b (show b.length≤2097152 by omega) hf,bind_val]
 cases logOk a
 ·simp only [Bool.not_false,cond_true,orK_inl,Bool.false_and,cond_false]
 cases logOk b
 ·simp only [Bool.not_false,Bool.not_true,cond_true,cond_false,orK_inl,Bool.and_false]
 simp only [Bool.not_true,cond_false,orK_inl,Bool.and_true,cond_true]
 have hw:IntKind.wrap .i64 ((a.length:Int)+(b.length:Int))=((a.length+b.length:Nat):Int) := by rw [i64_wrap (by omega) (by omega)]; omega
 by_cases h4:a.length+b.length>4096
 ·have h5:((a.length+b.length:Nat):Int)>4096 := by omega
  simp only [hw,h4,h5,decide_true,cond_true]
 have h5:¬ ((a.length+b.length:Nat):Int)>4096 := by omega
 simp only [hw,h4,h5,decide_false,cond_false]
 refine loopO_eq (I := fun s => ∃ (l r n:List Rd) (t u:List Int),s=((l,r,n,t,u,()),())∧n.length+l.length+r.length≤4096∧t.length≤n.length∧u.length≤n.length∧(∀ x ∈ l,x.2.2.1.length≤1048576) ∧ ∀ x ∈ r,x.2.2.1.length≤1048576)
  (m := fun s=>s.1.1.length+s.1.2.1.length) (g := fun s=>((),jnS (s.1.1.length+s.1.2.1.length) s.1.2.2.1 s.1.2.2.2.1 s.1.2.2.2.2.1 s.1.1 s.1.2.1)) (fun s hs => ?_) fu _ ⟨a,b,[],[],[],rfl,by simp only [List.length_nil]; omega,Nat.le_refl _,Nat.le_refl _,hva,hvb⟩ (show a.length+b.length<fu by omega)
 obtain ⟨l,r,n,t,u,rfl,hn,ht,hu,hvl,hvr⟩ := hs
 have hwn:IntKind.wrap .u64 (n.length:Int)=(n.length:Int) := u64_wrap (by omega) (by omega)
 have hww:IntKind.wrap .i64 ((l.length:Int)+(r.length:Int))=((l.length+r.length:Nat):Int) := by rw [i64_wrap (by omega) (by omega)]; omega
 have g1:t.length+[(n.length:Int)].length≤maxLen∧(t.length+[(n.length:Int)].length) * 8≤140737488355328 := ⟨by unfold maxLen; simp only [List.length_singleton]; omega,by simp only [List.length_singleton]; omega⟩
 have g2:u.length+[(n.length:Int)].length≤maxLen∧(u.length+[(n.length:Int)].length) * 8≤140737488355328 := ⟨by unfold maxLen; simp only [List.length_singleton]; omega,by simp only [List.length_singleton]; omega⟩
 have g3:∀ y:Rd,n.length+[y].length≤maxLen∧(n.length+[y].length) * 64≤140737488355328 := fun y=>⟨by unfold maxLen; simp only [List.length_singleton]; omega,by simp only [List.length_singleton]; omega⟩
 simp only [hww,hwn,g1,g2,g3,and_self,decide_true,cond_true]
 by_cases hz:l.length+r.length=0
 ·refine .inr ?_
  obtain rfl:l=[] := List.length_eq_zero_iff.1 (by omega)
  obtain rfl:r=[] := List.length_eq_zero_iff.1 (by omega)
  rfl
 obtain ⟨k,hk⟩:∃ k,l.length+r.length=k+1 := ⟨l.length+r.length-1,by omega⟩
 have hpos:((l.length+r.length:Nat):Int)>0 := by omega
 simp only [hpos,decide_true,cond_true]
 -- may the first list's head go?
 have hA:∀ {E:Type} (X:E→Option E) ,True := fun _=>trivial
 have takeA:(bif decide ((l.length:Int)>0) then bif decide ((0:Int)≤0∧0<(l.length:Int)) then bif decide (0<l.length) then
   Option.bind (p71 fu (r,((List.getD l 0 (dflt T_api_Record)).1,((List.getD l 0 (dflt T_api_Record)).2).1,(((List.getD l 0 (dflt T_api_Record)).2).2).1,((((List.getD l 0 (dflt T_api_Record)).2).2).2).1,((((List.getD l 0 (dflt T_api_Record)).2).2).2).2,()),())) fun x=>some (.inl ((!x.2,()),()))
   else none else none else some (.inl ((false,()),())):Option (((Bool×Unit)×Unit) ⊕ (((List Rd×List Rd×List Rd×List Int×List Int×Unit)×Unit) ⊕ (Unit×(List Rd×List Int×List Int×Int×Unit)))))=some (.inl ((ahead l r,()),())) := by
  cases l with
  | nil=>rfl
  | cons x l =>
   have c1:(((x :: l).length:Nat):Int)>0 := by simp only [List.length_cons]; omega
   have c2:(0:Int)<(((x :: l).length:Nat):Int) := c1
   have c3:0<(x :: l).length := Nat.succ_pos _
   have hg:∀ d,(x :: l).getD 0 d=x := fun d=>rfl
   simp only [c1,c2,c3,Int.le_refl,and_self,decide_true,cond_true,hg,p71_is r x (by omega) hf,bind_val,ahead_low]
 have takeB:(bif decide ((r.length:Int)>0) then bif decide ((0:Int)≤0∧0<(r.length:Int)) then bif decide (0<r.length) then
   Option.bind (p71 fu (l,((List.getD r 0 (dflt T_api_Record)).1,((List.getD r 0 (dflt T_api_Record)).2).1,(((List.getD r 0 (dflt T_api_Record)).2).2).1,((((List.getD r 0 (dflt T_api_Record)).2).2).2).1,((((List.getD r 0 (dflt T_api_Record)).2).2).2).2,()),())) fun x=>some (.inl ((!x.2,()),()))
   else none else none else some (.inl ((false,()),())):Option (((Bool×Unit)×Unit) ⊕ (((List Rd×List Rd×List Rd×List Int×List Int×Unit)×Unit) ⊕ (Unit×(List Rd×List Int×List Int×Int×Unit)))))=some (.inl ((ahead r l,()),())) := by
  cases r with
  | nil=>rfl
  | cons x r =>
   have c1:(((x :: r).length:Nat):Int)>0 := by simp only [List.length_cons]; omega
   have c2:(0:Int)<(((x :: r).length:Nat):Int) := c1
   have c3:0<(x :: r).length := Nat.succ_pos _
   have hg:∀ d,(x :: r).getD 0 d=x := fun d=>rfl
   simp only [c1,c2,c3,Int.le_refl,and_self,decide_true,cond_true,hg,p71_is l x (by omega) hf,bind_val,ahead_low]
 rw [takeA]
 simp only [orK_inl]
 cases h1:ahead l r with
 | true =>
  obtain ⟨x,l,rfl⟩ := ahead_cons h1
  have c2:(0:Int)<(((x :: l).length:Nat):Int) := by simp only [List.length_cons]; omega
  have c3:0<(x :: l).length := Nat.succ_pos _
  have c4:1≤(x :: l).length := Nat.succ_pos _
  have hg:∀ d,(x :: l).getD 0 d=x := fun d=>rfl
  refine .inl ?_
  simp only [Bool.not_true,cond_false,orK_inl,cond_true,Int.le_refl,c2,c3,c4,and_self,decide_true,hg,p72_is n x (by omega) (Nat.le_trans (hvl x List.mem_cons_self) (by omega)),bind_val,List.drop_one,List.tail_cons]
  refine ⟨_,rfl,⟨_,_,_,_,_,rfl,?_,?_,?_,fun y hy=>hvl y (List.mem_cons_of_mem _ hy),hvr⟩,?_,?_⟩
  ·simp only [List.length_append,List.length_cons,List.length_nil] at hn ⊢; omega
  ·simp only [List.length_append,List.length_cons,List.length_nil]; omega
  ·simp only [List.length_append,List.length_cons,List.length_nil]; omega
  ·simp only [List.length_cons]; omega
  ·have e1:(x :: l).length+r.length=(l.length+r.length)+1 := by simp only [List.length_cons]; omega
   simp only [e1,jnS,h1,cond_true]
 | false =>
  simp only [Bool.not_false,cond_true,orK_inl,cond_false]
  have hB:∀ {K:((Bool×Unit)×Unit)→Option (((List Rd×List Rd×List Rd×List Int×List Int×Unit)×Unit) ⊕ (Unit×(List Rd×List Int×List Int×Int×Unit)))},True := trivial
  rw [takeB]
  simp only [orK_inl]
  cases h2:ahead r l with
  | true =>
   obtain ⟨x,r,rfl⟩ := ahead_cons h2
   have c2:(0:Int)<(((x :: r).length:Nat):Int) := by simp only [List.length_cons]; omega
   have c3:0<(x :: r).length := Nat.succ_pos _
   have c4:1≤(x :: r).length := Nat.succ_pos _
   have hg:∀ d,(x :: r).getD 0 d=x := fun d=>rfl
   refine .inl ?_
   simp only [cond_true,Int.le_refl,c2,c3,c4,and_self,decide_true,hg,p72_is n x (by omega) (Nat.le_trans (hvr x List.mem_cons_self) (by omega)),bind_val,List.drop_one,List.tail_cons]
   refine ⟨_,rfl,⟨_,_,_,_,_,rfl,?_,?_,?_,hvl,fun y hy=>hvr y (List.mem_cons_of_mem _ hy)⟩,?_,?_⟩
   ·simp only [List.length_append,List.length_cons,List.length_nil] at hn ⊢; omega
   ·simp only [List.length_append,List.length_cons,List.length_nil]; omega
   ·simp only [List.length_append,List.length_cons,List.length_nil]; omega
   ·simp only [List.length_cons]; omega
   ·have e1:l.length+(x :: r).length=(l.length+r.length)+1 := by simp only [List.length_cons]; omega
    simp only [e1,jnS,h1,h2,cond_true,cond_false]
  | false =>
   refine .inr ?_
   simp only [cond_false,hk,jnS,h1,h2,inrO_val]
theorem ba_beq (c f:ByteArray):(c==f)=decide (c=f) := by
 cases c with | mk c=>cases f with | mk f =>
 show (c==f)=_
 rw [Bool.eq_iff_iff,beq_iff_eq,decide_eq_true_eq]
 exact ⟨fun h=>h ▸ rfl,fun h=>by injection h⟩
theorem p28_is (a c f h:ByteArray):p28 fu ((a,c,()),(f,h,()),())=some ((),bif (rgE a c f h != 0) then (noRg,rgE a c f h,()) else ((a,h,()),0,())) := by
 unfold p28 rgE
 simp only [p68_is,bind_val]
 cases h1:(chkB a c != 0) with
 | true =>
  have h1':(chkB a c==0)=false := by simpa [bne] using h1
  simp only [h1',cond_false,orK_inl,h1,cond_true]
  rfl
 | false =>
  have h1':(chkB a c==0)=true := by simpa [bne] using h1
  simp only [h1',cond_true,orK_inl,cond_false]
  cases h2:(chkB f h != 0) with
  | true=>simp only [cond_true,h2]; rfl
  | false =>
   simp only [cond_false]
   have e:(c==f)=(c.toList==f.toList) := by
    rw [eq_ky,ba_beq]
   rw [e]
   cases h3:(ByteArray.toList c==ByteArray.toList (⟨#[]⟩:ByteArray)) with
   | true =>
    simp only [cond_true,orK_inl,show (true==false)=false from rfl,Bool.false_and,Bool.and_false,Bool.not_false]
    rfl
   | false =>
    simp only [cond_false,orK_inl,show (false==false)=true from rfl,Bool.and_true]
    cases (ByteArray.toList c==ByteArray.toList f) <;> rfl
theorem wrap_two {e e':Int} (h0:isU e) (h1:isU e'):(IntKind.wrap .u64 ((if e' > e then e' else e)+1)==0)=((e==18446744073709551615)||(e' == 18446744073709551615)) := by
 obtain ⟨a0,a1⟩ := h0
 obtain ⟨b0,b1⟩ := h1
 by_cases h:(if e' > e then e' else e)=18446744073709551615
 ·rw [h]
  have:e=18446744073709551615 ∨ e' = 18446744073709551615 := by split at h <;> omega
  rcases this with rfl | rfl
  ·rfl
  ·rw [show ((18446744073709551615:Int)==18446744073709551615)=true from rfl,Bool.or_true]; rfl
 ·have hm:0≤(if e' > e then e' else e)∧(if e' > e then e' else e)<18446744073709551615 := by split at h <;> split <;> omega
  rw [u64_wrap (by omega) (by omega)]
  have a2:((if e' > e then e' else e)+1==0)=false := by rw [beq_eq_false_iff_ne]; omega
  have a3:(e==18446744073709551615)=false := by rw [beq_eq_false_iff_ne]; split at h <;> omega
  have a4:(e' == 18446744073709551615)=false := by rw [beq_eq_false_iff_ne]; split at h <;> omega
  rw [a2,a3,a4]; rfl
theorem p7_is (a b:St16) (ha:bndS a) (hb:bndS b) (la:a.2.2.2.2.1.length≤1048576) (lb:b.2.2.2.2.1.length≤1048576) (va:∀ x ∈ a.2.2.2.2.1,x.2.2.1.length≤1048576) (vb:∀ x ∈ b.2.2.2.2.1,x.2.2.1.length≤1048576) (ea:isU a.2.2.1) (eb:isU b.2.2.1) (hf8:8388608<fu) :
  p7 fu (a,b,())=some ((),mergeS a b) := by
 have hf:4194304<fu := by omega
 have ka := p27_is (fu := fu) a ha hf
 have kb := p27_is (fu := fu) b hb hf
 have h29 := p28_is (fu := fu) a.1 a.2.1 b.1 b.2.1
 have h31 := p29_is (fu := fu) a.2.2.2.2.1 b.2.2.2.2.1 la lb va vb hf
 have hbnd := mrg_bnd ha hb
 have hwr := wrap_two ea eb
 unfold mergeS mrgE
 have hE:(jnE a.2.2.2.2.1 b.2.2.2.2.1)=((jnR a b).1,(jnR a b).2.1,(jnR a b).2.2.1,(jnR a b).2.2.2.1,()) := rfl
 have h33:(jnR a b).2.2.2.1=0→p30 fu (a.2.2.2.2.2.1,b.2.2.2.2.2.1,(jnR a b).2.1,(jnR a b).2.2.1,())=some ((),((prR a b).1,(prR a b).2,())) := fun h=>by
  obtain ⟨-,-,g3,g4,-⟩ := jn_good h
  have e1:(jnR a b).2.1.length=a.2.2.2.2.1.length+1 := g4.la
  have e2:(jnR a b).2.2.1.length=b.2.2.2.2.1.length+1 := g4.lb
  obtain ⟨_,_,_,_,l,ps,cs,⟨⟩⟩ := a
  obtain ⟨_,_,_,_,l',ps',cs',⟨⟩⟩ := b
  obtain ⟨b1,b2,b3,b4⟩ := ha
  obtain ⟨c1,c2,c3,c4⟩ := hb
  exact p30_is ps ps' _ _ b4 c4 (by omega) (by omega) (by omega) (by omega) (by omega)
 have h35:(jnR a b).2.2.2.1=0→p31 fu (a.2.2.2.2.2.2.1,b.2.2.2.2.2.2.1,(jnR a b).2.1,(jnR a b).2.2.1,())=some ((),((cnR a b).1,(cnR a b).2,())) := fun h=>by
  obtain ⟨-,-,g3,g4,-⟩ := jn_good h
  have e1:(jnR a b).2.1.length=a.2.2.2.2.1.length+1 := g4.la
  have e2:(jnR a b).2.2.1.length=b.2.2.2.2.1.length+1 := g4.lb
  obtain ⟨_,_,_,_,l,ps,cs,⟨⟩⟩ := a
  obtain ⟨_,_,_,_,l',ps',cs',⟨⟩⟩ := b
  obtain ⟨b1,b2,b3,b4⟩ := ha
  obtain ⟨c1,c2,c3,c4⟩ := hb
  exact p31_is cs cs' _ _ b3 c3 (by omega) (by omega) hf
 have h16:(jnR a b).2.2.2.1=0→p27 fu (mrgS a b,())=some ((),bif chkS (mrgS a b) then 0 else 165) := fun h=>p27_is (mrgS a b) (hbnd h).1 hf
 rw [hE] at h31
 generalize hj1:(jnR a b).1=j1 at *
 generalize hj2:(jnR a b).2.1=j2 at *
 generalize hj3:(jnR a b).2.2.1=j3 at *
 generalize hj4:(jnR a b).2.2.2.1=j4 at *
 have hM:mrgS a b=(a.1,b.2.1,IntKind.wrap .u64 ((if b.2.2.1>a.2.2.1 then b.2.2.1 else a.2.2.1)+1),0,j1,(prR a b).1,(cnR a b).1,()) := by rw [← hj1]; rfl
 rw [hM] at h16 ⊢
 generalize (prR a b).1=q1 at *
 generalize (prR a b).2=q2 at *
 generalize (cnR a b).1=r1 at *
 generalize (cnR a b).2=r2 at *
 clear hbnd hE hM hj1 hj2 hj3 hj4
 have nz:((0:Int) != 0)=false := rfl
 have n65:((165:Int) != 0)=true := rfl
 have n72:((172:Int) != 0)=true := rfl
 have n71:((171:Int) != 0)=true := rfl
 unfold partS2 badS liveS
 obtain ⟨lo,hi,e,z,l,ps,cs,⟨⟩⟩ := a
 obtain ⟨lo',hi',e',z',l',ps',cs',⟨⟩⟩ := b
 dsimp only at ka kb h29 h31 h33 h35 h16 hwr ⊢
 unfold p7
 dsimp only
 rw [ka]
 simp only [bind_val]
 cases hc:chkS (lo,hi,e,z,l,ps,cs,()) with
 | false=>simp only [cond_false,n65,cond_true,orK_inl,Bool.not_false,Bool.true_or,n72,noSt]
 | true =>
 simp only [cond_true,nz,cond_false,kb,bind_val,Bool.not_true,Bool.false_or]
 cases hc':chkS (lo',hi',e',z',l',ps',cs',()) with
 | false=>simp only [cond_false,n65,cond_true,orK_inl,Bool.not_false,Bool.true_or,Bool.or_true,n72,noSt]
 | true =>
 simp only [cond_true,nz,cond_false,orK_inl,hwr,Bool.not_true,Bool.false_or]
 cases hm:((e==18446744073709551615)||(e' == 18446744073709551615)) with
 | true=>simp only [cond_true,n72,noSt]
 | false =>
 simp only [cond_false]
 cases hz:(z==0) with
 | true=>simp only [cond_true,orK_inl,Bool.true_or,n71,noSt]
 | false =>
 simp only [cond_false,orK_inl,Bool.false_or]
 cases hz':(z' == 0) with
 | true=>simp only [cond_true,n71,noSt]
 | false =>
 simp only [cond_false,nz,h29,bind_val]
 generalize rgE lo hi lo' hi' = ge
 cases hge:(ge != 0) with
 | true=>simp only [cond_true,noRg,hge,noSt]
 | false =>
 simp only [cond_false,nz,h31,bind_val]
 cases hj:(j4 != 0) with
 | true=>simp only [cond_true,noSt,hj]
 | false =>
 have hj0 := ne_zero hj
 subst hj0
 simp only [cond_false,decide_true,cond_true,h33 rfl,bind_val]
 cases hq:(q2 != 0) with
 | true=>simp only [cond_true,noSt,hq]
 | false =>
 simp only [cond_false,h35 rfl,bind_val]
 cases hr:(r2 != 0) with
 | true=>simp only [cond_true,noSt,hr]
 | false =>
 have h16' := h16 rfl
 simp only [cond_false,h16',bind_val]
 cases chkS (lo,hi',IntKind.wrap .u64 ((if e' > e then e' else e)+1),0,j1,q1,r1,()) with
 | true=>simp only [cond_true,nz,cond_false]
 | false=>simp only [cond_false,n65,n72,cond_true,noSt]
end
section
variable {fu:Nat}
theorem gL {a b:List Int} (h:a.length+b.length≤100000000000000):decide (List.length a+List.length b≤maxLen∧(List.length a+List.length b) * 1≤140737488355328)=true :=
 decide_eq_true ⟨by unfold maxLen; omega,by omega⟩
theorem len1 (x:Int):[x].length=1 := rfl
theorem ex_list {o:Option (Unit×List Int)} (P:List Int→Prop) (h:∃ r:Unit×List Int,o=some r∧P r.2):∃ l,o=some ((),l)∧P l := by
 obtain ⟨⟨⟨⟩,l⟩,e,q⟩ := h
 exact ⟨l,e,q⟩
theorem ex_inr {S R:Type} {o:Option R} (P:R→Prop) (h:∃ r:R,o=some r∧P r):∃ r:R,inrO (E := S) o=some (.inr r)∧P r := by
 obtain ⟨r,e,q⟩ := h
 rw [e]
 exact ⟨_,rfl,q⟩
theorem p12_tot {a:Int} (h:isU a) (hf:100<fu):∃ l,p12 fu (a,())=some ((),l)∧l.length≤10 := by
 unfold p12
 obtain ⟨h0,h1⟩ := h
 refine ex_list (fun l=>l.length≤10) (loopO_rule (I := fun s:((Int×(List Int×Unit))×Unit) => ∃ (a:Int) (f:List Int),s=((a,f,()),())∧0≤a∧f.length≤9∧a<128 ^ (10-f.length)) (m := fun s=>10-s.1.2.1.length) (Q := fun r:Unit×List Int=>r.2.length≤10) ?_ fu ((a,[],()),()) ⟨a,[],rfl,h0,by simp,by simp only [List.length_nil]; omega⟩ (by show 10-0<fu; omega))
 ·rintro s ⟨a,f,rfl,k0,k1,k2⟩
  by_cases c:a≥128
  ·have e7:(2:Int) ^ (min (Int.toNat (7:Int)) (IntKind.bits .u64))=128 := by decide
   have hd:Int.fdiv a 128=a / 128 := Int.fdiv_eq_ediv_of_nonneg _ (by decide)
   simp only [c,decide_true,cond_true]
   rw [gL (by rw [len1]; omega)]
   simp only [cond_true,e7,hd]
   refine ⟨_,rfl,⟨_,_,rfl,by omega,?_,?_⟩,?_⟩
   ·rw [List.length_append,len1]
    rcases Nat.lt_or_ge f.length 9 with g | g
    ·omega
    ·have:f.length=9 := by omega
     rw [this] at k2
     have:(128:Int) ^ (10-9)=128 := by decide
     omega
   ·rw [List.length_append,len1]
    have e:(10-f.length)=(10-(f.length+1))+1 := by omega
    rw [e,Int.pow_succ] at k2
    omega
   ·show 10-(f ++ [_]).length<10-f.length
    rw [List.length_append,len1]
    omega
  ·simp only [c,decide_false,cond_false,decide_true,cond_true]
   rw [gL (by rw [len1]; omega)]
   refine ⟨_,rfl,?_⟩
   show (f ++ [_]).length≤10
   rw [List.length_append,len1]
   omega
theorem len_u {α:Type} {l:List α} (h:l.length≤1000000000):isU (IntKind.wrap .u64 (l.length:Int)) := by
 rw [u64_wrap (by omega) (by omega)]
 exact ⟨by omega,by omega⟩
theorem p15_tot {a:List Int} (h:a.length≤1048576) (hf:100<fu):∃ l,p15 fu (a,())=some ((),l)∧l.length≤1048586 := by
 unfold p15
 obtain ⟨u,hu,lu⟩ := p12_tot (fu := fu) (len_u (l := a) (by omega)) hf
 simp only [hu,bind_val,decide_true,cond_true,gL (a := u) (b := a) (by omega)]
 exact ⟨_,rfl,by rw [List.length_append]; omega⟩
theorem p11_tot {a c:ByteArray} (ha:a.size≤1048576) (hc:c.size≤1048576) (hf:100<fu):∃ l,p11 fu ((a,c,()),())=some ((),l)∧l.length≤2097172 := by
 unfold p11
 obtain ⟨u,hu,lu⟩ := p15_tot (fu := fu) (a := numsOf a) (by rw [numsOf_length]; exact ha) hf
 obtain ⟨v,hv,lv⟩ := p15_tot (fu := fu) (a := numsOf c) (by rw [numsOf_length]; exact hc) hf
 simp only [hu,hv,bind_val,decide_true,cond_true,gL (a := u) (b := v) (by omega)]
 exact ⟨_,rfl,by rw [List.length_append]; omega⟩
def fitR (x:Rd):Prop := isU x.1∧x.2.1.size≤1048576∧x.2.2.1.length≤1048576∧isU x.2.2.2.1∧isU x.2.2.2.2
theorem p40_tot {x:Rd} (h:fitR x) (hf:100<fu):∃ l,p40 fu ((x.1,x.2.1,x.2.2.1,x.2.2.2.1,x.2.2.2.2,()),())=some ((),l)∧l.length≤2097202 := by
 obtain ⟨a,c,f,g,i⟩ := x
 obtain ⟨h1,h2,h3,h4,h5⟩ := h
 unfold p40
 obtain ⟨u,hu,lu⟩ := p12_tot (fu := fu) h1 hf
 obtain ⟨v,hv,lv⟩ := p15_tot (fu := fu) (a := numsOf c) (by rw [numsOf_length]; exact h2) hf
 obtain ⟨w,hw,lw⟩ := p15_tot (fu := fu) h3 hf
 obtain ⟨x,hx,lx⟩ := p12_tot (fu := fu) h4 hf
 obtain ⟨y,hy,ly⟩ := p12_tot (fu := fu) h5 hf
 have e1:(u ++ v).length≤1048596 := by rw [List.length_append]; omega
 have e2:(u ++ v ++ w).length≤2097182 := by rw [List.length_append]; omega
 have e3:(u ++ v ++ w ++ x).length≤2097192 := by rw [List.length_append]; omega
 dsimp only at hu hv hw hx hy ⊢
 simp only [hu,hv,hw,hx,hy,bind_val,decide_true,cond_true,gL (a := u) (b := v) (by omega),gL (a := u ++ v) (b := w) (by omega),gL (a := u ++ v ++ w) (b := x) (by omega),gL (a := u ++ v ++ w ++ x) (b := y) (by omega)]
 exact ⟨_,rfl,by rw [List.length_append]; omega⟩
theorem loop_len {X R:Type} {f:((List Int×(Int×Unit))×Unit)→Option (((List Int×(Int×Unit))×Unit) ⊕ R)} (l:List X) (c K:Nat) (Q:R→Prop) (s0:List Int) (h0:s0.length≤c) (hf:l.length<fu)
  (hs:∀ i (_:i<l.length) s,s.length≤c+i * K → ∃ t:List Int,f ((s,(i:Int),()),())=some (.inl ((t,((i+1:Nat):Int),()),()))∧t.length≤s.length+K)
  (he:∀ s,s.length≤c+l.length * K → ∃ r,f ((s,(l.length:Int),()),())=some (.inr r)∧Q r):∃ r,loopO fu f ((s0,(0:Int),()),())=some r∧Q r := by
 refine loopO_rule (I := fun s => ∃ (t:List Int) (i:Nat),s=((t,(i:Int),()),())∧i≤l.length∧t.length≤c+i * K) (m := fun s=>l.length-s.1.2.1.toNat) Q ?_ fu _ ⟨s0,0,rfl,Nat.zero_le _,by omega⟩ (by show l.length-0<fu; omega)
 rintro s ⟨t,i,rfl,k1,k2⟩
 rcases Nat.lt_or_ge i l.length with g | g
 ·obtain ⟨u,hu,lu⟩ := hs i g t k2
  refine ⟨_,hu,⟨_,_,rfl,g,?_⟩,?_⟩
  ·rw [Nat.succ_mul]; omega
  ·show l.length-((i+1:Nat):Int).toNat<l.length-(i:Int).toNat
   rw [Int.toNat_natCast,Int.toNat_natCast]; omega
 ·obtain rfl:i=l.length := by omega
  obtain ⟨r,hr,qr⟩ := he t k2
  exact ⟨_,hr,qr⟩
theorem p13_tot {l:List Rd} (hl:l.length≤1048576) (h:∀ x ∈ l,fitR x) (hf:4194304<fu):∃ r,p13 fu (l,())=some ((),r)∧r.length≤10+l.length * 2097202 := by
 unfold p13
 obtain ⟨u,hu,lu⟩ := p12_tot (fu := fu) (len_u (l := l) (by omega)) (by omega)
 simp only [hu,bind_val,decide_true,cond_true]
 refine ex_list (fun r=>r.length≤10+l.length * 2097202) (loop_len (fu := fu) l 10 2097202 (fun r:Unit×List Int=>r.2.length≤10+l.length * 2097202) u lu (by omega) (fun i hi s hs => ?_) (fun s hs => ?_))
 ·have hg:∀ d,l.getD i d=l[i] := fun d=>getD_lt hi
  obtain ⟨v,hv,lv⟩ := p40_tot (fu := fu) (h _ (List.getElem_mem hi)) (by omega)
  have hmul:i * 2097202≤1048576 * 2097202 := Nat.mul_le_mul_right _ (by omega)
  refine ⟨s ++ v,?_,by rw [List.length_append]; omega⟩
  simp only [Int.ofNat_lt,Int.natCast_nonneg,hi,decide_true,cond_true,and_self,Int.toNat_natCast,hg,hv,bind_val,i64_succ hi (by omega),gL (a := s) (b := v) (by omega)]
 ·exact ⟨((),s),by simp only [Int.lt_irrefl,decide_false,cond_false,inrO_val],hs⟩
def fitS:St16→Prop
 | (lo,hi,e,z,l,ps,cs,_)=>lo.size≤1048576∧hi.size≤1048576∧isU e∧isU z∧(l.length≤1048576 ∧ ∀ x ∈ l,fitR x)∧(ps.length≤1048576 ∧ ∀ y ∈ ps,isU y.1∧isU y.2.1∧isU y.2.2.2)∧(cs.length≤1048576 ∧ ∀ y ∈ cs,y.1.size≤1048576∧isU y.2)
theorem p14_tot (b:Bool):∃ x,p14 fu (b,())=some ((),[x]) := by
 unfold p14
 cases b
 ·exact ⟨_,rfl⟩
 ·exact ⟨_,rfl⟩
set_option maxRecDepth 4000 in
theorem p5_tot {p:St16} (h:fitS p) (hf:4194304<fu):∃ r,p5 fu (p,())=some ((),r)∧r.length≤10000000000000 := by
 obtain ⟨lo,hi,e,z,l,ps,cs,⟨⟩⟩ := p
 obtain ⟨b1,b2,b3,b4,⟨b5,b6⟩,⟨b7,b8⟩,b9,b10⟩ := h
 unfold p5
 obtain ⟨a1,h1,l1⟩ := p11_tot (fu := fu) b1 b2 (by omega)
 obtain ⟨a2,h2,l2⟩ := p12_tot (fu := fu) b3 (by omega)
 obtain ⟨a3,h3,l3⟩ := p12_tot (fu := fu) b4 (by omega)
 obtain ⟨a4,h4,l4⟩ := p13_tot (fu := fu) b5 b6 hf
 obtain ⟨a5,h5,l5⟩ := p12_tot (fu := fu) (len_u (l := ps) (by omega)) (by omega)
 obtain ⟨a6,h6,l6⟩ := p12_tot (fu := fu) (len_u (l := cs) (by omega)) (by omega)
 have hm4:l.length * 2097202≤1048576 * 2097202 := Nat.mul_le_mul_right _ b5
 have e1:(a1 ++ a2).length≤2097182 := by rw [List.length_append]; omega
 have e2:(a1 ++ a2 ++ a3).length≤2097192 := by rw [List.length_append]; omega
 have e3:(a1 ++ a2 ++ a3 ++ a4).length≤2199100000000 := by rw [List.length_append]; omega
 have e4:(a1 ++ a2 ++ a3 ++ a4 ++ a5).length≤2199100000010 := by rw [List.length_append]; omega
 simp only [h1,h2,h3,h4,h5,h6,bind_val,decide_true,cond_true,gL (a := a1) (b := a2) (by omega),gL (a := a1 ++ a2) (b := a3) (by omega),gL (a := a1 ++ a2 ++ a3) (b := a4) (by omega),gL (a := a1 ++ a2 ++ a3 ++ a4) (b := a5) (by omega)]
 refine ex_list (fun l=>l.length≤10000000000000) (loop_len (fu := fu) ps 2199100000010 31 (fun r:Unit×List Int=>r.2.length≤10000000000000) _ e4 (by omega) (fun i hi s hs => ?_) (fun s hs => ?_))
 ·have hg:∀ d,ps.getD i d=ps[i] := fun d=>getD_lt hi
  obtain ⟨k1,k2,k3⟩ := b8 _ (List.getElem_mem hi)
  obtain ⟨c1,g1,m1⟩ := p12_tot (fu := fu) k1 (by omega)
  obtain ⟨c2,g2,m2⟩ := p12_tot (fu := fu) k2 (by omega)
  obtain ⟨c3,g3⟩ := p14_tot (fu := fu) ps[i].2.2.1
  obtain ⟨c4,g4,m4⟩ := p12_tot (fu := fu) k3 (by omega)
  have hmul:i * 31≤1048576 * 31 := Nat.mul_le_mul_right _ (by omega)
  have f1:(s ++ c1).length≤s.length+10 := by rw [List.length_append]; omega
  have f2:(s ++ c1 ++ c2).length≤s.length+20 := by rw [List.length_append]; omega
  have f3:(s ++ c1 ++ c2 ++ [c3]).length≤s.length+21 := by rw [List.length_append,len1]; omega
  refine ⟨s ++ c1 ++ c2 ++ [c3] ++ c4,?_,by rw [List.length_append]; omega⟩
  simp only [Int.ofNat_lt,Int.natCast_nonneg,hi,decide_true,cond_true,and_self,Int.toNat_natCast,hg,g1,g2,g3,g4,bind_val,i64_succ hi (by omega),gL (a := s) (b := c1) (by omega),gL (a := s ++ c1) (b := c2) (by omega),gL (a := s ++ c1 ++ c2) (b := [c3]) (by rw [len1]; omega),gL (a := s ++ c1 ++ c2 ++ [c3]) (b := c4) (by omega)]
 ·have hmul:ps.length * 31≤1048576 * 31 := Nat.mul_le_mul_right _ (by omega)
  have e5:(s ++ a6).length≤2199200000000 := by rw [List.length_append]; omega
  simp only [Int.lt_irrefl,decide_false,cond_false,gL (a := s) (b := a6) (by omega),cond_true]
  refine ex_inr (fun r:Unit×List Int=>r.2.length≤10000000000000) (loop_len (fu := fu) cs 2199200000000 1048596 (fun r:Unit×List Int=>r.2.length≤10000000000000) _ e5 (by omega) (fun i hi s hs => ?_) (fun s hs => ?_))
  ·have hg:∀ d,cs.getD i d=cs[i] := fun d=>getD_lt hi
   obtain ⟨k1,k2⟩ := b10 _ (List.getElem_mem hi)
   obtain ⟨c1,g1,m1⟩ := p15_tot (fu := fu) (a := numsOf cs[i].1) (by rw [numsOf_length]; exact k1) (by omega)
   obtain ⟨c2,g2,m2⟩ := p12_tot (fu := fu) k2 (by omega)
   have hmul:i * 1048596≤1048576 * 1048596 := Nat.mul_le_mul_right _ (by omega)
   have f1:(s ++ c1).length≤s.length+1048586 := by rw [List.length_append]; omega
   refine ⟨s ++ c1 ++ c2,?_,by rw [List.length_append]; omega⟩
   simp only [Int.ofNat_lt,Int.natCast_nonneg,hi,decide_true,cond_true,and_self,Int.toNat_natCast,hg,g1,g2,bind_val,i64_succ hi (by omega),gL (a := s) (b := c1) (by omega),gL (a := s ++ c1) (b := c2) (by omega)]
  ·have hmul:cs.length * 1048596≤1048576 * 1048596 := Nat.mul_le_mul_right _ (by omega)
   exact ⟨((),s),by simp only [Int.lt_irrefl,decide_false,cond_false,inrO_val],by show s.length≤_; omega⟩
end
section
variable {fu:Nat}
def okK (s:St16):Prop := s.2.2.2.2.1.length≤2097152∧s.2.2.2.2.2.1.length≤2097152∧s.2.2.2.2.2.2.1.length≤2097152 ∧ ∀ x ∈ s.2.2.2.2.1,x.2.2.1.length≤1048576
theorem ok_no:okK noSt := ⟨Nat.zero_le _,Nat.zero_le _,Nat.zero_le _,fun x hx=>by cases hx⟩
theorem jn_vals:∀ (k:Nat) (n:List Rd) (t u:List Int) (l r:List Rd),(∀ x ∈ n,x.2.2.1.length≤1048576)→(∀ x ∈ l,x.2.2.1.length≤1048576)→(∀ x ∈ r,x.2.2.1.length≤1048576) → ∀ x ∈ (jnS k n t u l r).1,x.2.2.1.length≤1048576
 | 0,_,_,_,_,_,hn,_,_=>hn
 | k+1,n,t,u,l,r,hn,hl,hr=>by
  have more:∀ y:Rd,y.2.2.1.length≤1048576 → ∀ x ∈ n ++ [numR n y],x.2.2.1.length≤1048576 := fun y hy x hx=>by
   rcases List.mem_append.1 hx with g | g
   ·exact hn x g
   ·rw [List.mem_singleton.1 g]; exact hy
  unfold jnS
  cases ahead l r with
  | true =>
   cases l with
   | nil=>intro x hx; cases hx
   | cons y l=>exact jn_vals k _ _ _ l r (more y (hl y (List.mem_cons_self ..))) (fun x hx=>hl x (List.mem_cons_of_mem _ hx)) hr
  | false =>
   cases ahead r l with
   | true =>
    cases r with
    | nil=>intro x hx; cases hx
    | cons y r=>exact jn_vals k _ _ _ l r (more y (hr y (List.mem_cons_self ..))) hl (fun x hx=>hr x (List.mem_cons_of_mem _ hx))
   | false=>intro x hx; cases hx
theorem jnE_vals {a b:List Rd} (ha:∀ x ∈ a,x.2.2.1.length≤1048576) (hb:∀ x ∈ b,x.2.2.1.length≤1048576):∀ x ∈ (jnE a b).1,x.2.2.1.length≤1048576 := by
 unfold jnE
 cases (logOk a && logOk b) with
 | false=>intro x hx; cases hx
 | true =>
  cases decide (a.length+b.length>4096) with
  | true=>intro x hx; cases hx
  | false=>exact jn_vals _ [] [] [] a b (fun x hx=>by cases hx) ha hb
theorem mrg_jn {a b:St16} (h:(mrgE a b != 0)=false):(jnR a b).2.2.2.1=0 := by
 unfold mrgE at h
 cases h1:(partS2 a b != 0) with
 | true=>rw [h1,cond_true,h1] at h; cases h
 | false =>
  rw [h1,cond_false] at h
  cases h2:(rgE a.1 a.2.1 b.1 b.2.1 != 0) with
  | true=>rw [h2,cond_true,h2] at h; cases h
  | false =>
   rw [h2,cond_false] at h
   cases h3:((jnR a b).2.2.2.1 != 0) with
   | true=>rw [h3,cond_true,h3] at h; cases h
   | false=>exact ne_zero h3
theorem ok_merge {a b:St16} (ha:bndS a) (hb:bndS b) (va:∀ x ∈ a.2.2.2.2.1,x.2.2.1.length≤1048576) (vb:∀ x ∈ b.2.2.2.2.1,x.2.2.1.length≤1048576):okK (mergeS a b).1 := by
 unfold mergeS
 cases h:(mrgE a b != 0) with
 | true=>exact ok_no
 | false =>
  obtain ⟨h1,h2⟩ := mrg_bnd ha hb (mrg_jn h)
  exact ⟨h1.1,h1.2.1,h1.2.2.1.1,jnE_vals va vb⟩
theorem fit_bnd {p:St16} (h:fitS p):bndS p∧(p.2.2.2.2.1.length≤1048576 ∧ ∀ x ∈ p.2.2.2.2.1,x.2.2.1.length≤1048576)∧isU p.2.2.1 := by
 obtain ⟨lo,hi,e,z,l,ps,cs,⟨⟩⟩ := p
 obtain ⟨b1,b2,b3,b4,⟨b5,b6⟩,⟨b7,b8⟩,b9,b10⟩ := h
 exact ⟨⟨by omega,by omega,⟨by omega,fun x hx=>⟨(b10 x hx).1,(b10 x hx).2.1,(b10 x hx).2.2⟩⟩,fun y hy=>(b8 y hy).2.2.1⟩,⟨b5,fun x hx=>(b6 x hx).2.2.1⟩,b3⟩
theorem any_nil' {X:Type} (l:List X):l.any (fun _=>false)=false := by
 induction l with
 | nil=>rfl
 | cons a l ih=>simp only [List.any_cons,ih,Bool.false_or]
theorem str_size (a:List Int):(strOfNums a).size=a.length := by
 unfold strOfNums
 simp [ByteArray.size]
theorem p3_is {p q:St16} (h:fitS p) (k:fitS q) (hf8:8388608<fu):p3 fu (p,q,())=some ((),true) := by
 have hf:4194304<fu := by omega
 obtain ⟨hb,hq,he⟩ := fit_bnd h
 obtain ⟨kb,kq,ke⟩ := fit_bnd k
 obtain ⟨bs,hB,lB⟩ := p5_tot (fu := fu) h hf
 obtain ⟨cs',kB,mB⟩ := p5_tot (fu := fu) k hf
 have h1 := p6_is (fu := fu) p q hb kb hq.1 kq.1 hq.2 kq.2 hf8
 have h2 := p7_is (fu := fu) p q hb kb hq.1 kq.1 hq.2 kq.2 he ke hf8
 have k1 := ok_merge hb kb hq.2 kq.2
 have s1 := p8_same (fu := fu) _ k1.1 k1.2.1 k1.2.2.1 hf
 obtain ⟨lo,hi,e,z,l,ps,cs,⟨⟩⟩ := p
 obtain ⟨lo',hi',e',z',l',ps',cs1,⟨⟩⟩ := q
 unfold p3
 generalize mergeS (lo,hi,e,z,l,ps,cs,()) (lo',hi',e',z',l',ps',cs1,())=S at h1 h2 k1 s1
 obtain ⟨⟨a1,a2,a3,a4,a5,a6,a7,⟨⟩⟩,er,⟨⟩⟩ := S
 dsimp only at k1 s1
 have hs:decide (ByteArray.size (strOfNums bs)+ByteArray.size (strOfNums cs')≤9223372036854775807)=true := decide_eq_true (by rw [str_size,str_size]; omega)
 simp only [p4_is hf,hB,kB,h1,h2,s1,hs,bind_val,decide_true,cond_true,orK_inl]
 have n1:a5.length≤2097152 := k1.1
 have n4:∀ x ∈ a5,x.2.2.1.length≤1048576 := k1.2.2.2
 refine loop_for a5 (fun i:Nat=>(((i:Int),()),())) (fun _=>false) ((),true) ((),true) (show a5.length<fu by omega) (fun i hi => ?_) ?_ (by rw [any_nil']; rfl)
 ·have hg:∀ d,a5.getD i d=a5[i] := fun d=>getD_lt hi
  have hv := n4 _ (List.getElem_mem hi)
  simp only [Int.ofNat_lt,Int.natCast_nonneg,hi,decide_true,cond_true,cond_false,and_self,Int.toNat_natCast,hg]
  refine loop_for a5[i].2.2.1 (fun i:Nat=>(((i:Int),()),())) (fun _=>false) (.inl ((((i+1:Nat):Int),()),())) (.inl ((((i+1:Nat):Int),()),())) (show a5[i].2.2.1.length<fu by omega) (fun k hk => ?_) ?_ (by rw [any_nil']; rfl)
  ·simp only [Int.ofNat_lt,Int.natCast_nonneg,hk,decide_true,cond_true,cond_false,and_self,Int.toNat_natCast,i64_succ hk (by omega)]
  ·simp only [Int.lt_irrefl,decide_false,cond_false,i64_succ hi (by omega),inrO_val]
 ·simp only [Int.lt_irrefl,decide_false,cond_false,beq_self_eq_true,cond_true,inrO_val]
end
end Go.Proofs.YtmjmhobeiamgiaaGreat
