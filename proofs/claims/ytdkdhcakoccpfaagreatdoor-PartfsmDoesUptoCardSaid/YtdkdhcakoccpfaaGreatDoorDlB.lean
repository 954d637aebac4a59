/-
  Layer 16: PartfsmDoes.
-/
import Derived.Test.YtdkdhcakoccpfaaGreatDoorPtD
import Derived.Test.YtdkdhcakoccpfaaGreatDoorDaP
namespace Go.Proofs.YtdkdhcakoccpfaaGreatDoor
open Go.RowKit
variable {fu:Nat}
abbrev Cn := D_runtime_errorAddressString
theorem K3i {X S R:Type} {f:S→Option (S ⊕ R)}:∀ (l:List X) (mk:Nat→S) (q:X→Bool) (r fin:R),l.length<fu →
  (∀ i (h:i<l.length),f (mk i)=some (bif q l[i] then .inr r else .inl (mk (i+1))))→f (mk l.length)=some (.inr fin)→loopO fu f (mk 0)=some (bif l.any q then r else fin) := by
 intro l mk q r fin hf hs he
 have key:∀ k i n,i+k=l.length→k<n→loopO n f (mk i)=some (bif (l.drop i).any q then r else fin) := by
  intro k
  induction k with
  | zero =>
   intro i n hi hn
   obtain ⟨m,rfl⟩:∃ m,n=m+1 := ⟨n-1,by omega⟩
   obtain rfl:i=l.length := by omega
   simp only [loopO,he,List.drop_length,List.any_nil,Qf]
  | succ k ih =>
   intro i n hi hn
   obtain ⟨m,rfl⟩:∃ m,n=m+1 := ⟨n-1,by omega⟩
   have hlt:i<l.length := by omega
   rw [List.drop_eq_getElem_cons hlt]
   simp only [loopO,hs i hlt,List.any_cons]
   cases q l[i] with
   | true=>rfl
   | false=>exact ih (i+1) m (by omega) (by omega)
 exact key l.length 0 fu (by omega) hf
theorem Q0z {X S R:Type} {f:S→Option (S ⊕ R)} {res:R} (l:List X) (mk:Nat→S) (q:X→Bool) (r fin:R) (hf:l.length<fu)
  (hs:∀ i (h:i<l.length),f (mk i)=some (bif q l[i] then .inr r else .inl (mk (i+1)))) (he:f (mk l.length)=some (.inr fin)) (hr:(bif l.any q then r else fin)=res):loopO fu f (mk 0)=some res :=
 hr ▸ K3i l mk q r fin hf hs he
abbrev ky (s:ByteArray):List UInt8 := s.data.toList
theorem Q5g {a b:ByteArray} (h:ky a=ky b):a=b := by
 cases a; cases b
 simp only [ky] at h
 congr 1
 exact Array.toList_inj.1 h
theorem Q6x (s:ByteArray):s.toList=ky s := Lib.toList_data s
theorem X2z:∀ x y:List UInt8,Op.bytesLess x y=decide (x<y)
 | [],[]=>by simp [Op.bytesLess]
 | [],_ :: _=>by simp [Op.bytesLess]
 | _ :: _,[]=>by simp [Op.bytesLess]
 | a :: xs,b :: ys=>by
  rw [Op.bytesLess,X2z xs ys,Bool.eq_iff_iff]
  by_cases h:a<b
  ·simp [h,List.cons_lt_cons_iff]
  ·by_cases h':b<a
   ·have:a ≠ b := fun e=>by subst e; exact h h'
    simp [h,this,List.cons_lt_cons_iff]
   ·have:a=b := UInt8.le_antisymm (UInt8.not_lt.1 h') (UInt8.not_lt.1 h)
    subst this
    simp [h]
theorem Q3y (a b:ByteArray):Op.bytesLess a.toList b.toList=decide (ky a<ky b) := by
 rw [Q6x,Q6x,X2z]
theorem Q5h (a b:ByteArray):(a.toList==b.toList)=decide (a=b) := by
 rw [Q6x,Q6x,Bool.eq_iff_iff]; simp only [beq_iff_eq,decide_eq_true_eq]
 exact ⟨Q5g,fun h=>h ▸ rfl⟩
theorem X3a:∀ a b:List UInt8,Lib.compareBytes a b=if a<b then -1 else if b<a then 1 else 0
 | [],[]=>by simp [Lib.compareBytes]
 | [],_ :: _=>by simp [Lib.compareBytes]
 | _ :: _,[]=>by simp [Lib.compareBytes]
 | a :: xs,b :: ys=>by
  rw [Lib.compareBytes,X3a xs ys]
  simp only [List.cons_lt_cons_iff]
  by_cases h:a<b
  ·simp [h]
  ·by_cases h':b<a
   ·have:a ≠ b := fun e=>by subst e; exact h h'
    simp [h,h',this]
   ·have:a=b := UInt8.le_antisymm (UInt8.not_lt.1 h') (UInt8.not_lt.1 h)
    subst this
    simp [h]
theorem X3b (a b:ByteArray):cmpI a b=if ky a<ky b then -1 else if ky b<ky a then 1 else 0 := X3a _ _
theorem Q6y (x:List UInt8):¬ x<x := List.lt_irrefl x
theorem Q5i {x y z:List UInt8} (h:x<y) (h':y<z):x<z := List.lt_trans h h'
theorem Q6z {x y:List UInt8} (h:¬ x<y) (h':¬ y<x):x=y := List.le_antisymm h' h
/-! ### Names -/
def sq (x:Int):Bool := bif x != 45 then bif x != 95 then bif x != 46 then true else false else false else false
def qb (x:Int):Bool := bif decide (x<97) then (bif decide (x<48) then sq x else bif decide (x>57) then sq x else false) else bif decide (x>122) then (bif decide (x<48) then sq x else bif decide (x>57) then sq x else false) else false
def nameB (a:ByteArray):Bool := bif (numsOf a).any qb then false else decide (1≤a.size∧a.size≤32)
theorem X3c {S R:Type} {r:R} {s:S} (x:Int):(bif decide (x<97) then
  bif decide (x<48) then
   bif x != 45 then bif x != 95 then bif x != 46 then some (.inr r) else some (.inl s) else some (.inl s) else some (.inl s)
  else bif decide (x>57) then
   bif x != 45 then bif x != 95 then bif x != 46 then some (.inr r) else some (.inl s) else some (.inl s) else some (.inl s)
  else some (.inl s)
 else bif decide (x>122) then
  bif decide (x<48) then
   bif x != 45 then bif x != 95 then bif x != 46 then some (.inr r) else some (.inl s) else some (.inl s) else some (.inl s)
  else bif decide (x>57) then
   bif x != 45 then bif x != 95 then bif x != 46 then some (.inr r) else some (.inl s) else some (.inl s) else some (.inl s)
  else some (.inl s)
 else some (.inl s):Option (S ⊕ R))=some (bif qb x then .inr r else .inl s) := by
 unfold qb sq
 generalize decide (x<97)=b1; generalize decide (x<48)=b2; generalize decide (x>57)=b3; generalize decide (x>122)=b4
 generalize (x != 45)=b5; generalize (x != 95)=b6; generalize (x != 46)=b7
 cases b1 <;> cases b2 <;> cases b3 <;> cases b4 <;> cases b5 <;> cases b6 <;> cases b7 <;> rfl
theorem K3j (a:ByteArray) (i:Nat) (h:i<(numsOf a).length):bAt a i=(numsOf a)[i] := by
 have h':i<a.data.toList.length := by simpa [numsOf] using h
 have:(numsOf a)[i]=((a.data.toList[i].toNat:Int)) := List.getElem_map ..
 rw [this,bAt,Q0k h']
theorem Q9g (a:ByteArray) (ha:a.size≤1048576) (hf:a.size<fu):p61 fu (a,())=some ((),nameB a) := by
 unfold p61 nameB
 have hl := Q1t a
 refine Q0z (numsOf a) (fun i=>(((i:Int),()),())) qb ((),false) ((),decide (1≤a.size∧a.size≤32)) (by omega) (fun i h => ?_) ?_ (by cases (numsOf a).any qb <;> rfl)
 ·simp only [Int.ofNat_lt,Int.natCast_nonneg,h,Qd,Qt,and_self,Int.toNat_natCast,Q0k h,Q0i h (by omega)]
  exact X3c _
 ·simp only [Int.ofNat_lt,Nat.lt_irrefl,decide_false,Qf]
  by_cases h1:1≤a.size
  ·have h2:(a.size:Int)≥1 := by omega
   have h3:decide ((a.size:Int)≤32)=decide (a.size≤32) := decide_eq_decide.2 (by omega)
   simp only [h1,h2,h3,Qd,Qt,true_and]; rfl
  ·have h2:¬ (a.size:Int)≥1 := by omega
   simp only [h1,h2,decide_false,Qf,false_and]; rfl
theorem X3d {X S R:Type} {f:S→Option (S ⊕ R)} {res:R} (l:List X) (mk:Nat→S) (q:X→Bool) (g:Option X→R) (hf:l.length<fu)
  (hs:∀ i (h:i<l.length),f (mk i)=some (bif q l[i] then .inr (g (some l[i])) else .inl (mk (i+1)))) (he:f (mk l.length)=some (.inr (g none))) (hr:g (l.find? q)=res):loopO fu f (mk 0)=some res := by
 subst hr
 have key:∀ k i n,i+k=l.length→k<n→loopO n f (mk i)=some (g ((l.drop i).find? q)) := by
  intro k
  induction k with
  | zero =>
   intro i n hi hn
   obtain ⟨m,rfl⟩:∃ m,n=m+1 := ⟨n-1,by omega⟩
   obtain rfl:i=l.length := by omega
   simp only [loopO,he,List.drop_length,List.find?_nil]
  | succ k ih =>
   intro i n hi hn
   obtain ⟨m,rfl⟩:∃ m,n=m+1 := ⟨n-1,by omega⟩
   have hlt:i<l.length := by omega
   rw [List.drop_eq_getElem_cons hlt]
   simp only [loopO,hs i hlt,List.find?_cons]
   cases q l[i] with
   | true=>rfl
   | false=>exact ih (i+1) m (by omega) (by omega)
 exact key l.length 0 fu (by omega) hf
def okL (l:List Cn):Prop := l.length≤2097152 ∧ ∀ x ∈ l,x.1.size≤1048576∧0≤x.2∧x.2<18446744073709551616
theorem X3e {l:List Cn} (h:okL l) {i:Nat} (hi:i<l.length):l[i].1.size≤1048576 := (h.2 _ (List.getElem_mem hi)).1
def bad (l:List Cn) (i:Nat):Bool := bif !nameB (l.getD i (⟨#[]⟩,0)).1 then true else bif decide (0<i) then !Op.bytesLess (l.getD (i-1) (⟨#[]⟩,0)).1.toList (l.getD i (⟨#[]⟩,0)).1.toList else false
def okC (l:List Cn):Bool := bif (List.range l.length).any (bad l) then false else decide (l.length≤64)
theorem X3f (l:List Cn) (hl:okL l) (hf:4194304<fu):p20 fu (l,())=some ((),okC l) := by
 unfold p20 okC
 have hn:l.length≤2097152 := hl.1
 refine Q0z (List.range l.length) (fun i=>(((i:Int),()),())) (bad l) ((),false) ((),decide (l.length≤64)) (by simp only [List.length_range]; omega) (fun i h => ?_) ?_ (by cases (List.range l.length).any (bad l) <;> rfl)
 ·simp only [List.length_range] at h
  have hs := X3e hl h
  have hg:∀ d,l.getD i d=l[i] := fun d=>Q0k h
  simp only [List.getElem_range,Int.ofNat_lt,Int.natCast_nonneg,h,Qd,Qt,and_self,Int.toNat_natCast,hg,Q9g _ hs (fu := fu) (by omega),Q0a,Q0i h (by omega),bad]
  cases nameB l[i].1
  ·rfl
  simp only [Bool.not_true,Qf]
  by_cases h0:0<i
  ·have h1:(i:Int)>0 := by omega
   have h2:i-1<l.length := by omega
   have h3:∀ d,l.getD (i-1) d=l[i-1] := fun d=>Q0k h2
   simp only [h0,h1,Qd,Qt,Q6t h0 (by omega),Int.natCast_nonneg,Int.ofNat_lt,h2,and_self,Int.toNat_natCast,h3]
   cases Op.bytesLess l[i-1].1.toList l[i].1.toList <;> rfl
  ·have h1:¬ (i:Int)>0 := by omega
   simp only [h0,h1,decide_false,Qf]
 ·simp only [List.length_range,Int.ofNat_lt,Nat.lt_irrefl,decide_false,Qf]
  have h3:decide ((l.length:Int)≤64)=decide (l.length≤64) := decide_eq_decide.2 (by omega)
  rw [h3]; rfl
def readO (o:Option Cn):Int×Bool := match o with | some x=>(x.2,true) | none=>(0,false)
def readC (l:List Cn) (c:ByteArray):Int×Bool := readO (l.find? fun x=>x.1.toList==c.toList)
theorem K3k (l:List Cn) (c:ByteArray) (hl:l.length≤2097152) (hf:4194304<fu):p79 fu (l,c,())=some ((),(readC l c).1,(readC l c).2,()) := by
 unfold p79
 refine X3d l (fun i=>(((i:Int),()),())) (fun x=>x.1.toList==c.toList) (fun o=>((),(readO o).1,(readO o).2,())) (by omega) (fun i h => ?_) ?_ rfl
 ·have hg:∀ d,l.getD i d=l[i] := fun d=>Q0k h
  simp only [Int.ofNat_lt,Int.natCast_nonneg,h,Qd,Qt,and_self,Int.toNat_natCast,hg,Q0i h (by omega)]
  cases l[i].1.toList==c.toList <;> rfl
 ·simp only [Int.ofNat_lt,Nat.lt_irrefl,decide_false,Qf]; rfl
theorem X3g {α:Type} (l:List α):l.any (fun _=>false)=false := by induction l <;> simp_all
theorem X3h (s:ByteArray):(s==s)=true := by
 cases s with
 | mk d=>show (d==d)=true; exact beq_self_eq_true d
theorem K3l (l:List Cn) (hl:l.length≤2097152) (hf:4194304<fu):p54 fu (l,l,())=some ((),true) := by
 unfold p54
 simp only [bne_self_eq_false,Qf]
 refine Q0z l (fun i=>(((i:Int),()),())) (fun _=>false) ((),false) ((),true) (by omega) (fun i h => ?_) ?_ (by rw [X3g]; rfl)
 ·simp only [Int.ofNat_lt,Int.natCast_nonneg,h,Qd,Qt,and_self,Int.toNat_natCast,Q0i h (by omega),beq_self_eq_true,Bool.and_true]
  generalize (l.getD i (dflt T_runtime_errorAddressString)).fst=s
  have:(s==s)=true := X3h s
  simp only [this,Bool.not_true,Qf]
 ·simp only [Int.ofNat_lt,Nat.lt_irrefl,decide_false,Qf]; rfl
theorem Q9h {S R:Type} {f:S→Option (S ⊕ R)} (I:S→Prop) (m:S→Nat) {n:Nat} {s:S} {r:R} (hI:I s) (hm:m s<n) (h:∀ s,I s → ∃ o,f s=some o∧LStep I m (fun q=>q=r) s o):loopO n f s=some r := by
 obtain ⟨q,e,rfl⟩ := Q5c I m (fun q=>q=r) h n s hI hm
 exact e
theorem X3i {lo hi:Nat} (h:lo+hi≤9223372036854775807):IntKind.wrap .i64 (Int.fdiv (IntKind.wrap .u64 (IntKind.wrap .i64 ((lo:Int)+(hi:Int)))) (2 ^ (min (Int.toNat (1:Int)) (IntKind.bits .u64))))=(((lo+hi) / 2:Nat):Int) := by
 have e1:IntKind.wrap .i64 ((lo:Int)+(hi:Int))=((lo+hi:Nat):Int) := by rw [Q2k (by omega) (by omega)]; omega
 have e2:IntKind.wrap .u64 ((lo+hi:Nat):Int)=((lo+hi:Nat):Int) := J1t (by omega) (by omega)
 have e3:(2:Int) ^ (min (Int.toNat (1:Int)) (IntKind.bits .u64))=2 := rfl
 have e4:Int.fdiv ((lo+hi:Nat):Int) 2=(((lo+hi) / 2:Nat):Int) := by
  rw [Int.fdiv_eq_ediv_of_nonneg _ (by omega)]; omega
 rw [e1,e2,e3,e4,Q2k (by omega) (by omega)]
def Rises (l:List Cn):Prop := l.Pairwise fun x y=>ky x.1<ky y.1
def isB (e:Cn) (x:Cn):Bool := !(x.1.toList==e.1.toList)
def insS:List Cn→Cn→List Cn
 | [],e=>[e]
 | x :: l,e=>bif Op.bytesLess x.1.toList e.1.toList then x :: insS l e else e :: (x :: l).filter (isB e)
theorem Q2v {p:Prop} [Decidable p] {α:Type} {a:α} (h:p):(bif decide p then some a else none)=some a := by rw [decide_eq_true h]; rfl
theorem Q7a (e x:Cn):isB e x=true ↔ x.1 ≠ e.1 := by
 unfold isB; rw [Q5h]; simp
theorem K3m {e x:Cn} (h:Op.bytesLess x.1.toList e.1.toList=true):(x.1.toList==e.1.toList)=false := by
 rw [Q3y] at h
 rw [Q5h,decide_eq_false_iff_not]
 intro e'
 rw [e'] at h
 exact Q6y _ (of_decide_eq_true h)
def docR (e:Cn) (b:Bool) (l:List Cn):List Cn := bif b then l.filter (isB e) else insS l e
theorem Q9i {α:Type} (l:List α) (d:α):copyL (List.replicate l.length d) 0 l.length l=l := by
 simp [copyL]
theorem X3j (l:List Cn) (hl:l.length≤2097152):p72 fu (l,())=some ((),l) := by
 unfold p72
 cases l with
 | nil=>rfl
 | cons a l =>
  have h0:(((a :: l).length:Int)==0)=false := by simp; omega
  have h1:(0:Int)≤((a :: l).length:Int)∧((a :: l).length:Int)≤((a :: l).length:Int)∧((a :: l).length:Int)≤9223372036854775807∧(24:Int) * ((a :: l).length:Int)≤140737488355328 := by omega
  simp only [h0,Qf,h1,and_self,Qd,Qt,Int.toNat_natCast,List.length_replicate,Q9i]
theorem X3k (a c:ByteArray) (x y:Int):p114 fu ((a,x,()),(c,y,()),())=some ((),cmpI a c) := rfl
def At (l:List Cn) (c:ByteArray) (n:Nat):Prop := n≤l.length∧(∀ k (h:k<l.length),k<n→ky l[k].1<ky c) ∧ ∀ k (h:k<l.length),n≤k → ¬ ky l[k].1<ky c
theorem Q9j (c:ByteArray):∀ l:List Cn,Rises l → ∃ n,At l c n
 | [],_=>⟨0,Nat.le_refl _,fun k h=>absurd h (Nat.not_lt_zero _),fun k h=>absurd h (Nat.not_lt_zero _)⟩
 | x :: l,hr=>by
  obtain ⟨hx,hr'⟩ := List.pairwise_cons.1 hr
  by_cases h:ky x.1<ky c
  ·obtain ⟨n,h1,h2,h3⟩ := Q9j c l hr'
   refine ⟨n+1,Nat.succ_le_succ h1,fun k hk hn => ?_,fun k hk hn => ?_⟩
   ·cases k with
    | zero=>exact h
    | succ k=>exact h2 k (Nat.lt_of_succ_lt_succ hk) (by omega)
   ·cases k with
    | zero=>omega
    | succ k=>exact h3 k (Nat.lt_of_succ_lt_succ hk) (by omega)
  ·refine ⟨0,Nat.zero_le _,fun k hk hn=>absurd hn (Nat.not_lt_zero _),fun k hk _ => ?_⟩
   cases k with
   | zero=>exact h
   | succ k=>exact fun g=>h (Q5i (hx _ (List.getElem_mem (Nat.lt_of_succ_lt_succ hk))) g)
theorem K3n (l:List Cn) (c:ByteArray) (f:Int) (n:Nat) (hl:l.length≤2097152) (hf:4194304<fu) (ha:At l c n) :
  p121 fu (l,(c,f,()),((),()),())=some ((),(n:Int),(if h:n<l.length then decide (l[n].1=c) else false),()) := by
 obtain ⟨hn,ha1,ha2⟩ := ha
 unfold p121
 refine Q9h (I := fun s => ∃ h i:Nat,s=(((h:Int),(i:Int),()),())∧h≤n∧n≤i∧i≤l.length) (m := fun s=>Int.toNat s.1.2.1-Int.toNat s.1.1) ⟨0,l.length,rfl,Nat.zero_le _,hn,Nat.le_refl _⟩ (by simp only [Int.toNat_natCast]; omega) fun s hs => ?_
 obtain ⟨h,i,rfl,h1,h2,h3⟩ := hs
 by_cases hlt:h<i
 ·have hm:(h+i) / 2<l.length := by omega
  have hg:∀ d,l.getD ((h+i) / 2) d=l[(h+i) / 2] := fun d=>Q0k hm
  simp only [X3i (lo := h) (hi := i) (by omega),Int.ofNat_lt,hlt,Int.natCast_nonneg,hm,Qd,Qt,and_self,Int.toNat_natCast,hg,X3k,Q0a,X3b]
  by_cases hc:ky l[(h+i) / 2].1<ky c
  ·simp only [hc,if_true,show decide ((-1:Int)<0)=true from rfl,Qt,Q0i hm (by omega)]
   refine ⟨_,rfl,⟨_,_,rfl,?_,h2,h3⟩,by simp only [Int.toNat_natCast]; omega⟩
   rcases Nat.lt_or_ge ((h+i) / 2) n with g | g
   ·exact g
   ·exact absurd hc (ha2 _ hm g)
  ·have hz:decide ((if ky c<ky l[(h+i) / 2].1 then (1:Int) else 0)<0)=false := by split <;> rfl
   simp only [hc,if_false,hz,Qf]
   refine ⟨_,rfl,⟨_,_,rfl,h1,?_,by omega⟩,by simp only [Int.toNat_natCast]; omega⟩
   rcases Nat.lt_or_ge ((h+i) / 2) n with g | g
   ·exact absurd (ha1 _ hm g) hc
   ·exact g
 ·obtain rfl:h=n := by omega
  simp only [Int.ofNat_lt,hlt,decide_false,Qf]
  by_cases hm:h<l.length
  ·have hg:∀ d,l.getD h d=l[h] := fun d=>Q0k hm
   simp only [hm,Int.natCast_nonneg,Qd,Qt,and_self,Int.toNat_natCast,hg,X3k,Q0a,X3b,ha2 _ hm (Nat.le_refl _),if_false,dite_true]
   refine ⟨_,rfl,?_⟩
   have:((if ky c<ky l[h].1 then (1:Int) else 0)==0)=decide (l[h].1=c) := by
    by_cases hx:ky c<ky l[h].1
    ·have:¬ l[h].1=c := fun e=>Q6y _ (e ▸ hx)
     simp [hx,this]
    ·have:l[h].1=c := Q5g (Q6z (ha2 _ hm (Nat.le_refl _)) hx)
     simp [this]
   rw [this]
  ·simp only [hm,decide_false,Qf,dite_false]
   exact ⟨_,rfl,rfl⟩
theorem X3l {l:List Cn} {e:Cn} (h:∀ y ∈ l,y.1 ≠ e.1):l.filter (isB e)=l := List.filter_eq_self.2 fun y hy=>(Q7a e y).2 (h y hy)
theorem Q7b {a b:ByteArray} (h:ky a<ky b):a ≠ b := fun e=>Q6y _ (e ▸ h)
theorem X3m {x e:Cn} (h:¬ ky x.1<ky e.1):Op.bytesLess x.1.toList e.1.toList=false := by rw [Q3y,decide_eq_false h]
theorem X3n {x e:Cn} (h:ky x.1<ky e.1):Op.bytesLess x.1.toList e.1.toList=true := by rw [Q3y,decide_eq_true h]
theorem Q9k (e:Cn):∀ (l:List Cn) (n:Nat),Rises l→At l e.1 n→insS l e=if h:n<l.length then (if l[n].1=e.1 then l.set n e else l.take n ++ [e] ++ l.drop n) else l.take n ++ [e] ++ l.drop n
 | [],n,_,h=>by
  obtain rfl:n=0 := Nat.le_zero.1 h.1
  rfl
 | x :: l,0,hr,h=>by
  obtain ⟨hx,hr'⟩ := List.pairwise_cons.1 hr
  have h0:¬ ky x.1<ky e.1 := h.2.2 0 (Nat.succ_pos _) (Nat.le_refl _)
  simp only [insS,X3m h0,Qf,List.length_cons,Nat.succ_pos,dite_true,List.getElem_cons_zero,List.set_cons_zero,List.take_zero,List.nil_append,List.drop_zero,List.filter_cons]
  by_cases hq:x.1=e.1
  ·have hk:isB e x=false := by rw [← Bool.not_eq_true,Q7a]; exact fun g=>g hq
   simp only [hq,if_true,hk,Bool.false_eq_true,if_false]
   rw [X3l fun y hy g=>Q7b (hx y hy) (hq.trans g.symm)]
  ·have hk:isB e x=true := (Q7a e x).2 hq
   have hlt:ky e.1<ky x.1 := by
    rcases Classical.em (ky e.1<ky x.1) with g | g
    ·exact g
    ·exact absurd (Q5g (Q6z h0 g)) hq
   simp only [hq,if_false,hk,if_true]
   rw [X3l fun y hy g=>Q7b (Q5i hlt (hx y hy)) g.symm]
   rfl
 | x :: l,n+1,hr,h=>by
  obtain ⟨hx,hr'⟩ := List.pairwise_cons.1 hr
  have h0:ky x.1<ky e.1 := h.2.1 0 (Nat.succ_pos _) (Nat.succ_pos _)
  have ha:At l e.1 n := ⟨Nat.le_of_succ_le_succ h.1,fun k hk hn=>h.2.1 (k+1) (Nat.succ_lt_succ hk) (Nat.succ_lt_succ hn),fun k hk hn=>h.2.2 (k+1) (Nat.succ_lt_succ hk) (Nat.succ_le_succ hn)⟩
  simp only [insS,X3n h0,Qt,Q9k e l n hr' ha,List.length_cons,Nat.add_lt_add_iff_right,List.getElem_cons_succ,List.set_cons_succ,List.take_succ_cons,List.drop_succ_cons,List.cons_append]
  split
  ·split <;> rfl
  ·rfl
theorem Q3z {e y:Cn}:∀ {l:List Cn},y ∈ insS l e→y=e ∨ y ∈ l
 | [],h => .inl (List.mem_singleton.1 h)
 | x :: l,h=>by
  unfold insS at h
  cases hb:Op.bytesLess x.1.toList e.1.toList with
  | true =>
   rw [hb,Qt] at h
   rcases List.mem_cons.1 h with h | h
   ·exact .inr (h ▸ List.mem_cons_self)
   ·exact (Q3z h).imp id (List.mem_cons_of_mem _)
  | false =>
   rw [hb,Qf] at h
   exact (List.mem_cons.1 h).imp id fun h=>(List.mem_filter.1 h).1
theorem X3o (e:Cn):∀ l:List Cn,(insS l e).length≤l.length+1
 | []=>Nat.le_refl _
 | x :: l=>by
  unfold insS
  cases Op.bytesLess x.1.toList e.1.toList with
  | true=>simpa using X3o e l
  | false =>
   simp only [Qf,List.length_cons]
   exact Nat.succ_le_succ (List.length_filter_le _ (x :: l))
theorem X3p {e:Cn}:∀ {l:List Cn},Rises l→Rises (insS l e)
 | [],_=>List.pairwise_singleton _ _
 | x :: l,hr=>by
  obtain ⟨hx,hr'⟩ := List.pairwise_cons.1 hr
  unfold insS
  by_cases h0:ky x.1<ky e.1
  ·rw [X3n h0,Qt]
   refine List.pairwise_cons.2 ⟨fun y hy => ?_,X3p hr'⟩
   rcases Q3z hy with rfl | hy
   ·exact h0
   ·exact hx y hy
  ·rw [X3m h0,Qf]
   refine List.pairwise_cons.2 ⟨fun y hy => ?_,hr.sublist (List.filter_sublist)⟩
   obtain ⟨hm,hb⟩ := List.mem_filter.1 hy
   have hne := (Q7a e y).1 hb
   have key:∀ z:Cn,¬ ky z.1<ky e.1→z.1 ≠ e.1→ky e.1<ky z.1 := fun z hz hn=>by
    rcases Classical.em (ky e.1<ky z.1) with g | g
    ·exact g
    ·exact absurd (Q5g (Q6z hz g)) hn
   refine key y (fun g => ?_) hne
   rcases List.mem_cons.1 hm with rfl | hm
   ·exact h0 g
   ·exact h0 (Q5i (hx y hm) g)
theorem K3o (l:List Cn) (c:ByteArray) (f:Int) (hr:Rises l) (hl:l.length≤2097151) (hf:4194304<fu):p113 fu (l,(c,f,()),((),()),())=some ((),insS l (c,f)) := by
 obtain ⟨n,ha⟩ := Q9j c l hr
 rw [Q9k (c,f) l n hr ha]
 have hn := ha.1
 unfold p113
 simp only [K3n l c f n (by omega) hf ha,X3j l (by omega),Q0a]
 have hins:pInsertC fu (l,(n:Int),[(c,f)],())=some (((),(),()),l.take n ++ [(c,f)] ++ l.drop n) := by
  unfold pInsertC
  exact Q2v ⟨Int.natCast_nonneg _,by simpa using hn,by simp,by simp only [List.length_singleton]; omega⟩
 by_cases h:n<l.length
 ·by_cases hq:l[n].1=c
  ·simp only [h,hq,dite_true,Qd,Qt,if_true,Int.natCast_nonneg,Int.ofNat_lt,and_self,Int.toNat_natCast,List.length_set]
  ·simp only [h,hq,dite_true,decide_false,Qf,if_false,hins,Q0a,Qd,Qt]
 ·simp only [h,dite_false,Qf,hins,Q0a,Qd,Qt]
/-! ### Commit -/
theorem X3q:∀ l:List Cn,(∀ i (h:i+1<l.length),ky (l[i]'(Nat.lt_of_succ_lt h)).1<ky l[i+1].1)→Rises l
 | [],_=>List.Pairwise.nil
 | [x],_=>List.pairwise_singleton _ _
 | x :: y :: l,h=>by
  have h1:Rises (y :: l) := X3q (y :: l) fun i hi=>h (i+1) (Nat.succ_lt_succ hi)
  have h2:ky x.1<ky y.1 := h 0 (Nat.succ_lt_succ (Nat.succ_pos _))
  refine List.pairwise_cons.2 ⟨fun z hz => ?_,h1⟩
  rcases List.mem_cons.1 hz with rfl | hz
  ·exact h2
  ·exact Q5i h2 ((List.pairwise_cons.1 h1).1 z hz)
theorem Q3k {l:List Cn} (h:okC l=true):Rises l∧l.length≤64 := by
 unfold okC at h
 cases hb:(List.range l.length).any (bad l) with
 | true=>rw [hb] at h; exact absurd h Bool.false_ne_true
 | false =>
  rw [hb,Qf] at h
  refine ⟨X3q l fun i hi => ?_,of_decide_eq_true h⟩
  have := List.any_eq_false.1 hb (i+1) (List.mem_range.2 hi)
  unfold bad at this
  have g1:∀ d,l.getD (i+1) d=l[i+1] := fun d=>Q0k hi
  have g2:∀ d,l.getD i d=l[i]'(Nat.lt_of_succ_lt hi) := fun d=>Q0k _
  simp only [g1,g2,Nat.succ_pos,Qd,Qt,Nat.add_sub_cancel,Q3y] at this
  cases hn:nameB l[i+1].1 with
  | false=>rw [hn] at this; exact absurd rfl this
  | true =>
   rw [hn] at this
   simpa using this
theorem K3p (l:List Cn) (c:ByteArray) (f:Int) (hr:Rises l):(insS l (c,f)).length=l.length+(bif (readC l c).2 then 0 else 1) := by
 obtain ⟨n,ha⟩ := Q9j c l hr
 rw [Q9k (c,f) l n hr ha]
 have hn := ha.1
 have hfound:∀ b:Bool,(readC l c).2=b ↔ ((∃ k,∃ h:k<l.length,l[k].1=c) ↔ b=true) := by
  intro b
  unfold readC
  cases hx:l.find? fun x=>x.1.toList==c.toList with
  | some x =>
   have h1 := List.find?_some hx
   rw [Q5h,decide_eq_true_eq] at h1
   obtain ⟨k,hk,e⟩ := List.getElem_of_mem (List.mem_of_find?_eq_some hx)
   have:∃ k,∃ h:k<l.length,l[k].1=c := ⟨k,hk,by rw [e]; exact h1⟩
   simp only [readO,this,true_iff]; exact eq_comm
  | none =>
   have:¬ ∃ k,∃ h:k<l.length,l[k].1=c := by
    rintro ⟨k,hk,e⟩
    have := List.find?_eq_none.1 hx _ (List.getElem_mem hk)
    rw [Q5h,e] at this
    exact this (decide_eq_true rfl)
   simp only [readO,this,false_iff,Bool.not_eq_true]; exact eq_comm
 by_cases h:n<l.length
 ·by_cases hq:l[n].1=c
  ·rw [(hfound true).2 ⟨fun _=>rfl,fun _=>⟨n,h,hq⟩⟩]
   simp only [h,hq,dite_true,if_true,List.length_set,Qt,Nat.add_zero]
  ·have:(readC l c).2=false := (hfound false).2 ⟨fun ⟨k,hk,e⟩=>by
    exfalso
    rcases Nat.lt_trichotomy k n with g | rfl | g
    ·exact Q7b (ha.2.1 k hk g) e
    ·exact hq e
    ·exact ha.2.2 n h (Nat.le_refl _) (e ▸ List.pairwise_iff_getElem.1 hr n k h hk g),fun g=>absurd g Bool.false_ne_true⟩
   rw [this]
   simp only [h,hq,dite_true,if_false,Qf,List.length_append,List.length_take,List.length_drop,List.length_singleton]
   omega
 ·have:(readC l c).2=false := (hfound false).2 ⟨fun ⟨k,hk,e⟩=>absurd e (Q7b (ha.2.1 k hk (by omega))),fun g=>absurd g Bool.false_ne_true⟩
  rw [this]
  simp only [h,dite_false,Qf,List.length_append,List.length_take,List.length_drop,List.length_singleton]
  omega
def commitS (l:List Cn) (c:ByteArray) (f h:Int):List Cn×Int :=
 bif !okC l then ([],1) else bif !nameB c then ([],142) else bif decide (f>h) then ([],141) else bif decide ((insS l (c,f)).length≤64) then (insS l (c,f),0) else ([],143)
theorem K3q (l:List Cn) (c:ByteArray) (f h:Int) (hl:okL l) (hc:c.size≤1048576) (hf:4194304<fu):p102 fu (l,(c,f,()),h,())=some ((),(commitS l c f h).1,(commitS l c f h).2,()) := by
 unfold p102 commitS
 simp only [X3f l hl hf,Q9g c hc (fu := fu) (by omega),Q0a]
 cases ho:okC l
 ·rfl
 cases nameB c
 ·rfl
 simp only [Bool.not_true,Qf]
 by_cases hh:f>h
 ·simp only [hh,Qd,Qt]
 simp only [hh,decide_false,Qf,K3o l c f (Q3k ho).1 (by have := (Q3k ho).2; omega) hf,Q0a]
 by_cases h6:(insS l (c,f)).length≤64
 ·have h7:((insS l (c,f)).length:Int)≤64 := by omega
  simp only [h6,h7,Qd,Qt]
 ·have h7:¬ ((insS l (c,f)).length:Int)≤64 := by omega
  simp only [h6,h7,decide_false,Qf]
abbrev Rd := D_api_Record
theorem Q1b {x:Int} (h1:0≤x) (h2:x<18446744073709551616):IntKind.wrap .u64 x=x := by
 show x % 18446744073709551616=x
 omega
/-! ### Logs -/
def noRec:Rd := (0,⟨#[]⟩,[],0,0)
def wrong (l:List Rd) (i:Nat):Bool := bif ((l.getD i noRec).1 != (i:Int)) then true else bif decide ((l.getD i noRec).2.1.size>32) then true else decide ((l.getD i noRec).2.2.1.length>256)
def logOk (l:List Rd):Bool := bif (List.range l.length).any (wrong l) then false else decide (l.length≤4096)
theorem X3r (a:Int) (c:ByteArray) (l:List Int) (x y:Int):p58 fu ((a,c,l,x,y,()),())=some ((),bif decide (c.size>32) then 131 else bif decide (l.length>256) then 144 else 0) := by
 unfold p58
 have h1:decide ((c.size:Int)>32)=decide (c.size>32) := decide_eq_decide.2 (by omega)
 have h2:decide ((l.length:Int)>256)=decide (l.length>256) := decide_eq_decide.2 (by omega)
 simp only [h1,h2]
 cases decide (c.size>32) <;> cases decide (l.length>256) <;> rfl
theorem Q9l (l:List Rd) (hl:l.length≤2097152) (hf:4194304<fu):p18 fu (l,())=some ((),logOk l) := by
 unfold p18 logOk
 refine Q0z (List.range l.length) (fun i=>(((i:Int),()),())) (wrong l) ((),false) ((),decide (l.length≤4096)) (by simp only [List.length_range]; omega) (fun i h => ?_) ?_ (by cases (List.range l.length).any (wrong l) <;> rfl)
 ·simp only [List.length_range] at h
  have hg:∀ d,l.getD i d=l[i] := fun d=>Q0k h
  have hw:IntKind.wrap .u64 (i:Int)=(i:Int) := Q1b (by omega) (by omega)
  simp only [List.getElem_range,Int.ofNat_lt,Int.natCast_nonneg,h,Qd,Qt,and_self,Int.toNat_natCast,hg,hw,X3r,Q0a,Q0i h (by omega),wrong]
  cases (l[i].1 != (i:Int))
  ·simp only [Qf]
   cases decide (l[i].2.1.size>32) <;> cases decide (l[i].2.2.1.length>256) <;> rfl
  ·rfl
 ·simp only [List.length_range,Int.ofNat_lt,Nat.lt_irrefl,decide_false,Qf]
  have h3:decide ((l.length:Int)≤4096)=decide (l.length≤4096) := decide_eq_decide.2 (by omega)
  rw [h3]; rfl
theorem K3r (l:List Int) (h:l.length≤140737488355328):p124 fu (l,())=some ((),l) := by
 unfold p124
 cases l with
 | nil=>rfl
 | cons a l =>
  have h0:(((a :: l).length:Int)==0)=false := beq_eq_false_iff_ne.2 (by simp only [List.length_cons]; omega)
  have h1:(0:Int)≤((a :: l).length:Int)∧((a :: l).length:Int)≤((a :: l).length:Int)∧((a :: l).length:Int)≤9223372036854775807∧(1:Int) * ((a :: l).length:Int)≤140737488355328 := by omega
  simp only [h0,Qf,h1,and_self,Qd,Qt,Int.toNat_natCast,List.length_replicate,Q9i]
def numR (n:List Rd) (x:Rd):Rd := ((n.length:Int),x.2.1,x.2.2.1,x.2.2.2.1,x.2.2.2.2)
theorem K3s (n:List Rd) (x:Rd) (hn:n.length≤2097152) (hx:x.2.2.1.length≤140737488355328):p111 fu (n,(x.1,x.2.1,x.2.2.1,x.2.2.2.1,x.2.2.2.2,()),())=some (((),()),n ++ [numR n x]) := by
 unfold p111 p117
 have hw:IntKind.wrap .u64 (n.length:Int)=(n.length:Int) := Q1b (by omega) (by omega)
 simp only [K3r _ hx,Q0a,Qd,Qt,hw]
 exact Q2v ⟨by unfold maxLen; simp only [List.length_singleton]; omega,by simp only [List.length_singleton]; omega⟩
def befB (c f:ByteArray):Bool := bif (ByteArray.toList c==ByteArray.toList (⟨#[]⟩:ByteArray)) then true else !(Op.bytesLess (ByteArray.toList c) (ByteArray.toList f)||ByteArray.toList c==ByteArray.toList f)
def chkB (a c:ByteArray):Int := bif !decide ((a.size:Int)≤32) then 131 else bif !decide ((c.size:Int)≤32) then 131 else bif !befB c a then 132 else 0
def hasB (a c f:ByteArray):Bool := bif (chkB a c==0) then (bif decide ((f.size:Int)≤32) then (bif !Op.bytesLess f.toList a.toList then befB c f else false) else false) else false
theorem X3s (c f:ByteArray):p57 fu ((c,ByteArray.toList c==ByteArray.toList (⟨#[]⟩:ByteArray),()),f,())=some ((),befB c f) := by
 unfold p57 befB
 cases (ByteArray.toList c==ByteArray.toList (⟨#[]⟩:ByteArray)) <;> rfl
theorem X3t (a c:ByteArray):p17 fu ((a,c,()),())=some ((),chkB a c) := by
 unfold p17 chkB
 simp only [p55,p56,Q0a,X3s]
 cases decide ((a.size:Int)≤32)
 ·rfl
 cases decide ((c.size:Int)≤32)
 ·rfl
 cases befB c a <;> rfl
theorem X3u (a c f:ByteArray):p65 fu ((a,c,()),f,())=some ((),hasB a c f) := by
 unfold p65 hasB
 simp only [X3t,p55,p56,Q0a,X3s]
 cases (chkB a c==0)
 ·rfl
 cases decide ((f.size:Int)≤32)
 ·rfl
 cases Op.bytesLess f.toList a.toList <;> rfl
theorem X3v (l:List Rd) (hl:l.length≤2097152) (hf:4194304<fu):p52 fu (l,l,())=some ((),true) := by
 unfold p52
 simp only [bne_self_eq_false,Qf]
 refine Q0z l (fun i=>(((i:Int),()),())) (fun _=>false) ((),false) ((),true) (by omega) (fun i h => ?_) ?_ (by rw [X3g]; rfl)
 ·simp only [Int.ofNat_lt,Int.natCast_nonneg,h,Qd,Qt,and_self,Int.toNat_natCast,Q0i h (by omega),Qf,beq_self_eq_true,Bool.not_true]
 ·simp only [Int.ofNat_lt,Nat.lt_irrefl,decide_false,Qf]; rfl
end Go.Proofs.YtdkdhcakoccpfaaGreatDoor
namespace Go.Proofs.YtdkdhcakoccpfaaGreatDoor
open Go.RowKit
variable {fu:Nat}
abbrev Pr := Int×Int×Bool×Int
def seqB (s:Int):Bool := decide (1≤s) && decide (s≤9223372036854775807)
def cmpZ (a b:Int):Int := if a<b then -1 else if a>b then 1 else 0
theorem X3w (s:Int):p60 fu (s,())=some ((),seqB s) := by
 unfold p60 seqB
 by_cases h:1≤s
 ·simp [h]
 ·simp [h]
theorem K3t (a:Int):p91 fu (a,())=some ((),false) := by simp [p91]
theorem X3x (a b:Int):p64 fu (a,b,())=some ((),cmpZ a b) := by
 simp only [p64,K3t,Q0a,Qf]
 unfold cmpZ
 by_cases h:a<b
 ·simp [h]
 ·by_cases h2:a>b
  ·simp [h,h2]
  ·simp [h,h2]
theorem X3y (x y:Pr):p59 fu ((x.1,x.2.1,x.2.2.1,x.2.2.2,()),(y.1,y.2.1,y.2.2.1,y.2.2.2,()),())=some ((),cmpZ x.1 y.1) := by
 simp only [p59,X3x,Q0a]
def findI (l:List Pr) (id:Int):Nat := l.findIdx fun x=>x.1==id
theorem X3z {l:List Pr} {id:Int} {i:Nat} (h:i≤findI l id) (hi:i<l.length) (hx:(l[i].1==id)=true):findI l id=i := by
 rcases Nat.lt_or_ge i (findI l id) with h1 | h1
 ·have := List.not_of_lt_findIdx h1
  rw [hx] at this; simp at this
 ·omega
theorem X4a {l:List Pr} {id:Int} {i:Nat} (h:i≤findI l id) (hi:i<l.length) (hx:(l[i].1==id)=false):i+1≤findI l id := by
 rcases Nat.lt_or_ge i (findI l id) with h1 | h1
 ·exact h1
 ·exfalso
  have e:findI l id=i := by omega
  have hw:findI l id<l.length := by omega
  have := List.findIdx_getElem (w := hw)
  simp only [show l.findIdx (fun x=>x.1==id)=i from e] at this
  rw [hx] at this; cases this
theorem Q9m (l:List Pr) (id:Int):findI l id≤l.length := List.findIdx_le_length
theorem K3u (l:List Pr) (id:Int) (hl:l.length≤9223372036854775806) (hf:l.length<fu) :
  p115 fu (l,((),((id,()),())),())=some (((id,()),()),(((findI l id:Nat):Int),decide (findI l id<l.length),())) := by
 unfold p115
 refine Q1i (I := fun s => ∃ i:Nat,s=(((i:Int),()),())∧i≤l.length∧i≤findI l id) (m := fun s=>l.length-s.1.1.toNat)
  (g := fun _=>(((id,()),()),(((findI l id:Nat):Int),decide (findI l id<l.length),()))) ?_ fu _ ⟨0,rfl,Nat.zero_le _,Nat.zero_le _⟩ (by simpa using hf)
 rintro s ⟨i,rfl,h1,h2⟩
 by_cases hi:i<l.length
 ·cases hx:(l[i].1==id) with
  | true =>
   right
   have e := X3z h2 hi hx
   simp [hi,p116,inrO,hx,e]
  | false =>
   left
   refine ⟨((((i+1:Nat):Int),()),()),?_,⟨i+1,rfl,hi,X4a h2 hi hx⟩,?_,rfl⟩
   ·simp [hi,p116,hx,Q0i hi (by omega)]
   ·simp; omega
 ·right
  have e:i=l.length := by omega
  have e2:findI l id=l.length := by have := Q9m l id; omega
  subst e
  simp [inrO,e2]
def find (l:List Pr) (id:Int):Option Pr := l.find? fun x=>x.1==id
theorem Q9n (l:List Pr) (id:Int) (d:Pr):find l id=if findI l id<l.length then some (l.getD (findI l id) d) else none := by
 unfold find findI
 induction l with
 | nil=>rfl
 | cons x l ih =>
  rw [List.find?_cons,List.findIdx_cons]
  cases hx:(x.1==id) with
  | true=>simp
  | false =>
   simp only [Qf,List.length_cons,Nat.add_lt_add_iff_right,List.getD_cons_succ]
   exact ih
def judge (l:List Pr) (id seq:Int):Int×Int :=
 if id=0 then (4,0) else if seqB seq=false then (4,0) else match find l id with
  | none=>(1,0)
  | some x=>if seq>x.2.1 then (1,0) else if seq=x.2.1∧x.2.2.1=true then (2,x.2.2.2) else (3,0)
theorem Q9o (l:List Pr) (id seq:Int) (hl:l.length≤9223372036854775806) (hf:l.length<fu):p110 fu (l,id,seq,())=some ((),((judge l id seq).1,(judge l id seq).2,())) := by
 unfold p110 judge
 by_cases h0:id=0
 ·simp [h0]
 ·simp only [h0,if_false,show (id==(0:Int))=false by simpa using h0,Qf,X3w,Q0a]
  cases hs:seqB seq with
  | false=>simp
  | true =>
   simp only [Bool.not_true,Qf,K3u l id hl hf,Q0a,Bool.true_eq_false,if_false,Q9n l id (dflt T_api_Producer)]
   by_cases hk:findI l id<l.length
   ·simp only [hk,Qd,Bool.not_true,Qf,if_true,Int.toNat_natCast,Int.natCast_nonneg,true_and,Int.ofNat_lt,Qt,Q0e]
    by_cases h1:seq>(l.getD (findI l id) (dflt T_api_Producer)).2.1
    ·simp only [h1,Qd,Qt,if_true]
    ·by_cases h2:seq=(l.getD (findI l id) (dflt T_api_Producer)).2.1
     ·have h3:(seq==(l.getD (findI l id) (dflt T_api_Producer)).2.1)=true := by rw [← h2]; exact beq_self_eq_true _
      simp only [h1,h3,decide_false,Qf,Qt,if_false,Q0e,eq_true h2,true_and]
      cases (l.getD (findI l id) (dflt T_api_Producer)).2.2.1 <;> simp
     ·have h3:(seq==(l.getD (findI l id) (dflt T_api_Producer)).2.1)=false := by simpa using h2
      simp only [h1,h2,h3,decide_false,Qf,if_false,Q0e,false_and]
   ·simp [hk,orK]
def okP (x:Pr):Bool := !(x.1==0) && (seqB x.2.1 && (x.2.2.1||x.2.2.2==0))
def rowOK (l:List Pr) (i:Nat):Bool := (i==0||decide ((l.getD (i-1) (dflt T_api_Producer)).1<(l.getD i (dflt T_api_Producer)).1)) && okP (l.getD i (dflt T_api_Producer))
def tabI (l:List Pr):Bool := (List.range l.length).all (rowOK l) && decide (l.length≤256)
theorem X4b {l:List Pr} {i:Nat} (hi:i<l.length) (h:rowOK l i=false):tabI l=false := by
 unfold tabI
 have:(List.range l.length).all (rowOK l)=false := by
  rw [List.all_eq_false]
  exact ⟨i,List.mem_range.2 hi,by simp [h]⟩
 rw [this]; rfl
theorem X4c (a b:Int):decide (cmpZ a b<0)=decide (a<b) := by
 unfold cmpZ
 by_cases h:a<b
 ·simp [h]
 ·by_cases h2:a>b
  ·simp [h,h2]
  ·simp [h,h2]
theorem X4d (l:List Pr) (hl:l.length≤9223372036854775806) (hf:l.length<fu):p19 fu (l,())=some ((),tabI l) := by
 unfold p19
 refine Q1i (I := fun s => ∃ i:Nat,s=(((i:Int),()),())∧i≤l.length ∧ ∀ j,j<i→rowOK l j=true) (m := fun s=>l.length-s.1.1.toNat)
  (g := fun _=>((),tabI l)) ?_ fu _ ⟨0,rfl,Nat.zero_le _,fun j hj=>absurd hj (Nat.not_lt_zero _)⟩ (by simpa using hf)
 rintro s ⟨i,rfl,h1,h2⟩
 by_cases hi:i<l.length
 ·-- what stands ahead of it
  have hd:∀ {R:Type} (k:(Bool×Unit)×Unit→Option R),orK (E := (Bool×Unit)×Unit)
    (bif ((i:Int)==(0:Int)) then some (.inl ((true,()),())) else
     bif decide ((0:Int)≤IntKind.wrap .i64 ((i:Int)-(1:Int))∧IntKind.wrap .i64 ((i:Int)-(1:Int))<(List.length l:Int)) then
      bif decide (Int.toNat (IntKind.wrap .i64 ((i:Int)-(1:Int)))<List.length l) then
       Option.bind (p59 fu (((List.getD l (Int.toNat (IntKind.wrap .i64 ((i:Int)-(1:Int)))) (dflt T_api_Producer)).1,((List.getD l (Int.toNat (IntKind.wrap .i64 ((i:Int)-(1:Int)))) (dflt T_api_Producer)).2).1,(((List.getD l (Int.toNat (IntKind.wrap .i64 ((i:Int)-(1:Int)))) (dflt T_api_Producer)).2).2).1,(((List.getD l (Int.toNat (IntKind.wrap .i64 ((i:Int)-(1:Int)))) (dflt T_api_Producer)).2).2).2,()),((List.getD l i (dflt T_api_Producer)).1,((List.getD l i (dflt T_api_Producer)).2).1,(((List.getD l i (dflt T_api_Producer)).2).2).1,(((List.getD l i (dflt T_api_Producer)).2).2).2,()),())) fun ⟨_,r33⟩ =>
       some (.inl ((decide (r33<(0:Int)),()),()))
      else none
     else none) k=k ((i==0||decide ((l.getD (i-1) (dflt T_api_Producer)).1<(l.getD i (dflt T_api_Producer)).1),()),()) := by
   intro R k
   by_cases h0:i=0
   ·subst h0; simp [orK]
   ·have hw := Q6t (i := i) (by omega) (by omega)
    have hlt:i-1<l.length := by omega
    have h0':((i:Int)==0)=false := by simpa using h0
    have h0'':(i==0)=false := by simpa using h0
    simp only [h0',h0'',Qf,hw,Int.natCast_nonneg,Int.ofNat_lt,hlt,true_and,Qd,Qt,Int.toNat_natCast,X3y,Q0a,Q0e,X4c,Bool.false_or]
  simp only [Int.ofNat_lt,hi,Qd,Qt,Int.natCast_nonneg,true_and,Int.toNat_natCast,hd]
  generalize hb:(i==0||decide ((l.getD (i-1) (dflt T_api_Producer)).1<(l.getD i (dflt T_api_Producer)).1))=b
  generalize hx:l.getD i (dflt T_api_Producer)=x
  obtain ⟨x1,x2,x3,x4⟩ := x
  have hrow:rowOK l i=(b && okP (x1,x2,x3,x4)) := by unfold rowOK; rw [hb,hx]
  have bad:rowOK l i=false→((),tabI l)=((),false) := fun h=>by rw [X4b hi h]
  have good:rowOK l i=true→(∃ s':((Int×Unit)×Unit),(some (.inl ((IntKind.wrap .i64 ((i:Int)+(1:Int)),()),())):Option (((Int×Unit)×Unit) ⊕ (Unit×Bool)))=some (.inl s') ∧
    (∃ i:Nat,s' = (((i:Int),()),())∧i≤l.length ∧ ∀ j,j<i→rowOK l j=true)∧l.length-s'.1.1.toNat<l.length-i∧((),tabI l)=((),tabI l)) := fun h =>
   ⟨((((i+1:Nat):Int),()),()),by rw [Q0i hi (by omega)],⟨i+1,rfl,hi,fun j hj=>by
     rcases Nat.lt_succ_iff_lt_or_eq.1 hj with h' | rfl
     ·exact h2 j h'
     ·exact h⟩,by simp; omega,rfl⟩
  simp only [okP] at hrow
  by_cases hz:x1=0
  ·right; rw [bad (by rw [hrow]; simp [hz])]; simp [hz,inrO]
  ·have hz':(x1==(0:Int))=false := by simpa using hz
   simp only [hz',Qf,X3w,Q0a,Bool.not_false,Bool.true_and] at hrow ⊢
   cases hs:seqB x2 with
   | false=>right; rw [bad (by rw [hrow,hs]; simp)]; simp [inrO]
   | true =>
    cases b with
    | false=>right; rw [bad (by rw [hrow]; simp)]; simp [inrO]
    | true =>
     cases x3 with
     | true =>
      have hr:rowOK l i=true := by rw [hrow,hs]; rfl
      left; simpa using good hr
     | false =>
      by_cases h4:x4=0
      ·have hr:rowOK l i=true := by rw [hrow,hs]; simp [h4]
       left; simpa [h4] using good hr
      ·right; rw [bad (by rw [hrow,hs]; simp [h4])]
       have h4':(x4 != (0:Int))=true := by simpa using h4
       simp [h4',inrO]
 ·right
  have e:i=l.length := by omega
  subst e
  have:(List.range l.length).all (rowOK l)=true := List.all_eq_true.2 fun j hj=>h2 j (List.mem_range.1 hj)
  simp [inrO,tabI,this]
  omega
def mrg (both:Pr→Pr→Pr):Nat→List Pr→List Pr→List Pr
 | 0,a,b=>a ++ b
 | _+1,[],b=>b
 | _+1,x :: a,[]=>x :: a
 | n+1,x :: a,y :: b=>if x.1<y.1 then x :: mrg both n a (y :: b) else if x.1>y.1 then y :: mrg both n (x :: a) b else both x y :: mrg both n a b
def newest (_ y:Pr):Pr := y
theorem K3v (x y:Pr):p118 fu ((x.1,x.2.1,x.2.2.1,x.2.2.2,()),(y.1,y.2.1,y.2.2.1,y.2.2.2,()),())=some ((),((newest x y).1,(newest x y).2.1,(newest x y).2.2.1,(newest x y).2.2.2,())) := rfl
theorem Q4a (both:Pr→Pr→Pr):∀ (n m:Nat) (a b:List Pr),a.length+b.length≤n→a.length+b.length≤m→mrg both n a b=mrg both m a b
 | 0,m,a,b,h,_=>by
  have ha:a=[] := List.eq_nil_of_length_eq_zero (by omega)
  have hb:b=[] := List.eq_nil_of_length_eq_zero (by omega)
  subst ha hb
  cases m <;> rfl
 | n+1,0,a,b,_,h=>by
  have ha:a=[] := List.eq_nil_of_length_eq_zero (by omega)
  have hb:b=[] := List.eq_nil_of_length_eq_zero (by omega)
  subst ha hb
  rfl
 | n+1,m+1,[],b,_,_=>rfl
 | n+1,m+1,x :: a,[],_,_=>rfl
 | n+1,m+1,x :: a,y :: b,h1,h2=>by
  simp only [List.length_cons] at h1 h2
  simp only [mrg]
  rw [Q4a both n m a (y :: b) (by simp; omega) (by simp; omega),Q4a both n m (x :: a) b (by simp; omega) (by simp; omega),Q4a both n m a b (by omega) (by omega)]
def merge (both:Pr→Pr→Pr) (a b:List Pr):List Pr := mrg both (a.length+b.length) a b
theorem X4e (both:Pr→Pr→Pr) (b:List Pr):merge both [] b=b := by
 unfold merge
 cases b <;> rfl
theorem Q9p (both:Pr→Pr→Pr) (a:List Pr):merge both a []=a := by
 unfold merge
 cases a <;> rfl
theorem X4f (both:Pr→Pr→Pr) (x y:Pr) (a b:List Pr):merge both (x :: a) (y :: b)=if x.1<y.1 then x :: merge both a (y :: b) else if x.1>y.1 then y :: merge both (x :: a) b else both x y :: merge both a b := by
 unfold merge
 have e:(x :: a).length+(y :: b).length=(a.length+b.length+1)+1 := by simp; omega
 rw [e]
 simp only [mrg]
 rw [Q4a both (a.length+b.length+1) (a.length+(y :: b).length) a (y :: b) (by simp; omega) (by omega),
  Q4a both (a.length+b.length+1) ((x :: a).length+b.length) (x :: a) b (by simp; omega) (by omega),
  Q4a both (a.length+b.length+1) (a.length+b.length) a b (by omega) (by omega)]
theorem K3w (l r:List Pr) (hb:(l.length+r.length) * 32≤140737488355328) (hf:l.length+r.length<fu) :
  p120 fu (l,r,((),()),((),()),())=some ((),merge newest l r) := by
 unfold p120
 refine K2t (I := fun s => ∃ v0 v1 v9:List Pr,s=((v0,v1,v9,()),())∧v9 ++ merge newest v0 v1=merge newest l r∧v9.length+v0.length+v1.length≤l.length+r.length)
   (m := fun s=>s.1.1.length+s.1.2.1.length)
   (Q := fun z => ∃ v0 v1 v9:List Pr,z = .inl ((v0,v1,v9,()),())∧(v0=[] ∨ v1=[])∧v9 ++ merge newest v0 v1=merge newest l r∧v9.length+v0.length+v1.length≤l.length+r.length)
   ⟨l,r,[],rfl,rfl,by simp⟩ (by simpa using hf) ?_ ?_
 ·rintro s ⟨v0,v1,v9,rfl,h1,h2⟩
  cases v0 with
  | nil=>exact ⟨.inr (.inl (([],v1,v9,()),())),by simp [inrO],[],v1,v9,rfl,.inl rfl,h1,h2⟩
  | cons x a =>
   cases v1 with
   | nil=>exact ⟨.inr (.inl ((x :: a,[],v9,()),())),by simp [inrO],x :: a,[],v9,rfl,.inr rfl,h1,h2⟩
   | cons y b =>
    rw [X4f] at h1
    simp only [List.length_cons] at h2
    have hp := X3y (fu := fu) x y
    have hm:v9.length+1≤maxLen∧(v9.length+1) * 32≤140737488355328 := by unfold maxLen; omega
    by_cases c1:x.1<y.1
    ·rw [if_pos c1] at h1
     have hc:cmpZ x.1 y.1 = -1 := by simp [cmpZ,c1]
     refine ⟨.inl ((a,y :: b,v9 ++ [x],()),()),?_,⟨a,y :: b,v9 ++ [x],rfl,by simpa using h1,by simp; omega⟩,by simp⟩
     simp [hp,hc,hm]
    ·rw [if_neg c1] at h1
     by_cases c2:x.1>y.1
     ·rw [if_pos c2] at h1
      have hc:cmpZ x.1 y.1=1 := by simp [cmpZ,c1,c2]
      refine ⟨.inl ((x :: a,b,v9 ++ [y],()),()),?_,⟨x :: a,b,v9 ++ [y],rfl,by simpa using h1,by simp; omega⟩,by simp⟩
      simp [hp,hc,hm]
     ·rw [if_neg c2] at h1
      have hc:cmpZ x.1 y.1=0 := by simp [cmpZ,c1,c2]
      refine ⟨.inl ((a,b,v9 ++ [newest x y],()),()),?_,⟨a,b,v9 ++ [newest x y],rfl,by simpa using h1,by simp; omega⟩,by simp; omega⟩
      simp [hp,hc,hm,K3v,newest]
 rintro z ⟨v0,v1,v9,rfl,h1,h2,h3⟩
 simp only [Q0e,Qd,Qt]
 have b1:v9.length+v0.length≤maxLen∧(v9.length+v0.length) * 32≤140737488355328 := by unfold maxLen; omega
 have b2:(v9 ++ v0).length+v1.length≤maxLen∧((v9 ++ v0).length+v1.length) * 32≤140737488355328 := by unfold maxLen; simp; omega
 simp only [b1,b2,and_self,Qd,Qt]
 rcases h1 with rfl | rfl
 ·rw [X4e] at h2; simp [h2]
 ·rw [Q9p] at h2; simp [h2]
def SP (l:List Pr):Prop := l.Pairwise fun a b=>a.1<b.1
theorem Q2l (l:List Pr):tabI l=true ↔ (∀ x ∈ l,okP x=true)∧SP l∧l.length≤256 := by
 unfold tabI
 simp only [Bool.and_eq_true,List.all_eq_true,List.mem_range,decide_eq_true_eq]
 constructor
 ·rintro ⟨h1,h2⟩
  refine ⟨fun x hx => ?_,?_,h2⟩
  ·obtain ⟨i,hi,rfl⟩ := List.getElem_of_mem hx
   have := h1 i hi
   unfold rowOK at this
   rw [Q0k hi] at this
   simp only [Bool.and_eq_true] at this
   exact this.2
  ·have step:∀ i (hi:i+1<l.length),(l[i]'(by omega)).1<l[i+1].1 := fun i hi=>by
    have := h1 (i+1) hi
    unfold rowOK at this
    simp only [Bool.and_eq_true] at this
    have h3 := this.1
    rw [show i+1-1=i by omega,Q0k hi,Q0k (show i<l.length by omega)] at h3
    simpa using h3
   unfold SP
   rw [List.pairwise_iff_getElem]
   have key:∀ d i (hi:i+d+1<l.length),(l[i]'(by omega)).1<(l[i+d+1]'hi).1 := by
    intro d
    induction d with
    | zero=>intro i hi; exact step i hi
    | succ d ih =>
     intro i hi
     have h1 := ih i (by omega)
     have h2 := step (i+d+1) (by omega)
     have e:i+(d+1)+1=i+d+1+1 := by omega
     simp only [e]
     omega
   intro i j hi hj hij
   have := key (j-i-1) i (by omega)
   have e:i+(j-i-1)+1=j := by omega
   simp only [e] at this
   exact this
 ·rintro ⟨h1,h2,h3⟩
  refine ⟨fun i hi => ?_,h3⟩
  unfold rowOK
  rw [Q0k hi]
  simp only [Bool.and_eq_true]
  refine ⟨?_,h1 _ (List.getElem_mem _)⟩
  cases i with
  | zero=>rfl
  | succ i =>
   have := (List.pairwise_iff_getElem.1 h2) i (i+1) (by omega) hi (by omega)
   rw [show i+1-1=i by omega,Q0k (show i<l.length by omega)]
   simp [this]
def ins (l:List Pr) (x:Pr):List Pr := merge newest l [x]
theorem Q2w (x:Pr):ins [] x=[x] := X4e _ _
theorem Q1m (y x:Pr) (l:List Pr):ins (y :: l) x=if y.1<x.1 then y :: ins l x else if y.1>x.1 then x :: y :: l else x :: l := by
 unfold ins
 rw [X4f,Q9p,Q9p]; rfl
theorem Q2x {x z:Pr}:∀ {l:List Pr},z ∈ ins l x→z=x ∨ z ∈ l
 | [],h=>by rw [Q2w] at h; exact .inl (by simpa using h)
 | y :: l,h=>by
  rw [Q1m] at h
  split at h
  ·rcases List.mem_cons.1 h with rfl | h
   ·exact .inr (List.mem_cons_self ..)
   ·rcases Q2x h with h | h
    ·exact .inl h
    ·exact .inr (List.mem_cons_of_mem _ h)
  ·split at h
   ·rcases List.mem_cons.1 h with h | h
    ·exact .inl h
    ·exact .inr h
   ·rcases List.mem_cons.1 h with h | h
    ·exact .inl h
    ·exact .inr (List.mem_cons_of_mem _ h)
theorem Q7c (x:Pr):∀ l:List Pr,(ins l x).length≤l.length+1
 | []=>by rw [Q2w]; simp
 | y :: l=>by
  rw [Q1m]
  have := Q7c x l
  split
  ·simp; omega
  ·split <;> simp
theorem X4g {x:Pr}:∀ {l:List Pr},SP l→SP (ins l x)
 | [],_=>by rw [Q2w]; exact List.pairwise_singleton ..
 | y :: l,h=>by
  rw [Q1m]
  have h' := List.pairwise_cons.1 h
  split
  ·rename_i c
   refine List.pairwise_cons.2 ⟨fun z hz => ?_,X4g h'.2⟩
   rcases Q2x hz with rfl | hz
   ·exact c
   ·exact h'.1 z hz
  ·split
   ·rename_i c1 c2
    refine List.pairwise_cons.2 ⟨fun z hz => ?_,h⟩
    rcases List.mem_cons.1 hz with rfl | hz
    ·exact c2
    ·have := h'.1 z hz; omega
   ·rename_i c1 c2
    refine List.pairwise_cons.2 ⟨fun z hz => ?_,h'.2⟩
    have := h'.1 z hz; omega
theorem Q4b (y:Pr) (l:List Pr) (id:Int):find (y :: l) id=if y.1=id then some y else find l id := by
 unfold find
 rw [List.find?_cons]
 by_cases h:y.1=id
 ·simp [h]
 ·have:(y.1==id)=false := by simpa using h
  simp [h,this]
theorem Q5j (x:Pr) (id:Int):∀ l:List Pr,find (ins l x) id=if x.1=id then some x else find l id
 | []=>by rw [Q2w,Q4b]
 | y :: l=>by
  rw [Q1m,Q4b]
  split
  ·rename_i c
   rw [Q4b,Q5j x id l]
   by_cases h:y.1=id
   ·rw [if_pos h,if_neg (by omega),if_pos h]
   ·rw [if_neg h]
    by_cases h2:x.1=id
    ·rw [if_pos h2,if_pos h2]
    ·rw [if_neg h2,if_neg h2,if_neg h]
  ·split
   ·rw [Q4b,Q4b]
   ·rename_i c1 c2
    rw [Q4b]
    by_cases h2:x.1=id
    ·rw [if_pos h2,if_pos h2]
    ·rw [if_neg h2,if_neg h2,if_neg (by omega)]
theorem K3x {l:List Pr} {x:Pr} (h:tabI l=true) (hx:okP x=true) (hl:(ins l x).length≤256):tabI (ins l x)=true := by
 rw [Q2l] at h ⊢
 refine ⟨fun z hz => ?_,X4g h.2.1,hl⟩
 rcases Q2x hz with rfl | hz
 ·exact hx
 ·exact h.1 z hz
def putS (l:List Pr) (x:Pr):List Pr×Int :=
 if tabI l=false then ([],1) else if (judge l x.1 x.2.1).1=4 then ([],151) else if (judge l x.1 x.2.1).1=2 then ([],152) else if (judge l x.1 x.2.1).1=3 then ([],152)
 else if (ins l x).length>256 then ([],153) else (ins l x,0)
theorem X4h (l:List Pr) (x:Pr) (hl:l.length≤9223372036854775806) (hf:l.length+1<fu):p112 fu (l,(x.1,x.2.1,x.2.2.1,x.2.2.2,()),())=some ((),((putS l x).1,(putS l x).2,())) := by
 unfold p112 putS
 have e16 := X4d (fu := fu) l hl (by omega)
 have e11 := Q9o (fu := fu) l x.1 x.2.1 hl (by omega)
 simp only [e16,Q0a]
 cases ht:tabI l with
 | false=>simp
 | true =>
  have h256:l.length≤256 := ((Q2l l).1 ht).2.2
  simp only [Bool.not_true,Qf,e11,Q0a,Bool.true_eq_false,if_false]
  by_cases h4:(judge l x.1 x.2.1).1=4
  ·simp [h4]
  ·by_cases h2:(judge l x.1 x.2.1).1=2
   ·simp [h2]
   ·by_cases h3:(judge l x.1 x.2.1).1=3
    ·simp [h3]
    ·have e4:((judge l x.1 x.2.1).1==(4:Int))=false := by simpa using h4
     have e2:((judge l x.1 x.2.1).1==(2:Int))=false := by simpa using h2
     have e3:((judge l x.1 x.2.1).1==(3:Int))=false := by simpa using h3
     have hm := K3w (fu := fu) l [x] (by simp; omega) (by simpa using hf)
     simp only [e4,e2,e3,h4,h2,h3,Qf,if_false]
     have hm':p120 fu (l,[(x.1,x.2.1,x.2.2.1,x.2.2.2)],((),()),((),()),())=some ((),ins l x) := hm
     simp only [hm',Q0a,Qd,Qt,p119_1]
     by_cases h5:(ins l x).length>256
     ·have h5':((ins l x).length:Int)>256 := by omega
      simp [h5,h5']
     ·have h5':¬ ((ins l x).length:Int)>256 := by omega
      simp [h5,h5']
theorem K3y (l:List Pr) (id seq off:Int) (hl:l.length≤9223372036854775806) (hf:l.length+1<fu):p100 fu (l,id,seq,off,())=some ((),((putS l (id,seq,true,off)).1,(putS l (id,seq,true,off)).2,())) := by
 unfold p100
 have := X4h (fu := fu) l (id,seq,true,off) hl hf
 simp only at this
 simp only [this,Q0a,Qd,Qt]
theorem K3z (l:List Pr) (hl:l.length≤9223372036854775806) (hf:l.length<fu):p53 fu (l,l,())=some ((),true) := by
 unfold p53
 simp only [bne_self_eq_false,Qf]
 refine Q1i (I := fun s => ∃ i:Nat,s=(((i:Int),()),())∧i≤l.length) (m := fun s=>l.length-s.1.1.toNat) (g := fun _=>((),true)) ?_ fu _ ⟨0,rfl,Nat.zero_le _⟩ (by simpa using hf)
 rintro s ⟨i,rfl,h1⟩
 by_cases hi:i<l.length
 ·left
  refine ⟨((((i+1:Nat):Int),()),()),?_,⟨i+1,rfl,hi⟩,by simp only [Int.toNat_natCast]; omega,rfl⟩
  simp only [Int.ofNat_lt,hi,Qd,Qt,Int.natCast_nonneg,true_and,Int.toNat_natCast,beq_self_eq_true,Bool.and_self,Bool.not_true,Qf,Q0i hi (by omega)]
 ·right
  obtain rfl:i=l.length := by omega
  simp [inrO]
theorem K4a (l:List Pr) (id seq:Int) (hl:l.length≤9223372036854775806) (hf:l.length+1<fu):p103 fu (l,id,seq,())=some ((),((putS l (id,seq,false,0)).1,(putS l (id,seq,false,0)).2,())) := by
 unfold p103
 have := X4h (fu := fu) l (id,seq,false,0) hl hf
 simp only at this
 simp only [this,Q0a,Qd,Qt]
end Go.Proofs.YtdkdhcakoccpfaaGreatDoor
namespace Go.Proofs.YtdkdhcakoccpfaaGreatDoor
open Go.RowKit
variable {fu:Nat}
theorem K4b (a b:List Int) (h:a.length+b.length≤140737488355328):p95 fu ((a,()),b,())=some (((a ++ b,()),(),()),b) := by
 unfold p95
 cases b with
 | nil=>simp
 | cons c b =>
  have h0:(((c :: b).length:Int)==0)=false := by simp; omega
  have h1:a.length+(c :: b).length≤maxLen∧(a.length+(c :: b).length) * 1≤140737488355328 := ⟨by unfold maxLen; omega,by omega⟩
  have h2:slice' (a ++ c :: b) a.length (some (a ++ c :: b).length)=c :: b := by
   cases a with
   | nil=>simp [slice']
   | cons x a=>simp [slice']
  have h3:a.length≤(a ++ c :: b).length∧(a ++ c :: b).length≤(a ++ c :: b).length∧(a ++ c :: b).length≤(a ++ c :: b).length∧0+(a ++ c :: b).length≤(a ++ c :: b).length := by simp
  simp only [h0,Qf,h1,and_self,Qd,Qt,Int.natCast_nonneg,Int.toNat_natCast,h3,h2]
theorem K4c (x:Rd) (r:List Int) (hd:r.length+x.2.2.1.length≤140737488355328) :
  p94 fu ((x.1,x.2.1,x.2.2.1,x.2.2.2.1,x.2.2.2.2,()),((r,()),()),())=some ((((),()),(r ++ x.2.2.1,()),(),()),(x.1,x.2.1,x.2.2.1,x.2.2.2.1,x.2.2.2.2,())) := by
 unfold p94
 simp only [K4b _ _ hd,Q0a,Qd,Qt]
def valsR (l:List Rd):List Int := l.flatMap fun x=>x.2.2.1
theorem K4d (a b:List Rd):valsR (a ++ b)=valsR a ++ valsR b := List.flatMap_append
theorem Q9q (l:List Rd) (x:Rd):valsR (l ++ [x])=valsR l ++ x.2.2.1 := by simp [valsR]
def fitsR (l:List Rd):Prop := l.length * 64≤140737488355328∧(valsR l).length≤140737488355328
theorem Q2y {α:Type} {l:List α} {i:Nat} (h:i<l.length) (d:α):l.take (i+1)=l.take i ++ [l.getD i d] := by
 rw [List.take_add_one,List.getD_eq_getElem?_getD,List.getElem?_eq_getElem h]; rfl
theorem X4i {l:List Rd} {i:Nat} (h:i<l.length):(valsR (l.take i)).length+(l.getD i (dflt T_api_Record)).2.2.1.length≤(valsR l).length := by
 have h1 := congrArg valsR (Q2y h (dflt T_api_Record))
 rw [Q9q] at h1
 have h2:valsR l=valsR (l.take (i+1)) ++ valsR (l.drop (i+1)) := by rw [← K4d,List.take_append_drop]
 rw [h2,h1]
 simp only [List.length_append]
 omega
theorem K4e (l:List Rd) (h:fitsR l) (hf:l.length<fu):p93 fu (l,((),(((([]:List Int),()),()),())),())=some ((((),()),(valsR l,()),(),()),l) := by
 unfold p93
 obtain ⟨h1,h2⟩ := h
 cases hl0:l with
 | nil=>rfl
 | cons a0 l0 =>
  rw [← hl0]
  have h0:((l.length:Int)==0)=false := by rw [hl0]; simp; omega
  have h4:(0:Int)≤(l.length:Int)∧(l.length:Int)≤(l.length:Int)∧(l.length:Int)≤9223372036854775807∧(64:Int) * (l.length:Int)≤140737488355328 := by omega
  simp only [h0,Qf,h4,and_self,Qd,Qt,Int.toNat_natCast,List.length_replicate]
  refine Q1i (I := fun s => ∃ i:Nat,s=((l.take i ++ List.replicate (l.length-i) (dflt T_api_Record),(i:Int),()),(((),()),(valsR (l.take i),()),()))∧i≤l.length)
   (m := fun s=>l.length-s.1.2.1.toNat) (g := fun _=>((((),()),(valsR l,()),(),()),l)) ?_ fu _ ⟨0,by simp only [List.take_zero,List.nil_append,Nat.sub_zero,valsR,List.flatMap_nil]; rfl,Nat.zero_le _⟩ (by simpa using hf)
  rintro s ⟨i,rfl,hi⟩
  by_cases hi':i<l.length
  ·left
   have hx := X4i hi'
   have e52 := K4c (fu := fu) (l.getD i (dflt T_api_Record)) (valsR (l.take i)) (by omega)
   have hlen:(l.take i ++ List.replicate (l.length-i) (dflt T_api_Record)).length=l.length := by simp; omega
   refine ⟨((l.take (i+1) ++ List.replicate (l.length-(i+1)) (dflt T_api_Record),((i+1:Nat):Int),()),(((),()),(valsR (l.take (i+1)),()),())),?_,⟨i+1,rfl,hi'⟩,by simp only [Int.toNat_natCast]; omega,rfl⟩
   have hs:(l.take i ++ List.replicate (l.length-i) (dflt T_api_Record)).set i (l.getD i (dflt T_api_Record))=l.take (i+1) ++ List.replicate (l.length-(i+1)) (dflt T_api_Record) := by
    have ht:(l.take i).length=i := by simp; omega
    rw [List.set_append_right _ _ (by omega),ht,Nat.sub_self,show l.length-i=(l.length-(i+1))+1 by omega,List.replicate_succ,List.set_cons_zero,Q2y hi' (dflt T_api_Record)]
    simp
   rw [Q2y hi' (dflt T_api_Record),Q9q,← Q2y hi' (dflt T_api_Record),← hs]
   simp only [Int.ofNat_lt,hi',Qd,Qt,Int.natCast_nonneg,and_self,Int.toNat_natCast,e52,Q0a,hlen,List.length_set,Q0i hi' (show l.length≤9223372036854775807 by omega)]
  ·right
   obtain rfl:i=l.length := by omega
   simp [inrO]
theorem K4f (n:Nat) (h:n≤140737488355328):p92 fu ((n:Int),())=some ((),([],())) := by
 unfold p92
 have h1:(0:Int)≤0∧(0:Int)≤(n:Int)∧(n:Int)≤9223372036854775807∧(1:Int) * (n:Int)≤140737488355328 := by omega
 simp only [h1,and_self,Qd,Qt]; rfl
theorem Q9r (l:List Rd) (h:fitsR l) (hf:l.length<fu):p70 fu (l,())=some ((),l) := by
 unfold p70
 refine Q1i (I := fun s => ∃ i:Nat,s=((((valsR (l.take i)).length:Int),(i:Int),()),())∧i≤l.length) (m := fun s=>l.length-s.1.2.1.toNat) (g := fun _=>((),l)) ?_ fu _ ⟨0,by simp [valsR],Nat.zero_le _⟩ (by simpa using hf)
 rintro s ⟨i,rfl,hi⟩
 have h1 := h.1
 have h2 := h.2
 by_cases hi':i<l.length
 ·left
  have hx := X4i hi'
  refine ⟨((((valsR (l.take (i+1))).length:Int),((i+1:Nat):Int),()),()),?_,⟨i+1,rfl,hi'⟩,by simp only [Int.toNat_natCast]; omega,rfl⟩
  have hw:IntKind.wrap .i64 (((valsR (l.take i)).length:Int)+((l.getD i (dflt T_api_Record)).2.2.1.length:Int))=((valsR (l.take (i+1))).length:Int) := by
   rw [Q2y hi' (dflt T_api_Record),Q9q,Q2k (by omega) (by omega),List.length_append]; omega
  simp only [Int.ofNat_lt,hi',Qd,Qt,Int.natCast_nonneg,and_self,Int.toNat_natCast,hw,Q0i hi' (show l.length≤9223372036854775807 by omega)]
 ·right
  obtain rfl:i=l.length := by omega
  rw [List.take_length]
  simp only [Int.lt_irrefl,decide_false,Qf,K4f (fu := fu) _ h2,Q0a,Qd,Qt,K4e l h hf,Q0f]
theorem K4g (l:List Pr) (h:l.length≤2097152):p71 fu (l,())=some ((),l) := by
 unfold p71
 cases l with
 | nil=>rfl
 | cons a l =>
  have h0:(((a :: l).length:Int)==0)=false := by simp; omega
  have h1:(0:Int)≤((a :: l).length:Int)∧((a :: l).length:Int)≤((a :: l).length:Int)∧((a :: l).length:Int)≤9223372036854775807∧(32:Int) * ((a :: l).length:Int)≤140737488355328 := by omega
  simp only [h0,Qf,h1,and_self,Qd,Qt,Int.toNat_natCast,List.length_replicate,Q9i]
theorem Q0v {l:List Rd} (h:logOk l=true):l.length≤4096 ∧ ∀ i (hi:i<l.length),l[i].1=(i:Int)∧l[i].2.1.size≤32∧l[i].2.2.1.length≤256 := by
 unfold logOk at h
 cases ha:(List.range l.length).any (wrong l) with
 | true=>rw [ha] at h; cases h
 | false =>
  rw [ha] at h
  refine ⟨by simpa using h,fun i hi => ?_⟩
  rw [List.any_eq_false] at ha
  have hw := ha i (List.mem_range.2 hi)
  unfold wrong at hw
  rw [Q0k hi] at hw
  by_cases h1:l[i].1=(i:Int)
  ·by_cases h2:l[i].2.1.size≤32
   ·refine ⟨h1,h2,?_⟩
    have g2:¬ l[i].2.1.size>32 := by omega
    simpa [h1,g2] using hw
   ·have g2:l[i].2.1.size>32 := by omega
    simp [h1,g2] at hw
  ·have g1:(l[i].1 != (i:Int))=true := by simpa using h1
   simp [g1] at hw
theorem X4j {l:List Rd} (h:∀ x ∈ l,x.2.2.1.length≤256):(valsR l).length≤l.length * 256 := by
 induction l with
 | nil=>simp [valsR]
 | cons x l ih =>
  have h1 := h x (List.mem_cons_self ..)
  have h2 := ih fun y hy=>h y (List.mem_cons_of_mem _ hy)
  have e:(valsR (x :: l)).length=x.2.2.1.length+(valsR l).length := by simp [valsR]
  rw [e,List.length_cons]
  omega
theorem X4k {l:List Rd} (h:logOk l=true):fitsR l := by
 obtain ⟨h1,h2⟩ := Q0v h
 have h3 := X4j (l := l) fun x hx=>by
  obtain ⟨i,hi,rfl⟩ := List.getElem_of_mem hx
  exact (h2 i hi).2.2
 exact ⟨by omega,by omega⟩
theorem K4h {l m:List Rd} (h:logOk l=true) (hm:∀ x ∈ m,x ∈ l) (hn:m.length≤4096):fitsR m := by
 obtain ⟨h1,h2⟩ := Q0v h
 have h3 := X4j (l := m) fun x hx=>by
  obtain ⟨i,hi,rfl⟩ := List.getElem_of_mem (hm x hx)
  exact (h2 i hi).2.2
 exact ⟨by omega,by omega⟩
theorem K4i (l:List Rd) (x:Rd) (hl:logOk l=true) (hk:x.2.1.size≤32) (hv:x.2.2.1.length≤256) (hf:4194304<fu) :
  p99 fu (l,(x.1,x.2.1,x.2.2.1,x.2.2.2.1,x.2.2.2.2,()),())=some ((),if l.length<4096 then (l ++ [numR l x],(l.length:Int),0,()) else ([],0,143,())) := by
 have hn := (Q0v hl).1
 have g1:¬ x.2.1.size>32 := by omega
 have g2:¬ x.2.2.1.length>256 := by omega
 unfold p99
 simp only [Q9l l (by omega) hf,Q0a,hl,Bool.not_true,Qf,X3r,g1,g2,decide_false,show ((0:Int) != 0)=false from rfl]
 by_cases h:l.length<4096
 ·have h':¬ (l.length:Int)≥4096 := by omega
  simp only [h,h',if_true,decide_false,Qf,Q9r l (X4k hl) (show l.length<fu by omega),Q0a,Qd,Qt,K3s l x (by omega) (by omega),Q1b (x := (l.length:Int)) (by omega) (by omega)]
 ·have h':(l.length:Int)≥4096 := by omega
  simp only [h,h',if_false,Qd,Qt]
theorem X4l {α:Type} (l:List α) (n:Nat):slice' l n none=l.drop n := by
 cases n with
 | zero=>rfl
 | succ n=>rfl
theorem K4j (l:List Rd) (c f:Int) (hl:logOk l=true) (h0:0≤c) (hf:4194304<fu) :
  p101 fu (l,c,f,())=some ((),if c≤(l.length:Int) then ((l.drop c.toNat).take (min (min f.toNat 64) (l.length-c.toNat)),0,()) else ([],141,())) := by
 have hn := (Q0v hl).1
 unfold p101
 simp only [Q9l l (by omega) hf,Q0a,hl,Bool.not_true,Qf,Q1b (x := (l.length:Int)) (by omega) (by omega)]
 by_cases h:c≤(l.length:Int)
 ·have h1:¬ c>(l.length:Int) := by omega
  have h2:c.toNat≤l.length := by omega
  have hs:(slice' l c.toNat none).length=l.length-c.toNat := by rw [X4l]; simp
  have hz:(if ((l.length-c.toNat:Nat):Int)<(if (64:Int)<(if (0:Int)>f then (0:Int) else f) then (64:Int) else (if (0:Int)>f then (0:Int) else f)) then ((l.length-c.toNat:Nat):Int) else (if (64:Int)<(if (0:Int)>f then (0:Int) else f) then (64:Int) else (if (0:Int)>f then (0:Int) else f)))=((min (min f.toNat 64) (l.length-c.toNat):Nat):Int) := by
   split <;> split <;> (try split) <;> (try split) <;> omega
  simp only [hs]
  simp only [h,h1,h0,h2,if_true,Qd,decide_false,Qt,Qf,hz,Int.natCast_nonneg,Int.toNat_natCast,Nat.zero_le,true_and,Nat.min_le_right]
  rw [X4l,Q9r _ (K4h hl (fun x hx=>List.drop_subset _ _ (List.take_subset _ _ hx)) (by simp; omega)) (by simp; omega)]
  simp only [Q0a]
 ·have h1:c>(l.length:Int) := by omega
  simp only [h,h1,if_false,Qd,Qt]
def AtP (l:List Pr) (c:Int) (n:Nat):Prop := n≤l.length∧(∀ k (h:k<l.length),k<n→l[k].1<c) ∧ ∀ k (h:k<l.length),n≤k → ¬ l[k].1<c
theorem X4m (c:Int):∀ l:List Pr,SP l → ∃ n,AtP l c n
 | [],_=>⟨0,Nat.le_refl _,fun k h=>absurd h (Nat.not_lt_zero _),fun k h=>absurd h (Nat.not_lt_zero _)⟩
 | x :: l,hr=>by
  obtain ⟨hx,hr'⟩ := List.pairwise_cons.1 hr
  by_cases h:x.1<c
  ·obtain ⟨n,h1,h2,h3⟩ := X4m c l hr'
   refine ⟨n+1,Nat.succ_le_succ h1,fun k hk hn => ?_,fun k hk hn => ?_⟩
   ·cases k with
    | zero=>exact h
    | succ k=>exact h2 k (Nat.lt_of_succ_lt_succ hk) (by omega)
   ·cases k with
    | zero=>omega
    | succ k=>exact h3 k (Nat.lt_of_succ_lt_succ hk) (by omega)
  ·refine ⟨0,Nat.zero_le _,fun k hk hn=>absurd hn (Nat.not_lt_zero _),fun k hk _ => ?_⟩
   cases k with
   | zero=>exact h
   | succ k =>
    have := hx _ (List.getElem_mem (Nat.lt_of_succ_lt_succ hk))
    simp only [List.getElem_cons_succ]
    omega
theorem X4n (x:Pr) (c:Int):p63 fu ((x.1,x.2.1,x.2.2.1,x.2.2.2,()),c,())=some ((),cmpZ x.1 c) := by
 unfold p63
 simp only [X3x,Q0a]
theorem K4k (l:List Pr) (c:Int) (n:Nat) (hl:l.length≤2097152) (hf:4194304<fu) (ha:AtP l c n) :
  p62 fu (l,c,((),()),())=some ((),(n:Int),(if h:n<l.length then decide (l[n].1=c) else false),()) := by
 obtain ⟨hn,ha1,ha2⟩ := ha
 unfold p62
 refine Q9h (I := fun s => ∃ h i:Nat,s=(((h:Int),(i:Int),()),())∧h≤n∧n≤i∧i≤l.length) (m := fun s=>Int.toNat s.1.2.1-Int.toNat s.1.1) ⟨0,l.length,rfl,Nat.zero_le _,hn,Nat.le_refl _⟩ (by simp only [Int.toNat_natCast]; omega) fun s hs => ?_
 obtain ⟨h,i,rfl,h1,h2,h3⟩ := hs
 by_cases hlt:h<i
 ·have hm:(h+i) / 2<l.length := by omega
  have hg:∀ d,l.getD ((h+i) / 2) d=l[(h+i) / 2] := fun d=>Q0k hm
  simp only [X3i (lo := h) (hi := i) (by omega),Int.ofNat_lt,hlt,Int.natCast_nonneg,hm,Qd,Qt,and_self,Int.toNat_natCast,hg,X4n,Q0a,X4c]
  by_cases hc:l[(h+i) / 2].1<c
  ·simp only [hc,Qd,Qt,Q0i hm (by omega)]
   refine ⟨_,rfl,⟨_,_,rfl,?_,h2,h3⟩,by simp only [Int.toNat_natCast]; omega⟩
   rcases Nat.lt_or_ge ((h+i) / 2) n with g | g
   ·exact g
   ·exact absurd hc (ha2 _ hm g)
  ·simp only [hc,decide_false,Qf]
   refine ⟨_,rfl,⟨_,_,rfl,h1,?_,by omega⟩,by simp only [Int.toNat_natCast]; omega⟩
   rcases Nat.lt_or_ge ((h+i) / 2) n with g | g
   ·exact absurd (ha1 _ hm g) hc
   ·exact g
 ·obtain rfl:h=n := by omega
  simp only [Int.ofNat_lt,hlt,decide_false,Qf]
  by_cases hm:h<l.length
  ·have hg:∀ d,l.getD h d=l[h] := fun d=>Q0k hm
   simp only [hm,Int.natCast_nonneg,Qd,Qt,and_self,Int.toNat_natCast,hg,X4n,Q0a,dite_true]
   refine ⟨_,rfl,?_⟩
   have:(cmpZ l[h].1 c==0)=decide (l[h].1=c) := by
    have h5 := ha2 _ hm (Nat.le_refl _)
    unfold cmpZ
    by_cases hx:l[h].1>c
    ·have:¬ l[h].1=c := by omega
     simp [h5,hx,this]
    ·have:l[h].1=c := by omega
     simp [this]
   rw [this]
  ·simp only [hm,decide_false,Qf,dite_false]
   exact ⟨_,rfl,rfl⟩
theorem K4l (l:List Pr) (c:Int) (hl:l.length≤2097152) (hf:4194304<fu) (hs:SP l) :
  ∃ n:Nat,p62 fu (l,c,((),()),())=some ((),(n:Int),decide (findI l c<l.length),())∧(findI l c<l.length→n=findI l c) := by
 obtain ⟨n,hn⟩ := X4m c l hs
 have key:(if h:n<l.length then decide (l[n].1=c) else false)=decide (findI l c<l.length)∧(findI l c<l.length→n=findI l c) := by
  by_cases hk:findI l c<l.length
  ·have e1:l[findI l c].1=c := by
    have hw:findI l c<l.length := hk
    have := List.findIdx_getElem (w := hw)
    have h2:l[List.findIdx (fun x=>x.1==c) l].1=c := by simpa using this
    exact h2
   have e2:n=findI l c := by
    rcases Nat.lt_trichotomy n (findI l c) with g | g | g
    ·have hnl:n<l.length := by omega
     have h1 := hn.2.2 n hnl (Nat.le_refl _)
     have h2 := List.pairwise_iff_getElem.1 hs n (findI l c) hnl hk g
     omega
    ·exact g
    ·have := hn.2.1 _ hk g
     omega
   subst e2
   simp [hk,e1]
  ·have hne:∀ h:n<l.length,¬ l[n].1=c := fun h e=>by
    have := Q9m l c
    have h1:findI l c≤n := by
     rcases Nat.lt_or_ge n (findI l c) with g | g
     ·have := List.not_of_lt_findIdx g
      rw [e] at this
      simp at this
     ·exact g
    omega
   refine ⟨?_,fun h=>absurd h hk⟩
   by_cases h:n<l.length
   ·simp [h,hne h,hk]
   ·simp [h,hk]
 refine ⟨n,?_,key.2⟩
 rw [K4k l c n hl hf hn,key.1]
end Go.Proofs.YtdkdhcakoccpfaaGreatDoor
namespace Go.Proofs.YtdkdhcakoccpfaaGreatDoor
open Go.RowKit
variable {fu:Nat}
def noPr:Pr := (0,0,false,0)
def lastS (rs:List Rd) (id:Int):Int := rs.foldl (fun a x=>if x.2.2.2.1=id then x.2.2.2.2 else a) 0
theorem X4o (rs:List Rd) (x:Rd) (id:Int):lastS (rs ++ [x]) id=if x.2.2.2.1=id then x.2.2.2.2 else lastS rs id := by
 unfold lastS
 rw [List.foldl_append]
 rfl
def recOk1 (lo hi:ByteArray) (ps:List Pr) (before:List Rd) (x:Rd):Bool :=
 decide (findI ps x.2.2.2.1<ps.length) && (hasB lo hi x.2.1 && (decide (lastS before x.2.2.2.1<x.2.2.2.2) && decide (x.2.2.2.2≤(ps.getD (findI ps x.2.2.2.1) noPr).2.1)))
def recOk (lo hi:ByteArray) (ps:List Pr) (l:List Rd) (j:Nat):Bool := recOk1 lo hi ps (l.take j) (l.getD j noRec)
def lastL (ps:List Pr) (l:List Rd) (i:Nat):List Int := ps.map fun y=>lastS (l.take i) y.1
theorem Q7d {ps:List Pr} {id:Int} (hk:findI ps id<ps.length):(ps[findI ps id]).1=id := by
 have hw:findI ps id<ps.length := hk
 have := List.findIdx_getElem (w := hw)
 have h2:ps[List.findIdx (fun x=>x.1==id) ps].1=id := by simpa using this
 exact h2
theorem K4m {ps:List Pr} (hs:SP ps) {i j:Nat} (hi:i<ps.length) (hj:j<ps.length) (h:ps[i].1=ps[j].1):i=j := by
 rcases Nat.lt_trichotomy i j with g | g | g
 ·have := List.pairwise_iff_getElem.1 hs i j hi hj g; omega
 ·exact g
 ·have := List.pairwise_iff_getElem.1 hs j i hj hi g; omega
theorem K4n {ps:List Pr} (hs:SP ps) {id s:Int} (F:Int→Int) (hk:findI ps id<ps.length) :
  (ps.map fun y=>F y.1).set (findI ps id) s=ps.map fun y=>if id=y.1 then s else F y.1 := by
 apply List.ext_getElem
 ·simp
 ·intro j h1 h2
  have hj:j<ps.length := by simpa using h2
  rw [List.getElem_set,List.getElem_map,List.getElem_map]
  by_cases e:findI ps id=j
  ·subst e
   simp [Q7d hk]
  ·have:¬ id=ps[j].1 := fun g=>e (K4m hs hk hj ((Q7d hk).trans g))
   simp [e,this]
theorem X4p {ps:List Pr} {l:List Rd} {i:Nat} {id:Int} (hk:findI ps id<ps.length) (d:Int):(lastL ps l i).getD (findI ps id) d=lastS (l.take i) id := by
 have hlen:findI ps id<(ps.map fun y=>lastS (l.take i) y.1).length := by simpa using hk
 show (ps.map fun y=>lastS (l.take i) y.1).getD _ d=_
 rw [Q0k hlen,List.getElem_map,Q7d hk]
theorem X4q {ps:List Pr} {l:List Rd} {i:Nat} (hs:SP ps) (hi:i<l.length) (hk:findI ps l[i].2.2.2.1<ps.length) :
  (lastL ps l i).set (findI ps l[i].2.2.2.1) l[i].2.2.2.2=lastL ps l (i+1) := by
 unfold lastL
 rw [K4n hs (fun id=>lastS (l.take i) id) hk]
 apply List.map_congr_left
 intro y _
 rw [Q2y hi noRec,Q0k hi,X4o]
theorem K4o (lo up:ByteArray) (e z:Int) (l:List Rd) (ps:List Pr) (cs:List Cn) (hl:l.length≤2097152) (hp:ps.length≤2097152) (hs:SP ps) (hf:4194304<fu) :
  p21 fu ((lo,up,e,z,l,ps,cs,()),())=some ((),(List.range l.length).all (recOk lo up ps l)) := by
 unfold p21
 have h1:(0:Int)≤(ps.length:Int)∧(ps.length:Int)≤(ps.length:Int)∧(ps.length:Int)≤9223372036854775807∧(8:Int) * (ps.length:Int)≤140737488355328 := by omega
 simp only [h1,and_self,Qd,Qt,Int.toNat_natCast,List.length_replicate]
 have e0:((List.replicate ps.length (0:Int),(0:Int),()),())=(fun i:Nat=>((lastL ps l i,(i:Int),()),())) 0 := by
  simp only [lastL,List.take_zero,lastS,List.foldl_nil,List.map_const']
  rfl
 rw [e0]
 refine Q0z (List.range l.length) (fun i:Nat=>((lastL ps l i,(i:Int),()),())) (fun j => !recOk lo up ps l j) ((),false) ((),true) (by simp; omega) (fun i h => ?_) ?_ ?_
 ·have hi:i<l.length := by simpa using h
  have hll:(lastL ps l i).length=ps.length := by simp [lastL]
  obtain ⟨n,e1,e2⟩ := K4l (fu := fu) ps l[i].2.2.2.1 hp hf hs
  have hg:∀ d,l.getD i d=l[i] := fun d=>Q0k hi
  simp only [Int.ofNat_lt,hi,Qd,Qt,Int.natCast_nonneg,true_and,Int.toNat_natCast,hg,e1,Q0a,List.getElem_range,X3u,recOk,recOk1]
  by_cases hk:findI ps l[i].2.2.2.1<ps.length
  ·obtain rfl := e2 hk
   have hgp:∀ d,ps.getD (findI ps l[i].2.2.2.1) d=ps[findI ps l[i].2.2.2.1] := fun d=>Q0k hk
   simp only [hk,Qd,Bool.not_true,Qf,Bool.true_and]
   cases hh:hasB lo up l[i].2.1 with
   | false=>simp only [Bool.not_false,Qt,Bool.false_and,Q0f]
   | true =>
    simp only [Bool.not_true,Qf,Bool.true_and,hll,hk,Qd,Qt,X4p hk,hgp,List.length_set]
    by_cases h3:lastS (l.take i) l[i].2.2.2.1<l[i].2.2.2.2
    ·have h3':¬ l[i].2.2.2.2≤lastS (l.take i) l[i].2.2.2.1 := by omega
     by_cases h4:l[i].2.2.2.2≤(ps[findI ps l[i].2.2.2.1]).2.1
     ·have h4':¬ l[i].2.2.2.2>(ps[findI ps l[i].2.2.2.1]).2.1 := by omega
      simp only [h3,h3',h4,h4',Qd,decide_false,Qf,Bool.and_self,Bool.not_true,X4q hs hi hk,Q0i hi (by omega)]
     ·have h4':l[i].2.2.2.2>(ps[findI ps l[i].2.2.2.1]).2.1 := by omega
      simp only [h3,h3',h4,h4',Qd,decide_false,Qf,Qt,Bool.and_false,Bool.not_false,Q0f]
    ·have h3':l[i].2.2.2.2≤lastS (l.take i) l[i].2.2.2.1 := by omega
     simp only [h3,h3',Qd,decide_false,Qt,Bool.false_and,Bool.not_false,Q0f]
  ·simp only [hk,decide_false,Bool.not_false,Qt,Bool.false_and,Q0f]
 ·simp only [List.length_range,Int.lt_irrefl,decide_false,Qf,Q0f]
 ·rw [← List.not_all_eq_any_not]
  cases (List.range l.length).all (recOk lo up ps l) <;> rfl
def proOk (l:List Rd) (y:Pr):Bool := !y.2.2.1||(decide (y.2.2.2<(l.length:Int)) && ((l.getD y.2.2.2.toNat noRec).2.2.2.1==y.1 && (l.getD y.2.2.2.toNat noRec).2.2.2.2==y.2.1))
theorem K4p (lo up:ByteArray) (e z:Int) (l:List Rd) (ps:List Pr) (cs:List Cn) (hl:l.length≤2097152) (hp:ps.length≤2097152) (h0:∀ y ∈ ps,0≤y.2.2.2) (hf:4194304<fu) :
  p22 fu ((lo,up,e,z,l,ps,cs,()),())=some ((),ps.all (proOk l)) := by
 unfold p22
 refine Q0z ps (fun i:Nat=>(((i:Int),()),())) (fun y => !proOk l y) ((),false) ((),true) (by omega) (fun i hi => ?_) ?_ ?_
 ·have hg:∀ d,ps.getD i d=ps[i] := fun d=>Q0k hi
  have hz := h0 _ (List.getElem_mem hi)
  simp only [Int.ofNat_lt,hi,Qd,Qt,Int.natCast_nonneg,true_and,Int.toNat_natCast,hg,proOk,Q1b (x := (l.length:Int)) (by omega) (by omega)]
  cases hh:ps[i].2.2.1 with
  | false=>simp only [Bool.not_false,Qt,Bool.true_or,Bool.not_true,Qf,Q0i hi (by omega)]
  | true =>
   simp only [Bool.not_true,Qf,Bool.false_or]
   by_cases h3:ps[i].2.2.2<(l.length:Int)
   ·have h3':¬ ps[i].2.2.2≥(l.length:Int) := by omega
    have h3n:ps[i].2.2.2.toNat<l.length := by omega
    have hgl:∀ d,l.getD ps[i].2.2.2.toNat d=l[ps[i].2.2.2.toNat] := fun d=>Q0k h3n
    simp only [h3,h3',h3n,hz,and_self,Qd,decide_false,Qt,Qf,hgl,Bool.true_and]
    cases h4:(l[ps[i].2.2.2.toNat].2.2.2.1==ps[i].1) with
    | false=>simp only [bne,h4,Bool.not_false,Qt,Bool.false_and,Q0f]
    | true =>
     simp only [bne,h4,Bool.not_true,Qf,Bool.true_and]
     cases h5:(l[ps[i].2.2.2.toNat].2.2.2.2==ps[i].2.1) with
     | false=>simp only [Bool.not_false,Qt,Q0f]
     | true=>simp only [Bool.not_true,Qf,Q0i hi (by omega)]
   ·have h3':ps[i].2.2.2≥(l.length:Int) := by omega
    simp only [h3,h3',Qd,decide_false,Qt,Bool.false_and,Bool.not_false,Q0f]
 ·simp only [Int.lt_irrefl,decide_false,Qf,Q0f]
 ·rw [← List.not_all_eq_any_not]
  cases ps.all (proOk l) <;> rfl
def conOk (l:List Rd) (y:Cn):Bool := decide (y.2≤(l.length:Int))
theorem K4q (lo up:ByteArray) (e z:Int) (l:List Rd) (ps:List Pr) (cs:List Cn) (hl:l.length≤2097152) (hp:cs.length≤2097152) (hf:4194304<fu) :
  p23 fu ((lo,up,e,z,l,ps,cs,()),())=some ((),cs.all (conOk l)) := by
 unfold p23
 refine Q0z cs (fun i:Nat=>(((i:Int),()),())) (fun y => !conOk l y) ((),false) ((),true) (by omega) (fun i hi => ?_) ?_ ?_
 ·have hg:∀ d,cs.getD i d=cs[i] := fun d=>Q0k hi
  simp only [Int.ofNat_lt,hi,Qd,Qt,Int.natCast_nonneg,true_and,Int.toNat_natCast,hg,conOk,Q1b (x := (l.length:Int)) (by omega) (by omega)]
  by_cases h3:cs[i].2≤(l.length:Int)
  ·have h3':¬ cs[i].2>(l.length:Int) := by omega
   simp only [h3,h3',Qd,decide_false,Qf,Bool.not_true,Q0i hi (by omega)]
  ·have h3':cs[i].2>(l.length:Int) := by omega
   simp only [h3,h3',Qd,decide_false,Qt,Bool.not_false,Q0f]
 ·simp only [Int.lt_irrefl,decide_false,Qf,Q0f]
 ·rw [← List.not_all_eq_any_not]
  cases cs.all (conOk l) <;> rfl
abbrev St16 := ByteArray×ByteArray×Int×Int×List Rd×List Pr×List Cn×Unit
def chkS:St16→Bool
 | (lo,hi,e,_,l,ps,cs,_)=>(chkB lo hi==0) && ((e != 0) && (logOk l && (tabI ps && (okC cs && ((List.range l.length).all (recOk lo hi ps l) && (ps.all (proOk l) && cs.all (conOk l)))))))
def bndS:St16→Prop
 | (_,_,_,_,l,ps,cs,_)=>l.length≤2097152∧ps.length≤2097152∧okL cs ∧ ∀ y ∈ ps,0≤y.2.2.2
theorem Q7e (p:St16) (hb:bndS p) (hf:4194304<fu):p5 fu (p,())=some ((),bif chkS p then 0 else 165) := by
 obtain ⟨lo,hi,e,z,l,ps,cs,⟨⟩⟩ := p
 obtain ⟨h1,h2,h3,h4⟩ := hb
 unfold p5
 simp only [X3t,Q0a,Q9l l (by omega) hf,X4d ps (by omega) (show ps.length<fu by omega),X3f cs h3 hf,K4p lo hi e z l ps cs h1 h2 h4 hf,K4q lo hi e z l ps cs h1 h3.1 hf,chkS]
 cases (chkB lo hi==0)
 ·rfl
 cases (e != 0)
 ·rfl
 cases logOk l
 ·rfl
 cases ht:tabI ps
 ·rfl
 simp only [K4o lo hi e z l ps cs h1 h2 ((Q2l ps).1 ht).2.1 hf,Q0a]
 cases okC cs
 ·rfl
 cases (List.range l.length).all (recOk lo hi ps l)
 ·rfl
 cases ps.all (proOk l)
 ·rfl
 cases cs.all (conOk l) <;> rfl
end Go.Proofs.YtdkdhcakoccpfaaGreatDoor
namespace Go.Proofs.YtdkdhcakoccpfaaGreatDoor
open Go.RowKit
variable {fu:Nat}
abbrev Cm16 := Int×Int×Int×Int×ByteArray×List Int×Int×Int×ByteArray×Int×Unit
abbrev Rs16 := Int×Int×Bool×List Rd×Unit
def wfS:Cm16→Bool
 | (k,_,pr,sq,key,v,_,most,name,plan,_) =>
  if k=1 then ((judge [] pr sq).1 != 4) && (decide (key.size≤32) && decide (v.length≤256))
  else if k=2 then decide (1≤most) && decide (most≤64)
  else if k=3 then ((judge [] pr sq).1 != 4) && nameB name
  else if k=4 then nameB name
  else if k=5 then plan != 0
  else if k=6 then plan != 0
  else false
theorem K4r (k ep pr sq:Int) (key:ByteArray) (v:List Int) (off most:Int) (name:ByteArray) (plan:Int) (hf:4194304<fu) :
  p96 fu ((k,ep,pr,sq,key,v,off,most,name,plan,()),())=some ((),(judge [] pr sq).1 != 4) := by
 unfold p96
 simp only [Q9o [] pr sq (by simp) (show ([]:List Pr).length<fu by simp only [List.length_nil]; omega),Q0a]
theorem Q1z (k ep pr sq:Int) (key:ByteArray) (v:List Int) (off most:Int) (name:ByteArray) (plan:Int) (hn:name.size≤1048576) (hf:4194304<fu) :
  p73 fu ((k,ep,pr,sq,key,v,off,most,name,plan,()),())=some ((),wfS (k,ep,pr,sq,key,v,off,most,name,plan,())) := by
 unfold p73 wfS
 simp only [K4r _ _ _ _ _ _ _ _ _ _ hf,Q9g name hn (show name.size<fu by omega),Q0a]
 by_cases h1:k=1
 ·subst h1
  have e1:decide ((ByteArray.size key:Int)≤32)=decide (key.size≤32) := by rw [decide_eq_decide]; omega
  have e2:decide ((List.length v:Int)≤256)=decide (v.length≤256) := by rw [decide_eq_decide]; omega
  simp only [beq_self_eq_true,Qt,if_true,e1,e2]
  cases ((judge [] pr sq).1 != 4)
  ·rfl
  cases decide (key.size≤32) <;> rfl
 have b1:(k==1)=false := by simpa using h1
 simp only [b1,h1,Qf,if_false]
 by_cases h2:k=2
 ·subst h2
  simp only [beq_self_eq_true,Qt,if_true]
  by_cases g:most≥1
  ·have g':1≤most := g
   simp only [g,Qd,Qt,Bool.true_and]
   rfl
  ·have g':¬ 1≤most := g
   simp only [g,decide_false,Qf,Bool.false_and]
   rfl
 have b2:(k==2)=false := by simpa using h2
 simp only [b2,h2,Qf,if_false]
 by_cases h3:k=3
 ·subst h3
  simp only [beq_self_eq_true,Qt,if_true]
  cases ((judge [] pr sq).1 != 4) <;> rfl
 have b3:(k==3)=false := by simpa using h3
 simp only [b3,h3,Qf,if_false]
 by_cases h4:k=4
 ·subst h4
  simp only [beq_self_eq_true,Qt,if_true]
  rfl
 have b4:(k==4)=false := by simpa using h4
 simp only [b4,h4,Qf,if_false]
 by_cases h5:k=5
 ·subst h5
  simp only [beq_self_eq_true,Qt,if_true]
  rfl
 have b5:(k==5)=false := by simpa using h5
 simp only [b5,h5,Qf,if_false]
 by_cases h6:k=6
 ·subst h6
  simp only [beq_self_eq_true,Qt,if_true]
  rfl
 have b6:(k==6)=false := by simpa using h6
 simp only [b6,h6,Qf,if_false]
 rfl
theorem Q9s {c:Cm16} (h:wfS c=true):c.1=1 ∨ c.1=2 ∨ c.1=3 ∨ c.1=4 ∨ c.1=5 ∨ c.1=6 := by
 obtain ⟨k,ep,pr,sq,key,v,off,most,name,plan,⟨⟩⟩ := c
 unfold wfS at h
 by_cases h1:k=1
 ·exact .inl h1
 by_cases h2:k=2
 ·exact .inr (.inl h2)
 by_cases h3:k=3
 ·exact .inr (.inr (.inl h3))
 by_cases h4:k=4
 ·exact .inr (.inr (.inr (.inl h4)))
 by_cases h5:k=5
 ·exact .inr (.inr (.inr (.inr (.inl h5))))
 by_cases h6:k=6
 ·exact .inr (.inr (.inr (.inr (.inr h6))))
 simp [h1,h2,h3,h4,h5,h6] at h
def mayS:St16→Cm16→Option (Int ⊕ (Int×Bool))
 | (lo,up,_,z,_,ps,_,_),(k,_,pr,sq,key,_,_,_,_,plan,_) =>
  let fz:Option (Int ⊕ (Int×Bool)) := if z=0 then none else some (.inl 164)
  let nw:Option (Int ⊕ (Int×Bool)) := if (judge ps pr sq).1=1 then fz else if k=3 then some (.inr (0,true)) else if (judge ps pr sq).1=2 then some (.inr ((judge ps pr sq).2,true)) else some (.inl 152)
  if k=1 then (if hasB lo up key=true then nw else some (.inl 163))
  else if k=3 then nw
  else if k=2 then fz
  else if k=4 then fz
  else if z=0 then none else if z=plan then none else some (.inl 164)
def mForm (s:ByteArray):Option (Int ⊕ (Int×Bool))→Bool×(ByteArray×Int×Unit)×(Bool×Unit×Unit)
 | none=>(false,dflt (.pair .str (.pair (.int .i64) .unit)),(true,(),()))
 | some (.inl e)=>(true,(s,e,()),dflt (.pair .bool (.pair .unit .unit)))
 | some (.inr _)=>(false,dflt (.pair .str (.pair (.int .i64) .unit)),(false,(),()))
def mRes:Option (Int ⊕ (Int×Bool))→Int×Bool
 | some (.inr r)=>r
 | _=>(0,false)
theorem K4s (lo up:ByteArray) (e z:Int) (l:List Rd) (ps:List Pr) (cs:List Cn) (k ep pr sq:Int) (key:ByteArray) (v:List Int) (off most:Int) (name:ByteArray) (plan:Int) :
  p97_1 fu ((lo,up,e,z,l,ps,cs,k,ep,pr,sq,key,v,off,most,name,plan,0,0,false,(),()),())=some (((lo,up,e,z,l,ps,cs,k,ep,pr,sq,key,v,off,most,name,plan,0,0,false,(),()),(),(),(),()),if hasB lo up key=true then (false,dflt (.pair .str (.pair (.int .i64) .unit)),()) else (true,(⟨#[97,32,107,101,121,32,111,102,32,97,110,111,116,104,101,114,32,114,97,110,103,101]⟩,163,()),())) := by
 unfold p97_1
 simp only [X3u,Q0a,Qd,Qt]
 cases hasB lo up key <;> rfl
def nwS (ps:List Pr) (k pr sq:Int):Option (Int ⊕ (Int×Bool)) := if (judge ps pr sq).1=1 then none else if k=3 then some (.inr (0,true)) else if (judge ps pr sq).1=2 then some (.inr ((judge ps pr sq).2,true)) else some (.inl 152)
def nForm:Option (Int ⊕ (Int×Bool))→Bool×Unit×Bool×Unit×ByteArray×Int×Unit
 | none=>(true,(),dflt (.pair .bool (.pair .unit (.pair .str (.pair (.int .i64) .unit)))))
 | some (.inr _)=>(false,(),(true,(),dflt (.pair .str (.pair (.int .i64) .unit))))
 | some (.inl e)=>(false,(),(false,(),(⟨#[97,32,110,117,109,98,101,114,32,116,104,97,116,32,119,101,110,116,32,98,121]⟩,e,())))
theorem X4r (lo up:ByteArray) (e z:Int) (l:List Rd) (ps:List Pr) (cs:List Cn) (k ep pr sq:Int) (key:ByteArray) (v:List Int) (off most:Int) (name:ByteArray) (plan:Int) (hp:ps.length≤2097152) (hf:4194304<fu) :
  p98 fu ((lo,up,e,z,l,ps,cs,k,ep,pr,sq,key,v,off,most,name,plan,0,0,false,(),()),())=some (((lo,up,e,z,l,ps,cs,k,ep,pr,sq,key,v,off,most,name,plan,0,(mRes (nwS ps k pr sq)).1,(mRes (nwS ps k pr sq)).2,(),()),(),(),(),()),nForm (nwS ps k pr sq)) := by
 unfold p98 nwS
 simp only [Q9o (fu := fu) ps pr sq (by omega) (by omega),Q0a,Qd,Qt]
 by_cases j1:(judge ps pr sq).1=1
 ·have b1:((judge ps pr sq).1==1)=true := by simpa using j1
  simp only [if_pos j1,b1,Qt,mRes,nForm]
 have b1:((judge ps pr sq).1==1)=false := by simpa using j1
 simp only [if_neg j1,b1,Qf]
 by_cases k3:k=3
 ·have b3:(k==3)=true := by simpa using k3
  simp only [if_pos k3,b3,Qt,mRes,nForm]
 have b3:(k==3)=false := by simpa using k3
 simp only [if_neg k3,b3,Qf]
 by_cases j2:(judge ps pr sq).1=2
 ·have b2:((judge ps pr sq).1==2)=true := by simpa using j2
  simp only [if_pos j2,b2,Qt,mRes,nForm]
 have b2:((judge ps pr sq).1==2)=false := by simpa using j2
 simp only [if_neg j2,b2,Qf,mRes,nForm]
 rfl
theorem Q0y (lo up:ByteArray) (e z:Int) (l:List Rd) (ps:List Pr) (cs:List Cn) (k ep pr sq:Int) (key:ByteArray) (v:List Int) (off most:Int) (name:ByteArray) (plan:Int) :
  mayS (lo,up,e,z,l,ps,cs,()) (k,ep,pr,sq,key,v,off,most,name,plan,()) =
   if k=1 then (if hasB lo up key=true then ((nwS ps k pr sq).or (if z=0 then none else some (.inl 164))) else some (.inl 163))
   else if k=3 then ((nwS ps k pr sq).or (if z=0 then none else some (.inl 164)))
   else if k=2 then (if z=0 then none else some (.inl 164))
   else if k=4 then (if z=0 then none else some (.inl 164))
   else if z=0 then none else if z=plan then none else some (.inl 164) := by
 unfold mayS nwS
 by_cases k3:k=3 <;> by_cases j1:(judge ps pr sq).1=1 <;> by_cases j2:(judge ps pr sq).1=2 <;> simp only [k3,j1,j2,if_true,if_false,Option.none_or,Option.some_or] <;> rfl
theorem K4t (lo up:ByteArray) (e z:Int) (l:List Rd) (ps:List Pr) (cs:List Cn) (ep pr sq:Int) (key:ByteArray) (v:List Int) (off most:Int) (name:ByteArray) (plan:Int) (hp:ps.length≤2097152) (hf:4194304<fu) :
  ∃ s,p75 fu ((lo,up,e,z,l,ps,cs,1,ep,pr,sq,key,v,off,most,name,plan,0,0,false,(),()),())=some (((lo,up,e,z,l,ps,cs,1,ep,pr,sq,key,v,off,most,name,plan,0,(mRes (mayS (lo,up,e,z,l,ps,cs,()) (1,ep,pr,sq,key,v,off,most,name,plan,()))).1,(mRes (mayS (lo,up,e,z,l,ps,cs,()) (1,ep,pr,sq,key,v,off,most,name,plan,()))).2,(),()),(),(),(),()),mForm s (mayS (lo,up,e,z,l,ps,cs,()) (1,ep,pr,sq,key,v,off,most,name,plan,()))) := by
 rw [Q0y]
 unfold p75 p74
 simp only [Int.reduceBEq,Int.reduceEq,beq_self_eq_true,Qt,Qf,if_true,if_false,Qd,Q0a,Q0e,Q0f,K4s]
 by_cases hh:hasB lo up key=true
 ·simp only [if_pos hh,Qf,Q0e,Q0a,X4r _ _ _ _ _ _ _ _ _ _ _ _ _ _ _ _ _ hp hf]
  cases hn:nwS ps 1 pr sq with
  | some r =>
   cases r with
   | inl e=>exact ⟨_,rfl⟩
   | inr r=>exact ⟨⟨#[]⟩,rfl⟩
  | none =>
   by_cases h0:z=0
   ·have b0:(z != 0)=false := by simp [h0]
    simp only [if_pos h0,Option.none_or,nForm,mRes,Qt,Q0e,Q1y,b0,Qf]
    exact ⟨⟨#[]⟩,rfl⟩
   ·have b0:(z != 0)=true := by simpa using h0
    simp only [if_neg h0,Option.none_or,nForm,mRes,Qt,Q0e,Q1y,b0]
    exact ⟨_,rfl⟩
 ·simp only [if_neg hh,Qt,Q1y]
  exact ⟨_,rfl⟩
theorem K4u (lo up:ByteArray) (e z:Int) (l:List Rd) (ps:List Pr) (cs:List Cn) (ep pr sq:Int) (key:ByteArray) (v:List Int) (off most:Int) (name:ByteArray) (plan:Int) (_:ps.length≤2097152) (_:4194304<fu) :
  ∃ s,p75 fu ((lo,up,e,z,l,ps,cs,2,ep,pr,sq,key,v,off,most,name,plan,0,0,false,(),()),())=some (((lo,up,e,z,l,ps,cs,2,ep,pr,sq,key,v,off,most,name,plan,0,(mRes (mayS (lo,up,e,z,l,ps,cs,()) (2,ep,pr,sq,key,v,off,most,name,plan,()))).1,(mRes (mayS (lo,up,e,z,l,ps,cs,()) (2,ep,pr,sq,key,v,off,most,name,plan,()))).2,(),()),(),(),(),()),mForm s (mayS (lo,up,e,z,l,ps,cs,()) (2,ep,pr,sq,key,v,off,most,name,plan,()))) := by
 rw [Q0y]
 unfold p75 p74
 simp only [Int.reduceBEq,Int.reduceEq,beq_self_eq_true,Qt,Qf,if_true,if_false,Qd,Q0a,Q0e,Q1y,Q0f]
 by_cases h0:z=0
 ·have b0:(z != 0)=false := by simp [h0]
  simp only [if_pos h0,b0,Qf,mRes,mForm]
  exact ⟨⟨#[]⟩,rfl⟩
 ·have b0:(z != 0)=true := by simpa using h0
  simp only [if_neg h0,b0,Qt,mRes,mForm]
  exact ⟨_,rfl⟩
theorem K4v (lo up:ByteArray) (e z:Int) (l:List Rd) (ps:List Pr) (cs:List Cn) (ep pr sq:Int) (key:ByteArray) (v:List Int) (off most:Int) (name:ByteArray) (plan:Int) (hp:ps.length≤2097152) (hf:4194304<fu) :
  ∃ s,p75 fu ((lo,up,e,z,l,ps,cs,3,ep,pr,sq,key,v,off,most,name,plan,0,0,false,(),()),())=some (((lo,up,e,z,l,ps,cs,3,ep,pr,sq,key,v,off,most,name,plan,0,(mRes (mayS (lo,up,e,z,l,ps,cs,()) (3,ep,pr,sq,key,v,off,most,name,plan,()))).1,(mRes (mayS (lo,up,e,z,l,ps,cs,()) (3,ep,pr,sq,key,v,off,most,name,plan,()))).2,(),()),(),(),(),()),mForm s (mayS (lo,up,e,z,l,ps,cs,()) (3,ep,pr,sq,key,v,off,most,name,plan,()))) := by
 rw [Q0y]
 unfold p75 p74
 simp only [Int.reduceBEq,Int.reduceEq,beq_self_eq_true,Qt,Qf,if_true,if_false,Qd,Q0a,Q0e,Q0f,X4r _ _ _ _ _ _ _ _ _ _ _ _ _ _ _ _ _ hp hf]
 cases hn:nwS ps 3 pr sq with
 | some r =>
  cases r with
  | inl e=>exact ⟨_,rfl⟩
  | inr r=>exact ⟨⟨#[]⟩,rfl⟩
 | none =>
  by_cases h0:z=0
  ·have b0:(z != 0)=false := by simp [h0]
   simp only [if_pos h0,Option.none_or,nForm,mRes,Qt,Q0e,Q1y,b0,Qf]
   exact ⟨⟨#[]⟩,rfl⟩
  ·have b0:(z != 0)=true := by simpa using h0
   simp only [if_neg h0,Option.none_or,nForm,mRes,Qt,Q0e,Q1y,b0]
   exact ⟨_,rfl⟩
theorem K4w (lo up:ByteArray) (e z:Int) (l:List Rd) (ps:List Pr) (cs:List Cn) (ep pr sq:Int) (key:ByteArray) (v:List Int) (off most:Int) (name:ByteArray) (plan:Int) (_:ps.length≤2097152) (_:4194304<fu) :
  ∃ s,p75 fu ((lo,up,e,z,l,ps,cs,4,ep,pr,sq,key,v,off,most,name,plan,0,0,false,(),()),())=some (((lo,up,e,z,l,ps,cs,4,ep,pr,sq,key,v,off,most,name,plan,0,(mRes (mayS (lo,up,e,z,l,ps,cs,()) (4,ep,pr,sq,key,v,off,most,name,plan,()))).1,(mRes (mayS (lo,up,e,z,l,ps,cs,()) (4,ep,pr,sq,key,v,off,most,name,plan,()))).2,(),()),(),(),(),()),mForm s (mayS (lo,up,e,z,l,ps,cs,()) (4,ep,pr,sq,key,v,off,most,name,plan,()))) := by
 rw [Q0y]
 unfold p75 p74
 simp only [Int.reduceBEq,Int.reduceEq,beq_self_eq_true,Qt,Qf,if_true,if_false,Qd,Q0a,Q0e,Q1y,Q0f]
 by_cases h0:z=0
 ·have b0:(z != 0)=false := by simp [h0]
  simp only [if_pos h0,b0,Qf,mRes,mForm]
  exact ⟨⟨#[]⟩,rfl⟩
 ·have b0:(z != 0)=true := by simpa using h0
  simp only [if_neg h0,b0,Qt,mRes,mForm]
  exact ⟨_,rfl⟩
theorem K4x (lo up:ByteArray) (e z:Int) (l:List Rd) (ps:List Pr) (cs:List Cn) (ep pr sq:Int) (key:ByteArray) (v:List Int) (off most:Int) (name:ByteArray) (plan:Int) (_:ps.length≤2097152) (_:4194304<fu) :
  ∃ s,p75 fu ((lo,up,e,z,l,ps,cs,5,ep,pr,sq,key,v,off,most,name,plan,0,0,false,(),()),())=some (((lo,up,e,z,l,ps,cs,5,ep,pr,sq,key,v,off,most,name,plan,0,(mRes (mayS (lo,up,e,z,l,ps,cs,()) (5,ep,pr,sq,key,v,off,most,name,plan,()))).1,(mRes (mayS (lo,up,e,z,l,ps,cs,()) (5,ep,pr,sq,key,v,off,most,name,plan,()))).2,(),()),(),(),(),()),mForm s (mayS (lo,up,e,z,l,ps,cs,()) (5,ep,pr,sq,key,v,off,most,name,plan,()))) := by
 rw [Q0y]
 unfold p75 p74
 simp only [Int.reduceBEq,Int.reduceEq,beq_self_eq_true,Qt,Qf,if_false,Qd,Q0a,Q0e,Q1y,Q0f]
 by_cases h0:z=0
 ·have b0:(z != 0)=false := by simp [h0]
  simp only [if_pos h0,b0,Qf,mRes,mForm]
  exact ⟨⟨#[]⟩,trivial⟩
 ·have b0:(z != 0)=true := by simpa using h0
  by_cases h1:z=plan
  ·have b1:(z != plan)=false := by simp [h1]
   simp only [if_neg h0,if_pos h1,b0,b1,Qt,Qf,mRes,mForm]
   exact ⟨⟨#[]⟩,trivial⟩
  ·have b1:(z != plan)=true := by simpa using h1
   simp only [if_neg h0,if_neg h1,b0,b1,Qt,mRes,mForm]
   exact ⟨_,rfl⟩
theorem K4y (lo up:ByteArray) (e z:Int) (l:List Rd) (ps:List Pr) (cs:List Cn) (ep pr sq:Int) (key:ByteArray) (v:List Int) (off most:Int) (name:ByteArray) (plan:Int) (_:ps.length≤2097152) (_:4194304<fu) :
  ∃ s,p75 fu ((lo,up,e,z,l,ps,cs,6,ep,pr,sq,key,v,off,most,name,plan,0,0,false,(),()),())=some (((lo,up,e,z,l,ps,cs,6,ep,pr,sq,key,v,off,most,name,plan,0,(mRes (mayS (lo,up,e,z,l,ps,cs,()) (6,ep,pr,sq,key,v,off,most,name,plan,()))).1,(mRes (mayS (lo,up,e,z,l,ps,cs,()) (6,ep,pr,sq,key,v,off,most,name,plan,()))).2,(),()),(),(),(),()),mForm s (mayS (lo,up,e,z,l,ps,cs,()) (6,ep,pr,sq,key,v,off,most,name,plan,()))) := by
 rw [Q0y]
 unfold p75 p74
 simp only [Int.reduceBEq,Int.reduceEq,beq_self_eq_true,Qt,Qf,if_false,Qd,Q0a,Q0e,Q1y,Q0f]
 by_cases h0:z=0
 ·have b0:(z != 0)=false := by simp [h0]
  simp only [if_pos h0,b0,Qf,mRes,mForm]
  exact ⟨⟨#[]⟩,trivial⟩
 ·have b0:(z != 0)=true := by simpa using h0
  by_cases h1:z=plan
  ·have b1:(z != plan)=false := by simp [h1]
   simp only [if_neg h0,if_pos h1,b0,b1,Qt,Qf,mRes,mForm]
   exact ⟨⟨#[]⟩,trivial⟩
  ·have b1:(z != plan)=true := by simpa using h1
   simp only [if_neg h0,if_neg h1,b0,b1,Qt,mRes,mForm]
   exact ⟨_,rfl⟩
end Go.Proofs.YtdkdhcakoccpfaaGreatDoor
namespace Go.Proofs.YtdkdhcakoccpfaaGreatDoor
open Go.RowKit
variable {fu:Nat}
def eForm (s:ByteArray) (e:Int):Bool×(ByteArray×Int×Unit)×Unit := if e=0 then (false,dflt (.pair .str (.pair (.int .i64) .unit)),()) else (true,(s,e,()),())
def prodS (l:List Rd) (ps:List Pr) (pr sq:Int) (key:ByteArray) (v:List Int):List Rd×List Pr×Int×Int :=
 if l.length<4096 then (if (putS ps (pr,sq,true,(l.length:Int))).2=0 then (l ++ [((l.length:Int),key,v,pr,sq)],(putS ps (pr,sq,true,(l.length:Int))).1,(l.length:Int),0) else (l,ps,0,(putS ps (pr,sq,true,(l.length:Int))).2)) else (l,ps,0,143)
theorem K4z (lo up:ByteArray) (e z:Int) (l:List Rd) (ps:List Pr) (cs:List Cn) (k ep pr sq:Int) (key:ByteArray) (v:List Int) (off most:Int) (name:ByteArray) (plan:Int) (hl:logOk l=true) (hk:key.size≤32) (hv:v.length≤256) (hp:ps.length≤2097152) (hf:4194304<fu) :
  ∃ s,p76 fu ((lo,up,e,z,l,ps,cs,k,ep,pr,sq,key,v,off,most,name,plan,0,0,false,(),()),())=some (((lo,up,e,z,(prodS l ps pr sq key v).1,(prodS l ps pr sq key v).2.1,cs,k,ep,pr,sq,key,v,off,most,name,plan,0,(prodS l ps pr sq key v).2.2.1,false,(),()),(),(),(),()),eForm s (prodS l ps pr sq key v).2.2.2) := by
 have hn := (Q0v hl).1
 have e1 := K4i (fu := fu) l (0,key,v,pr,sq) hl hk hv hf
 have e2 := fun o:Int=>K3y (fu := fu) ps pr sq o (by omega) (by omega)
 unfold p76 p74 prodS
 simp only [Qd,Qt]
 simp only [] at e1
 rw [e1]
 by_cases h:l.length<4096
 ·simp only [if_pos h,Q0a,show ((0:Int) != 0)=false from rfl,Qf,e2]
  by_cases h0:(putS ps (pr,sq,true,(l.length:Int))).2=0
  ·have b0:((putS ps (pr,sq,true,(l.length:Int))).2 != 0)=false := by simp [h0]
   simp only [if_pos h0,b0,Qf]
   exact ⟨⟨#[]⟩,rfl⟩
  ·have b0:((putS ps (pr,sq,true,(l.length:Int))).2 != 0)=true := by simpa using h0
   have b1:((putS ps (pr,sq,true,(l.length:Int))).2==0)=false := by simpa using h0
   refine ⟨⟨#[97,32,112,114,111,100,117,99,101,114]⟩,?_⟩
   simp only [if_neg h0,b0,b1,Qt,Qf,Q0a,eForm]
 ·simp only [if_neg h,Q0a]
  exact ⟨_,rfl⟩
def fetchS (l:List Rd) (c f:Int):List Rd×Int×Int :=
 if c≤(l.length:Int) then ((l.drop c.toNat).take (min (min f.toNat 64) (l.length-c.toNat)),c+(((l.drop c.toNat).take (min (min f.toNat 64) (l.length-c.toNat))).length:Int),0) else ([],0,141)
theorem K5a (lo up:ByteArray) (e z:Int) (l:List Rd) (ps:List Pr) (cs:List Cn) (k ep pr sq:Int) (key:ByteArray) (v:List Int) (off most:Int) (name:ByteArray) (plan:Int) (hl:logOk l=true) (h0:0≤off) (hf:4194304<fu) :
  ∃ s,p77 fu ((lo,up,e,z,l,ps,cs,k,ep,pr,sq,key,v,off,most,name,plan,0,0,false,(),()),())=some (((lo,up,e,z,l,ps,cs,k,ep,pr,sq,key,v,off,most,name,plan,0,(fetchS l off most).2.1,false,(fetchS l off most).1,()),(),(),(),()),eForm s (fetchS l off most).2.2) := by
 have hn := (Q0v hl).1
 unfold p77 p74 fetchS
 simp only [Qd,Qt,K4j l off most hl h0 hf]
 by_cases h:off≤(l.length:Int)
 ·simp only [if_pos h,Q0a,show ((0:Int) != 0)=false from rfl,Qf]
  have hm:((l.drop off.toNat).take (min (min most.toNat 64) (l.length-off.toNat))).length≤4096 := by simp; omega
  generalize hg:(l.drop off.toNat).take (min (min most.toNat 64) (l.length-off.toNat))=m at hm ⊢
  have hw:IntKind.wrap .u64 (off+(IntKind.wrap .u64 (m.length:Int)))=off+(m.length:Int) := by
   rw [Q1b (x := (m.length:Int)) (by omega) (by omega),Q1b (by omega) (by omega)]
  simp only [hw]
  exact ⟨⟨#[]⟩,rfl⟩
 ·simp only [if_neg h,Q0a]
  exact ⟨_,rfl⟩
def comS (cs:List Cn) (ps:List Pr) (pr sq:Int) (name:ByteArray) (off h:Int):List Pr×List Cn×Int×Int :=
 if (commitS cs name off h).2=0 then (if (putS ps (pr,sq,false,0)).2=0 then ((putS ps (pr,sq,false,0)).1,(commitS cs name off h).1,off,0) else (ps,cs,0,(putS ps (pr,sq,false,0)).2)) else (ps,cs,0,(commitS cs name off h).2)
theorem K5b (lo up:ByteArray) (e z:Int) (l:List Rd) (ps:List Pr) (cs:List Cn) (k ep pr sq:Int) (key:ByteArray) (v:List Int) (off most:Int) (name:ByteArray) (plan:Int) (hl:l.length≤2097152) (hc:okL cs) (hn:name.size≤1048576) (hp:ps.length≤2097152) (hf:4194304<fu) :
  ∃ s,p78 fu ((lo,up,e,z,l,ps,cs,k,ep,pr,sq,key,v,off,most,name,plan,0,0,false,(),()),())=some (((lo,up,e,z,l,(comS cs ps pr sq name off (l.length:Int)).1,(comS cs ps pr sq name off (l.length:Int)).2.1,k,ep,pr,sq,key,v,off,most,name,plan,0,(comS cs ps pr sq name off (l.length:Int)).2.2.1,false,(),()),(),(),(),()),eForm s (comS cs ps pr sq name off (l.length:Int)).2.2.2) := by
 have e2 := K4a (fu := fu) ps pr sq (by omega) (by omega)
 unfold p78 p74 comS
 simp only [Qd,Qt,Q1b (x := (l.length:Int)) (by omega) (by omega),K3q cs name off (l.length:Int) hc hn hf,Q0a]
 by_cases h:(commitS cs name off (l.length:Int)).2=0
 ·have b0:((commitS cs name off (l.length:Int)).2 != 0)=false := by simp [h]
  simp only [if_pos h,b0,Qf,e2,Q0a]
  by_cases h0:(putS ps (pr,sq,false,0)).2=0
  ·have b0:((putS ps (pr,sq,false,0)).2 != 0)=false := by simp [h0]
   simp only [if_pos h0,b0,Qf]
   exact ⟨⟨#[]⟩,rfl⟩
  ·have b0:((putS ps (pr,sq,false,0)).2 != 0)=true := by simpa using h0
   have b1:((putS ps (pr,sq,false,0)).2==0)=false := by simpa using h0
   refine ⟨⟨#[97,32,112,114,111,100,117,99,101,114]⟩,?_⟩
   simp only [if_neg h0,b0,b1,Qt,Qf,Q0a,eForm]
 ·have b0:((commitS cs name off (l.length:Int)).2 != 0)=true := by simpa using h
  have b1:((commitS cs name off (l.length:Int)).2==0)=false := by simpa using h
  refine ⟨⟨#[97,32,99,111,110,115,117,109,101,114]⟩,?_⟩
  simp only [if_neg h,b0,b1,Qt,Qf,Q0a,eForm]
abbrev Fo := Option (Option Int)
def wForm (s:ByteArray):Fo→Bool×(ByteArray×Int×Unit)×(Bool×Unit×Unit)
 | none=>(false,dflt (.pair .str (.pair (.int .i64) .unit)),(true,(),()))
 | some (some e)=>(true,(s,e,()),dflt (.pair .bool (.pair .unit .unit)))
 | some none=>(false,dflt (.pair .str (.pair (.int .i64) .unit)),(false,(),()))
def errF (e:Int):Fo := if e=0 then none else some (some e)
def actS:St16→Cm16→St16×Rs16×Fo
 | (lo,up,e,z,l,ps,cs,_),(k,_,pr,sq,key,v,off,most,name,plan,_) =>
  if k=1 then ((lo,up,e,z,(prodS l ps pr sq key v).1,(prodS l ps pr sq key v).2.1,cs,()),(0,(prodS l ps pr sq key v).2.2.1,false,[],()),errF (prodS l ps pr sq key v).2.2.2)
  else if k=2 then ((lo,up,e,z,l,ps,cs,()),(0,(fetchS l off most).2.1,false,(fetchS l off most).1,()),errF (fetchS l off most).2.2)
  else if k=3 then ((lo,up,e,z,l,(comS cs ps pr sq name off (l.length:Int)).1,(comS cs ps pr sq name off (l.length:Int)).2.1,()),(0,(comS cs ps pr sq name off (l.length:Int)).2.2.1,false,[],()),errF (comS cs ps pr sq name off (l.length:Int)).2.2.2)
  else if k=4 then ((lo,up,e,z,l,ps,cs,()),(0,(readC cs name).1,(readC cs name).2,[],()),none)
  else if k=5 then ((lo,up,e,plan,l,ps,cs,()),(0,0,z != 0,[],()),none)
  else ((lo,up,e,0,l,ps,cs,()),(0,0,z==0,[],()),none)
def wkS (p:St16) (c:Cm16):St16×Rs16×Fo :=
 if wfS c=false then (p,(0,0,false,[],()),some (some 161)) else if c.2.1=p.2.2.1 then (match mayS p c with
  | some (.inl n)=>(p,(0,0,false,[],()),some (some n))
  | some (.inr r)=>(p,(0,r.1,r.2,[],()),some none)
  | none=>actS p c) else (p,(0,0,false,[],()),some (some 162))
theorem K5c (lo up:ByteArray) (e z:Int) (l:List Rd) (ps:List Pr) (cs:List Cn) (k ep pr sq:Int) (key:ByteArray) (v:List Int) (off most:Int) (name:ByteArray) (plan:Int) (hn:name.size≤1048576) (hf:4194304<fu) (hw:wfS (k,ep,pr,sq,key,v,off,most,name,plan,())=false) :
  ∃ s,p43 fu ((lo,up,e,z,l,ps,cs,k,ep,pr,sq,key,v,off,most,name,plan,0,0,false,(),()),())=some (((lo,up,e,z,l,ps,cs,k,ep,pr,sq,key,v,off,most,name,plan,0,0,false,[],()),(),(),(),()),wForm s (some (some 161))) := by
 unfold p43
 simp only [Q1z _ _ _ _ _ _ _ _ _ _ hn hf,Q0a,hw,Bool.not_false,Qt]
 exact ⟨_,rfl⟩
theorem K5d (lo up:ByteArray) (e z:Int) (l:List Rd) (ps:List Pr) (cs:List Cn) (k ep pr sq:Int) (key:ByteArray) (v:List Int) (off most:Int) (name:ByteArray) (plan:Int) (hn:name.size≤1048576) (hf:4194304<fu) (hw:wfS (k,ep,pr,sq,key,v,off,most,name,plan,())=true) (he:¬ ep=e) :
  ∃ s,p43 fu ((lo,up,e,z,l,ps,cs,k,ep,pr,sq,key,v,off,most,name,plan,0,0,false,(),()),())=some (((lo,up,e,z,l,ps,cs,k,ep,pr,sq,key,v,off,most,name,plan,0,0,false,[],()),(),(),(),()),wForm s (some (some 162))) := by
 have b0:(ep != e)=true := by simpa using he
 unfold p43
 simp only [Q1z _ _ _ _ _ _ _ _ _ _ hn hf,Q0a,hw,Bool.not_true,Qf,b0,Qt]
 exact ⟨_,rfl⟩
theorem K5e (lo up:ByteArray) (_ z:Int) (l:List Rd) (ps:List Pr) (cs:List Cn) (k ep pr sq:Int) (key:ByteArray) (v:List Int) (off most:Int) (name:ByteArray) (plan:Int) (hn:name.size≤1048576) (hf:4194304<fu) (hw:wfS (k,ep,pr,sq,key,v,off,most,name,plan,())=true) (s:ByteArray) (n:Int) (hs:p75 fu ((lo,up,ep,z,l,ps,cs,k,ep,pr,sq,key,v,off,most,name,plan,0,0,false,(),()),())=some (((lo,up,ep,z,l,ps,cs,k,ep,pr,sq,key,v,off,most,name,plan,0,(mRes (some (.inl n))).1,(mRes (some (.inl n))).2,(),()),(),(),(),()),mForm s (some (.inl n)))) :
  p43 fu ((lo,up,ep,z,l,ps,cs,k,ep,pr,sq,key,v,off,most,name,plan,0,0,false,(),()),())=some (((lo,up,ep,z,l,ps,cs,k,ep,pr,sq,key,v,off,most,name,plan,0,0,false,[],()),(),(),(),()),wForm s (some (some n))) := by
 have b0:(ep != ep)=false := by simp
 unfold p43
 simp only [Q1z _ _ _ _ _ _ _ _ _ _ hn hf,Q0a,hw,Bool.not_true,Qf,b0,Qd,Qt,hs]
 rfl
theorem K5f (lo up:ByteArray) (_ z:Int) (l:List Rd) (ps:List Pr) (cs:List Cn) (k ep pr sq:Int) (key:ByteArray) (v:List Int) (off most:Int) (name:ByteArray) (plan:Int) (hn:name.size≤1048576) (hf:4194304<fu) (hw:wfS (k,ep,pr,sq,key,v,off,most,name,plan,())=true) (s:ByteArray) (r:Int×Bool) (hs:p75 fu ((lo,up,ep,z,l,ps,cs,k,ep,pr,sq,key,v,off,most,name,plan,0,0,false,(),()),())=some (((lo,up,ep,z,l,ps,cs,k,ep,pr,sq,key,v,off,most,name,plan,0,(mRes (some (.inr r))).1,(mRes (some (.inr r))).2,(),()),(),(),(),()),mForm s (some (.inr r)))) :
  p43 fu ((lo,up,ep,z,l,ps,cs,k,ep,pr,sq,key,v,off,most,name,plan,0,0,false,(),()),())=some (((lo,up,ep,z,l,ps,cs,k,ep,pr,sq,key,v,off,most,name,plan,0,r.1,r.2,[],()),(),(),(),()),wForm ⟨#[]⟩ (some none)) := by
 have b0:(ep != ep)=false := by simp
 unfold p43
 simp only [Q1z _ _ _ _ _ _ _ _ _ _ hn hf,Q0a,hw,Bool.not_true,Qf,b0,Qd,Qt,hs]
 rfl
theorem K5g (lo up:ByteArray) (z:Int) (l:List Rd) (ps:List Pr) (cs:List Cn) (ep pr sq:Int) (key:ByteArray) (v:List Int) (off most:Int) (name:ByteArray) (plan:Int) (hl:logOk l=true) (hp:ps.length≤2097152) (_:okL cs) (_:0≤off) (hn:name.size≤1048576) (hf:4194304<fu) (hw:wfS (1,ep,pr,sq,key,v,off,most,name,plan,())=true) (s:ByteArray) (hs:p75 fu ((lo,up,ep,z,l,ps,cs,1,ep,pr,sq,key,v,off,most,name,plan,0,0,false,(),()),())=some (((lo,up,ep,z,l,ps,cs,1,ep,pr,sq,key,v,off,most,name,plan,0,(mRes none).1,(mRes none).2,(),()),(),(),(),()),mForm s none)) :
  ∃ s,p43 fu ((lo,up,ep,z,l,ps,cs,1,ep,pr,sq,key,v,off,most,name,plan,0,0,false,(),()),())=some ((((actS (lo,up,ep,z,l,ps,cs,()) (1,ep,pr,sq,key,v,off,most,name,plan,())).1.1,(actS (lo,up,ep,z,l,ps,cs,()) (1,ep,pr,sq,key,v,off,most,name,plan,())).1.2.1,(actS (lo,up,ep,z,l,ps,cs,()) (1,ep,pr,sq,key,v,off,most,name,plan,())).1.2.2.1,(actS (lo,up,ep,z,l,ps,cs,()) (1,ep,pr,sq,key,v,off,most,name,plan,())).1.2.2.2.1,(actS (lo,up,ep,z,l,ps,cs,()) (1,ep,pr,sq,key,v,off,most,name,plan,())).1.2.2.2.2.1,(actS (lo,up,ep,z,l,ps,cs,()) (1,ep,pr,sq,key,v,off,most,name,plan,())).1.2.2.2.2.2.1,(actS (lo,up,ep,z,l,ps,cs,()) (1,ep,pr,sq,key,v,off,most,name,plan,())).1.2.2.2.2.2.2.1,1,ep,pr,sq,key,v,off,most,name,plan,(actS (lo,up,ep,z,l,ps,cs,()) (1,ep,pr,sq,key,v,off,most,name,plan,())).2.1.1,(actS (lo,up,ep,z,l,ps,cs,()) (1,ep,pr,sq,key,v,off,most,name,plan,())).2.1.2.1,(actS (lo,up,ep,z,l,ps,cs,()) (1,ep,pr,sq,key,v,off,most,name,plan,())).2.1.2.2.1,(actS (lo,up,ep,z,l,ps,cs,()) (1,ep,pr,sq,key,v,off,most,name,plan,())).2.1.2.2.2.1,()),(),(),(),()),wForm s (actS (lo,up,ep,z,l,ps,cs,()) (1,ep,pr,sq,key,v,off,most,name,plan,())).2.2) := by
 have hll := (Q0v hl).1
 have b0:(ep != ep)=false := by simp
 unfold p43 actS
 simp only [Q1z _ _ _ _ _ _ _ _ _ _ hn hf,Q0a,hw,Bool.not_true,Qf,b0,Qd,Qt,hs,mRes,mForm,Q0e]
 obtain ⟨s1,h1⟩ := K4z (fu := fu) lo up ep z l ps cs 1 ep pr sq key v off most name plan hl (by have := hw; simp only [wfS,if_true,Bool.and_eq_true,decide_eq_true_eq] at this; exact this.2.1) (by have := hw; simp only [wfS,if_true,Bool.and_eq_true,decide_eq_true_eq] at this; exact this.2.2) hp hf
 simp only [beq_self_eq_true,Qt,if_true,h1,Q0a]
 refine ⟨s1,?_⟩
 unfold errF eForm
 by_cases g:(prodS l ps pr sq key v).2.2.2=0
 ·simp only [if_pos g,Qf,Q0e,wForm]
 ·simp only [if_neg g,Qt,Q0e,wForm]
end Go.Proofs.YtdkdhcakoccpfaaGreatDoor
namespace Go.Proofs.YtdkdhcakoccpfaaGreatDoor
open Go.RowKit
variable {fu:Nat}
theorem K5h (lo up:ByteArray) (z:Int) (l:List Rd) (ps:List Pr) (cs:List Cn) (ep pr sq:Int) (key:ByteArray) (v:List Int) (off most:Int) (name:ByteArray) (plan:Int) (hl:logOk l=true) (_:ps.length≤2097152) (_:okL cs) (h0:0≤off) (hn:name.size≤1048576) (hf:4194304<fu) (hw:wfS (2,ep,pr,sq,key,v,off,most,name,plan,())=true) (s:ByteArray) (hs:p75 fu ((lo,up,ep,z,l,ps,cs,2,ep,pr,sq,key,v,off,most,name,plan,0,0,false,(),()),())=some (((lo,up,ep,z,l,ps,cs,2,ep,pr,sq,key,v,off,most,name,plan,0,(mRes none).1,(mRes none).2,(),()),(),(),(),()),mForm s none)) :
  ∃ s,p43 fu ((lo,up,ep,z,l,ps,cs,2,ep,pr,sq,key,v,off,most,name,plan,0,0,false,(),()),())=some ((((actS (lo,up,ep,z,l,ps,cs,()) (2,ep,pr,sq,key,v,off,most,name,plan,())).1.1,(actS (lo,up,ep,z,l,ps,cs,()) (2,ep,pr,sq,key,v,off,most,name,plan,())).1.2.1,(actS (lo,up,ep,z,l,ps,cs,()) (2,ep,pr,sq,key,v,off,most,name,plan,())).1.2.2.1,(actS (lo,up,ep,z,l,ps,cs,()) (2,ep,pr,sq,key,v,off,most,name,plan,())).1.2.2.2.1,(actS (lo,up,ep,z,l,ps,cs,()) (2,ep,pr,sq,key,v,off,most,name,plan,())).1.2.2.2.2.1,(actS (lo,up,ep,z,l,ps,cs,()) (2,ep,pr,sq,key,v,off,most,name,plan,())).1.2.2.2.2.2.1,(actS (lo,up,ep,z,l,ps,cs,()) (2,ep,pr,sq,key,v,off,most,name,plan,())).1.2.2.2.2.2.2.1,2,ep,pr,sq,key,v,off,most,name,plan,(actS (lo,up,ep,z,l,ps,cs,()) (2,ep,pr,sq,key,v,off,most,name,plan,())).2.1.1,(actS (lo,up,ep,z,l,ps,cs,()) (2,ep,pr,sq,key,v,off,most,name,plan,())).2.1.2.1,(actS (lo,up,ep,z,l,ps,cs,()) (2,ep,pr,sq,key,v,off,most,name,plan,())).2.1.2.2.1,(actS (lo,up,ep,z,l,ps,cs,()) (2,ep,pr,sq,key,v,off,most,name,plan,())).2.1.2.2.2.1,()),(),(),(),()),wForm s (actS (lo,up,ep,z,l,ps,cs,()) (2,ep,pr,sq,key,v,off,most,name,plan,())).2.2) := by
 have hll := (Q0v hl).1
 have b0:(ep != ep)=false := by simp
 unfold p43 actS
 simp only [Q1z _ _ _ _ _ _ _ _ _ _ hn hf,Q0a,hw,Bool.not_true,Qf,b0,Qd,Qt,hs,mRes,mForm,Q0e]
 obtain ⟨s1,h1⟩ := K5a (fu := fu) lo up ep z l ps cs 2 ep pr sq key v off most name plan hl h0 hf
 generalize fetchS l off most=q at h1 ⊢
 simp only [Int.reduceBEq,Int.reduceEq,Qt,Qf,if_true,if_false]
 rw [h1]
 simp only [Q0a]
 refine ⟨s1,?_⟩
 unfold errF eForm
 by_cases g:q.2.2=0
 ·simp only [if_pos g,Qf,Q0e,wForm]
 ·simp only [if_neg g,Qt,Q0e,wForm]
theorem K5i (lo up:ByteArray) (z:Int) (l:List Rd) (ps:List Pr) (cs:List Cn) (ep pr sq:Int) (key:ByteArray) (v:List Int) (off most:Int) (name:ByteArray) (plan:Int) (hl:logOk l=true) (hp:ps.length≤2097152) (hc:okL cs) (_:0≤off) (hn:name.size≤1048576) (hf:4194304<fu) (hw:wfS (3,ep,pr,sq,key,v,off,most,name,plan,())=true) (s:ByteArray) (hs:p75 fu ((lo,up,ep,z,l,ps,cs,3,ep,pr,sq,key,v,off,most,name,plan,0,0,false,(),()),())=some (((lo,up,ep,z,l,ps,cs,3,ep,pr,sq,key,v,off,most,name,plan,0,(mRes none).1,(mRes none).2,(),()),(),(),(),()),mForm s none)) :
  ∃ s,p43 fu ((lo,up,ep,z,l,ps,cs,3,ep,pr,sq,key,v,off,most,name,plan,0,0,false,(),()),())=some ((((actS (lo,up,ep,z,l,ps,cs,()) (3,ep,pr,sq,key,v,off,most,name,plan,())).1.1,(actS (lo,up,ep,z,l,ps,cs,()) (3,ep,pr,sq,key,v,off,most,name,plan,())).1.2.1,(actS (lo,up,ep,z,l,ps,cs,()) (3,ep,pr,sq,key,v,off,most,name,plan,())).1.2.2.1,(actS (lo,up,ep,z,l,ps,cs,()) (3,ep,pr,sq,key,v,off,most,name,plan,())).1.2.2.2.1,(actS (lo,up,ep,z,l,ps,cs,()) (3,ep,pr,sq,key,v,off,most,name,plan,())).1.2.2.2.2.1,(actS (lo,up,ep,z,l,ps,cs,()) (3,ep,pr,sq,key,v,off,most,name,plan,())).1.2.2.2.2.2.1,(actS (lo,up,ep,z,l,ps,cs,()) (3,ep,pr,sq,key,v,off,most,name,plan,())).1.2.2.2.2.2.2.1,3,ep,pr,sq,key,v,off,most,name,plan,(actS (lo,up,ep,z,l,ps,cs,()) (3,ep,pr,sq,key,v,off,most,name,plan,())).2.1.1,(actS (lo,up,ep,z,l,ps,cs,()) (3,ep,pr,sq,key,v,off,most,name,plan,())).2.1.2.1,(actS (lo,up,ep,z,l,ps,cs,()) (3,ep,pr,sq,key,v,off,most,name,plan,())).2.1.2.2.1,(actS (lo,up,ep,z,l,ps,cs,()) (3,ep,pr,sq,key,v,off,most,name,plan,())).2.1.2.2.2.1,()),(),(),(),()),wForm s (actS (lo,up,ep,z,l,ps,cs,()) (3,ep,pr,sq,key,v,off,most,name,plan,())).2.2) := by
 have hll := (Q0v hl).1
 have b0:(ep != ep)=false := by simp
 unfold p43 actS
 simp only [Q1z _ _ _ _ _ _ _ _ _ _ hn hf,Q0a,hw,Bool.not_true,Qf,b0,Qd,Qt,hs,mRes,mForm,Q0e]
 obtain ⟨s1,h1⟩ := K5b (fu := fu) lo up ep z l ps cs 3 ep pr sq key v off most name plan (by omega) hc hn hp hf
 simp only [Int.reduceBEq,Int.reduceEq,Qt,Qf,if_true,if_false,h1,Q0a]
 refine ⟨s1,?_⟩
 unfold errF eForm
 by_cases g:(comS cs ps pr sq name off (l.length:Int)).2.2.2=0
 ·simp only [if_pos g,Qf,Q0e,wForm]
 ·simp only [if_neg g,Qt,Q0e,wForm]
theorem K5j (lo up:ByteArray) (z:Int) (l:List Rd) (ps:List Pr) (cs:List Cn) (ep pr sq:Int) (key:ByteArray) (v:List Int) (off most:Int) (name:ByteArray) (plan:Int) (hl:logOk l=true) (_:ps.length≤2097152) (hc:okL cs) (_:0≤off) (hn:name.size≤1048576) (hf:4194304<fu) (hw:wfS (4,ep,pr,sq,key,v,off,most,name,plan,())=true) (s:ByteArray) (hs:p75 fu ((lo,up,ep,z,l,ps,cs,4,ep,pr,sq,key,v,off,most,name,plan,0,0,false,(),()),())=some (((lo,up,ep,z,l,ps,cs,4,ep,pr,sq,key,v,off,most,name,plan,0,(mRes none).1,(mRes none).2,(),()),(),(),(),()),mForm s none)) :
  ∃ s,p43 fu ((lo,up,ep,z,l,ps,cs,4,ep,pr,sq,key,v,off,most,name,plan,0,0,false,(),()),())=some ((((actS (lo,up,ep,z,l,ps,cs,()) (4,ep,pr,sq,key,v,off,most,name,plan,())).1.1,(actS (lo,up,ep,z,l,ps,cs,()) (4,ep,pr,sq,key,v,off,most,name,plan,())).1.2.1,(actS (lo,up,ep,z,l,ps,cs,()) (4,ep,pr,sq,key,v,off,most,name,plan,())).1.2.2.1,(actS (lo,up,ep,z,l,ps,cs,()) (4,ep,pr,sq,key,v,off,most,name,plan,())).1.2.2.2.1,(actS (lo,up,ep,z,l,ps,cs,()) (4,ep,pr,sq,key,v,off,most,name,plan,())).1.2.2.2.2.1,(actS (lo,up,ep,z,l,ps,cs,()) (4,ep,pr,sq,key,v,off,most,name,plan,())).1.2.2.2.2.2.1,(actS (lo,up,ep,z,l,ps,cs,()) (4,ep,pr,sq,key,v,off,most,name,plan,())).1.2.2.2.2.2.2.1,4,ep,pr,sq,key,v,off,most,name,plan,(actS (lo,up,ep,z,l,ps,cs,()) (4,ep,pr,sq,key,v,off,most,name,plan,())).2.1.1,(actS (lo,up,ep,z,l,ps,cs,()) (4,ep,pr,sq,key,v,off,most,name,plan,())).2.1.2.1,(actS (lo,up,ep,z,l,ps,cs,()) (4,ep,pr,sq,key,v,off,most,name,plan,())).2.1.2.2.1,(actS (lo,up,ep,z,l,ps,cs,()) (4,ep,pr,sq,key,v,off,most,name,plan,())).2.1.2.2.2.1,()),(),(),(),()),wForm s (actS (lo,up,ep,z,l,ps,cs,()) (4,ep,pr,sq,key,v,off,most,name,plan,())).2.2) := by
 have hll := (Q0v hl).1
 have b0:(ep != ep)=false := by simp
 unfold p43 actS
 simp only [Q1z _ _ _ _ _ _ _ _ _ _ hn hf,Q0a,hw,Bool.not_true,Qf,b0,Qd,Qt,hs,mRes,mForm,Q0e]
 simp only [Int.reduceBEq,Int.reduceEq,Qt,Qf,if_true,if_false,K3k cs name hc.1 hf,Q0a]
 exact ⟨⟨#[]⟩,rfl⟩
theorem K5k (lo up:ByteArray) (z:Int) (l:List Rd) (ps:List Pr) (cs:List Cn) (ep pr sq:Int) (key:ByteArray) (v:List Int) (off most:Int) (name:ByteArray) (plan:Int) (hl:logOk l=true) (_:ps.length≤2097152) (_:okL cs) (_:0≤off) (hn:name.size≤1048576) (hf:4194304<fu) (hw:wfS (5,ep,pr,sq,key,v,off,most,name,plan,())=true) (s:ByteArray) (hs:p75 fu ((lo,up,ep,z,l,ps,cs,5,ep,pr,sq,key,v,off,most,name,plan,0,0,false,(),()),())=some (((lo,up,ep,z,l,ps,cs,5,ep,pr,sq,key,v,off,most,name,plan,0,(mRes none).1,(mRes none).2,(),()),(),(),(),()),mForm s none)) :
  ∃ s,p43 fu ((lo,up,ep,z,l,ps,cs,5,ep,pr,sq,key,v,off,most,name,plan,0,0,false,(),()),())=some ((((actS (lo,up,ep,z,l,ps,cs,()) (5,ep,pr,sq,key,v,off,most,name,plan,())).1.1,(actS (lo,up,ep,z,l,ps,cs,()) (5,ep,pr,sq,key,v,off,most,name,plan,())).1.2.1,(actS (lo,up,ep,z,l,ps,cs,()) (5,ep,pr,sq,key,v,off,most,name,plan,())).1.2.2.1,(actS (lo,up,ep,z,l,ps,cs,()) (5,ep,pr,sq,key,v,off,most,name,plan,())).1.2.2.2.1,(actS (lo,up,ep,z,l,ps,cs,()) (5,ep,pr,sq,key,v,off,most,name,plan,())).1.2.2.2.2.1,(actS (lo,up,ep,z,l,ps,cs,()) (5,ep,pr,sq,key,v,off,most,name,plan,())).1.2.2.2.2.2.1,(actS (lo,up,ep,z,l,ps,cs,()) (5,ep,pr,sq,key,v,off,most,name,plan,())).1.2.2.2.2.2.2.1,5,ep,pr,sq,key,v,off,most,name,plan,(actS (lo,up,ep,z,l,ps,cs,()) (5,ep,pr,sq,key,v,off,most,name,plan,())).2.1.1,(actS (lo,up,ep,z,l,ps,cs,()) (5,ep,pr,sq,key,v,off,most,name,plan,())).2.1.2.1,(actS (lo,up,ep,z,l,ps,cs,()) (5,ep,pr,sq,key,v,off,most,name,plan,())).2.1.2.2.1,(actS (lo,up,ep,z,l,ps,cs,()) (5,ep,pr,sq,key,v,off,most,name,plan,())).2.1.2.2.2.1,()),(),(),(),()),wForm s (actS (lo,up,ep,z,l,ps,cs,()) (5,ep,pr,sq,key,v,off,most,name,plan,())).2.2) := by
 have hll := (Q0v hl).1
 have b0:(ep != ep)=false := by simp
 unfold p43 actS
 simp only [Q1z _ _ _ _ _ _ _ _ _ _ hn hf,Q0a,hw,Bool.not_true,Qf,b0,Qd,Qt,hs,mRes,mForm,Q0e]
 simp only [Int.reduceBEq,Int.reduceEq,Qt,Qf,if_true,if_false]
 exact ⟨⟨#[]⟩,rfl⟩
theorem K5l (lo up:ByteArray) (z:Int) (l:List Rd) (ps:List Pr) (cs:List Cn) (ep pr sq:Int) (key:ByteArray) (v:List Int) (off most:Int) (name:ByteArray) (plan:Int) (hl:logOk l=true) (_:ps.length≤2097152) (_:okL cs) (_:0≤off) (hn:name.size≤1048576) (hf:4194304<fu) (hw:wfS (6,ep,pr,sq,key,v,off,most,name,plan,())=true) (s:ByteArray) (hs:p75 fu ((lo,up,ep,z,l,ps,cs,6,ep,pr,sq,key,v,off,most,name,plan,0,0,false,(),()),())=some (((lo,up,ep,z,l,ps,cs,6,ep,pr,sq,key,v,off,most,name,plan,0,(mRes none).1,(mRes none).2,(),()),(),(),(),()),mForm s none)) :
  ∃ s,p43 fu ((lo,up,ep,z,l,ps,cs,6,ep,pr,sq,key,v,off,most,name,plan,0,0,false,(),()),())=some ((((actS (lo,up,ep,z,l,ps,cs,()) (6,ep,pr,sq,key,v,off,most,name,plan,())).1.1,(actS (lo,up,ep,z,l,ps,cs,()) (6,ep,pr,sq,key,v,off,most,name,plan,())).1.2.1,(actS (lo,up,ep,z,l,ps,cs,()) (6,ep,pr,sq,key,v,off,most,name,plan,())).1.2.2.1,(actS (lo,up,ep,z,l,ps,cs,()) (6,ep,pr,sq,key,v,off,most,name,plan,())).1.2.2.2.1,(actS (lo,up,ep,z,l,ps,cs,()) (6,ep,pr,sq,key,v,off,most,name,plan,())).1.2.2.2.2.1,(actS (lo,up,ep,z,l,ps,cs,()) (6,ep,pr,sq,key,v,off,most,name,plan,())).1.2.2.2.2.2.1,(actS (lo,up,ep,z,l,ps,cs,()) (6,ep,pr,sq,key,v,off,most,name,plan,())).1.2.2.2.2.2.2.1,6,ep,pr,sq,key,v,off,most,name,plan,(actS (lo,up,ep,z,l,ps,cs,()) (6,ep,pr,sq,key,v,off,most,name,plan,())).2.1.1,(actS (lo,up,ep,z,l,ps,cs,()) (6,ep,pr,sq,key,v,off,most,name,plan,())).2.1.2.1,(actS (lo,up,ep,z,l,ps,cs,()) (6,ep,pr,sq,key,v,off,most,name,plan,())).2.1.2.2.1,(actS (lo,up,ep,z,l,ps,cs,()) (6,ep,pr,sq,key,v,off,most,name,plan,())).2.1.2.2.2.1,()),(),(),(),()),wForm s (actS (lo,up,ep,z,l,ps,cs,()) (6,ep,pr,sq,key,v,off,most,name,plan,())).2.2) := by
 have hll := (Q0v hl).1
 have b0:(ep != ep)=false := by simp
 unfold p43 actS
 simp only [Q1z _ _ _ _ _ _ _ _ _ _ hn hf,Q0a,hw,Bool.not_true,Qf,b0,Qd,Qt,hs,mRes,mForm,Q0e]
 simp only [Int.reduceBEq,Int.reduceEq,Qt,Qf,if_false]
 exact ⟨⟨#[]⟩,rfl⟩
theorem K5m (lo up:ByteArray) (e z:Int) (l:List Rd) (ps:List Pr) (cs:List Cn) (k ep pr sq:Int) (key:ByteArray) (v:List Int) (off most:Int) (name:ByteArray) (plan:Int) (hl:logOk l=true) (hp:ps.length≤2097152) (hc:okL cs) (hn:name.size≤1048576) (h0:0≤off) (hf:4194304<fu) :
  ∃ s,p43 fu ((lo,up,e,z,l,ps,cs,k,ep,pr,sq,key,v,off,most,name,plan,0,0,false,(),()),())=some ((((wkS (lo,up,e,z,l,ps,cs,()) (k,ep,pr,sq,key,v,off,most,name,plan,())).1.1,(wkS (lo,up,e,z,l,ps,cs,()) (k,ep,pr,sq,key,v,off,most,name,plan,())).1.2.1,(wkS (lo,up,e,z,l,ps,cs,()) (k,ep,pr,sq,key,v,off,most,name,plan,())).1.2.2.1,(wkS (lo,up,e,z,l,ps,cs,()) (k,ep,pr,sq,key,v,off,most,name,plan,())).1.2.2.2.1,(wkS (lo,up,e,z,l,ps,cs,()) (k,ep,pr,sq,key,v,off,most,name,plan,())).1.2.2.2.2.1,(wkS (lo,up,e,z,l,ps,cs,()) (k,ep,pr,sq,key,v,off,most,name,plan,())).1.2.2.2.2.2.1,(wkS (lo,up,e,z,l,ps,cs,()) (k,ep,pr,sq,key,v,off,most,name,plan,())).1.2.2.2.2.2.2.1,k,ep,pr,sq,key,v,off,most,name,plan,(wkS (lo,up,e,z,l,ps,cs,()) (k,ep,pr,sq,key,v,off,most,name,plan,())).2.1.1,(wkS (lo,up,e,z,l,ps,cs,()) (k,ep,pr,sq,key,v,off,most,name,plan,())).2.1.2.1,(wkS (lo,up,e,z,l,ps,cs,()) (k,ep,pr,sq,key,v,off,most,name,plan,())).2.1.2.2.1,(wkS (lo,up,e,z,l,ps,cs,()) (k,ep,pr,sq,key,v,off,most,name,plan,())).2.1.2.2.2.1,()),(),(),(),()),wForm s (wkS (lo,up,e,z,l,ps,cs,()) (k,ep,pr,sq,key,v,off,most,name,plan,())).2.2) := by
 unfold wkS
 cases hw:wfS (k,ep,pr,sq,key,v,off,most,name,plan,()) with
 | false=>exact K5c _ _ _ _ _ _ _ _ _ _ _ _ _ _ _ _ _ hn hf hw
 | true =>
  simp only [Bool.true_eq_false,if_false]
  by_cases he:ep=e
  ·subst he
   simp only [if_true]
   have hk := Q9s hw
   have hm:∃ s,p75 fu ((lo,up,ep,z,l,ps,cs,k,ep,pr,sq,key,v,off,most,name,plan,0,0,false,(),()),())=some (((lo,up,ep,z,l,ps,cs,k,ep,pr,sq,key,v,off,most,name,plan,0,(mRes (mayS (lo,up,ep,z,l,ps,cs,()) (k,ep,pr,sq,key,v,off,most,name,plan,()))).1,(mRes (mayS (lo,up,ep,z,l,ps,cs,()) (k,ep,pr,sq,key,v,off,most,name,plan,()))).2,(),()),(),(),(),()),mForm s (mayS (lo,up,ep,z,l,ps,cs,()) (k,ep,pr,sq,key,v,off,most,name,plan,()))) := by
    simp only at hk
    rcases hk with rfl | rfl | rfl | rfl | rfl | rfl
    ·exact K4t _ _ _ _ _ _ _ _ _ _ _ _ _ _ _ _ hp hf
    ·exact K4u _ _ _ _ _ _ _ _ _ _ _ _ _ _ _ _ hp hf
    ·exact K4v _ _ _ _ _ _ _ _ _ _ _ _ _ _ _ _ hp hf
    ·exact K4w _ _ _ _ _ _ _ _ _ _ _ _ _ _ _ _ hp hf
    ·exact K4x _ _ _ _ _ _ _ _ _ _ _ _ _ _ _ _ hp hf
    ·exact K4y _ _ _ _ _ _ _ _ _ _ _ _ _ _ _ _ hp hf
   obtain ⟨s,hs⟩ := hm
   cases hmay:mayS (lo,up,ep,z,l,ps,cs,()) (k,ep,pr,sq,key,v,off,most,name,plan,()) with
   | some r =>
    rw [hmay] at hs
    cases r with
    | inl n=>exact ⟨s,K5e lo up 0 z l ps cs _ _ _ _ _ _ _ _ _ _ hn hf hw s n hs⟩
    | inr r=>exact ⟨⟨#[]⟩,K5f lo up 0 z l ps cs _ _ _ _ _ _ _ _ _ _ hn hf hw s r hs⟩
   | none =>
    rw [hmay] at hs
    simp only at hk
    rcases hk with rfl | rfl | rfl | rfl | rfl | rfl
    ·exact K5g _ _ _ _ _ _ _ _ _ _ _ _ _ _ _ hl hp hc h0 hn hf hw s hs
    ·exact K5h _ _ _ _ _ _ _ _ _ _ _ _ _ _ _ hl hp hc h0 hn hf hw s hs
    ·exact K5i _ _ _ _ _ _ _ _ _ _ _ _ _ _ _ hl hp hc h0 hn hf hw s hs
    ·exact K5j _ _ _ _ _ _ _ _ _ _ _ _ _ _ _ hl hp hc h0 hn hf hw s hs
    ·exact K5k _ _ _ _ _ _ _ _ _ _ _ _ _ _ _ hl hp hc h0 hn hf hw s hs
    ·exact K5l _ _ _ _ _ _ _ _ _ _ _ _ _ _ _ hl hp hc h0 hn hf hw s hs
  ·simp only [if_neg he]
   exact K5d _ _ _ _ _ _ _ _ _ _ _ _ _ _ _ _ _ hn hf hw he
theorem K5n (lo up:ByteArray) (e z:Int) (l:List Rd) (ps:List Pr) (cs:List Cn) (hl:logOk l=true) (hp:ps.length≤2097152) (hc:cs.length≤2097152) (hf:4194304<fu):p42 fu ((lo,up,e,z,l,ps,cs,()),())=some ((),(lo,up,e,z,l,ps,cs,())) := by
 have hn := (Q0v hl).1
 unfold p42
 simp only [Q9r l (X4k hl) (show l.length<fu by omega),K4g ps hp,X3j cs hc,Q0a,Qd,Qt]
def zeroP:St16 := (⟨#[]⟩,⟨#[]⟩,0,0,[],[],[],())
def doS (p:St16) (c:Cm16):St16×Rs16 :=
 if chkS p=false then (zeroP,(165,0,false,[],())) else match (wkS p c).2.2 with
  | some (some e)=>(p,(e,0,false,[],()))
  | _=>((wkS p c).1,(wkS p c).2.1)
def bndC (c:Cm16):Prop := c.2.2.2.2.2.2.2.2.1.size≤1048576∧0≤c.2.2.2.2.2.2.1
theorem Q9t (p:St16) (c:Cm16) (hb:bndS p) (hc:bndC c) (hf:4194304<fu):p9 fu (p,c,())=some ((),((doS p c).1,(doS p c).2,())) := by
 have h10 := Q7e (fu := fu) p hb hf
 obtain ⟨lo,up,e,z,l,ps,cs,⟨⟩⟩ := p
 obtain ⟨k,ep,pr,sq,key,v,off,most,name,plan,⟨⟩⟩ := c
 obtain ⟨b1,b2,b3,b4⟩ := hb
 unfold p9 doS
 simp only [h10,Q0a]
 cases hk:chkS (lo,up,e,z,l,ps,cs,()) with
 | false=>simp only [Qf,show ((165:Int) != 0)=true from rfl,Qt,if_true]; rfl
 | true =>
  have hl:logOk l=true := by
   simp only [chkS,Bool.and_eq_true] at hk
   exact hk.2.2.1
  obtain ⟨s,hs⟩ := K5m (fu := fu) lo up e z l ps cs k ep pr sq key v off most name plan hl b2 b3 hc.1 hc.2 hf
  simp only [Qt,show ((0:Int) != 0)=false from rfl,Qf,K5n lo up e z l ps cs hl b2 b3.1 hf,Q0a,Qd,Bool.true_eq_false,if_false,hs]
  cases hfo:(wkS (lo,up,e,z,l,ps,cs,()) (k,ep,pr,sq,key,v,off,most,name,plan,())).2.2 with
  | none=>rfl
  | some o =>
   cases o with
   | none=>rfl
   | some n=>rfl
end Go.Proofs.YtdkdhcakoccpfaaGreatDoor
namespace Go.Proofs.YtdkdhcakoccpfaaGreatDoor
open Go.RowKit
variable {fu:Nat}
theorem Q9u {R:Type} {S:Type} {f:S→Option (S ⊕ R)} {n:Nat} (mk:Nat→S) (rs:Bool→R) (hf:n<fu)
  (h:∀ i,i<n→(∃ b,f (mk i)=some (.inr (rs b))) ∨ f (mk i)=some (.inl (mk (i+1)))) (he:∃ b,f (mk n)=some (.inr (rs b))):∃ b,loopO fu f (mk 0)=some (rs b) := by
 have key:∀ k i m,i+k=n→k<m → ∃ b,loopO m f (mk i)=some (rs b) := by
  intro k
  induction k with
  | zero =>
   intro i m hi hm
   obtain ⟨m,rfl⟩:∃ q,m=q+1 := ⟨m-1,by omega⟩
   obtain rfl:i=n := by omega
   obtain ⟨b,hb⟩ := he
   exact ⟨b,by simp only [loopO,hb]⟩
  | succ k ih =>
   intro i m hi hm
   obtain ⟨m,rfl⟩:∃ q,m=q+1 := ⟨m-1,by omega⟩
   rcases h i (by omega) with ⟨b,hb⟩ | hb
   ·exact ⟨b,by simp only [loopO,hb]⟩
   ·obtain ⟨b,hb'⟩ := ih (i+1) m (by omega) (by omega)
    exact ⟨b,by simp only [loopO,hb]; exact hb'⟩
 exact key n 0 fu (by omega) hf
theorem K5o (a c:List Rd) (ha:a.length≤2097152) (hf:4194304<fu):∃ b,p52 fu (a,c,())=some ((),b) := by
 unfold p52
 by_cases hl:a.length=c.length
 ·have b0:((a.length:Int) != (c.length:Int))=false := by simp [hl]
  simp only [b0,Qf]
  refine Q9u (n := a.length) (fun i=>(((i:Int),()),())) (fun b=>((),b)) (by omega) (fun i hi => ?_) ⟨true,by simp only [Int.lt_irrefl,decide_false,Qf]; rfl⟩
  have hi':i<c.length := by omega
  simp only [Int.ofNat_lt,hi,hi',Qd,Qt,Int.natCast_nonneg,and_self,Int.toNat_natCast,Q0i hi (by omega)]
  cases (a.getD i (dflt T_api_Record)).1 != (c.getD i (dflt T_api_Record)).1
  ·cases !(ByteArray.toList (a.getD i (dflt T_api_Record)).2.1==ByteArray.toList (c.getD i (dflt T_api_Record)).2.1)
   ·cases !(ByteArray.toList (strOfNums (a.getD i (dflt T_api_Record)).2.2.1)==ByteArray.toList (strOfNums (c.getD i (dflt T_api_Record)).2.2.1))
    ·cases (a.getD i (dflt T_api_Record)).2.2.2.1 != (c.getD i (dflt T_api_Record)).2.2.2.1
     ·cases (a.getD i (dflt T_api_Record)).2.2.2.2 != (c.getD i (dflt T_api_Record)).2.2.2.2
      ·exact .inr rfl
      ·exact .inl ⟨_,rfl⟩
     ·exact .inl ⟨_,rfl⟩
    ·exact .inl ⟨_,rfl⟩
   ·exact .inl ⟨_,rfl⟩
  ·exact .inl ⟨_,rfl⟩
 ·have b0:((a.length:Int) != (c.length:Int))=true := by simp; omega
  simp only [b0,Qt]
  exact ⟨_,rfl⟩
theorem K5p (a c:List Pr) (ha:a.length≤2097152) (hf:4194304<fu):∃ b,p53 fu (a,c,())=some ((),b) := by
 unfold p53
 by_cases hl:a.length=c.length
 ·have b0:((a.length:Int) != (c.length:Int))=false := by simp [hl]
  simp only [b0,Qf]
  refine Q9u (n := a.length) (fun i=>(((i:Int),()),())) (fun b=>((),b)) (by omega) (fun i hi => ?_) ⟨true,by simp only [Int.lt_irrefl,decide_false,Qf]; rfl⟩
  have hi':i<c.length := by omega
  simp only [Int.ofNat_lt,hi,hi',Qd,Qt,Int.natCast_nonneg,and_self,Int.toNat_natCast,Q0i hi (by omega)]
  generalize (!((a.getD i (dflt T_api_Producer)).1==(c.getD i (dflt T_api_Producer)).1 && ((a.getD i (dflt T_api_Producer)).2.1==(c.getD i (dflt T_api_Producer)).2.1 && ((a.getD i (dflt T_api_Producer)).2.2.1==(c.getD i (dflt T_api_Producer)).2.2.1 && ((a.getD i (dflt T_api_Producer)).2.2.2==(c.getD i (dflt T_api_Producer)).2.2.2 && true)))))=q
  cases q
  ·exact .inr rfl
  ·exact .inl ⟨_,rfl⟩
 ·have b0:((a.length:Int) != (c.length:Int))=true := by simp; omega
  simp only [b0,Qt]
  exact ⟨_,rfl⟩
theorem K5q (a c:List Cn) (ha:a.length≤2097152) (hf:4194304<fu):∃ b,p54 fu (a,c,())=some ((),b) := by
 unfold p54
 by_cases hl:a.length=c.length
 ·have b0:((a.length:Int) != (c.length:Int))=false := by simp [hl]
  simp only [b0,Qf]
  refine Q9u (n := a.length) (fun i=>(((i:Int),()),())) (fun b=>((),b)) (by omega) (fun i hi => ?_) ⟨true,by simp only [Int.lt_irrefl,decide_false,Qf]; rfl⟩
  have hi':i<c.length := by omega
  simp only [Int.ofNat_lt,hi,hi',Qd,Qt,Int.natCast_nonneg,and_self,Int.toNat_natCast,Q0i hi (by omega)]
  generalize (!((a.getD i (dflt T_runtime_errorAddressString)).1==(c.getD i (dflt T_runtime_errorAddressString)).1 && ((a.getD i (dflt T_runtime_errorAddressString)).2==(c.getD i (dflt T_runtime_errorAddressString)).2 && true)))=q
  cases q
  ·exact .inr rfl
  ·exact .inl ⟨_,rfl⟩
 ·have b0:((a.length:Int) != (c.length:Int))=true := by simp; omega
  simp only [b0,Qt]
  exact ⟨_,rfl⟩
theorem K5r (p q:St16) (h1:p.2.2.2.2.1.length≤2097152) (h2:p.2.2.2.2.2.1.length≤2097152) (h3:p.2.2.2.2.2.2.1.length≤2097152) (hf:4194304<fu) :
  ∃ b,p11 fu (p,q,())=some ((),b)∧(p=q→b=true) := by
 obtain ⟨lo,up,e,z,l,ps,cs,⟨⟩⟩ := p
 obtain ⟨lo',up',e',z',l',ps',cs',⟨⟩⟩ := q
 by_cases heq:((lo,up,e,z,l,ps,cs,()):St16)=(lo',up',e',z',l',ps',cs',())
 ·refine ⟨true,?_,fun _=>rfl⟩
  simp only [Prod.mk.injEq] at heq
  obtain ⟨rfl,rfl,rfl,rfl,rfl,rfl,rfl,-⟩ := heq
  unfold p11
  have g2:ps.length≤2097152 := h2
  simp only [X3v l h1 hf,K3z ps (by omega) (show ps.length<fu by omega),K3l cs h3 hf,Q0a,Qt,beq_self_eq_true,X3h,Bool.and_self]
 ·obtain ⟨b1,e1⟩ := K5o (fu := fu) l l' h1 hf
  obtain ⟨b2,e2⟩ := K5p (fu := fu) ps ps' h2 hf
  obtain ⟨b3,e3⟩ := K5q (fu := fu) cs cs' h3 hf
  unfold p11
  simp only [e1,e2,e3,Q0a]
  generalize (lo==lo' && (up==up' && true))=b4
  generalize (e==e')=b5
  generalize (z==z')=b6
  cases b1 <;> cases b2 <;> cases b3 <;> cases b4 <;> cases b5 <;> exact ⟨_,rfl,fun h=>absurd h heq⟩
def seqO (ps:List Pr) (id:Int):Int := match find ps id with | some y=>y.2.1 | none=>0
theorem X4s (lo hi:ByteArray) (ps:List Pr) (b:List Rd) (x:Rd):recOk1 lo hi ps b x=true ↔ ∃ y,find ps x.2.2.2.1=some y∧hasB lo hi x.2.1=true∧lastS b x.2.2.2.1<x.2.2.2.2∧x.2.2.2.2≤y.2.1 := by
 unfold recOk1
 rw [Q9n ps x.2.2.2.1 noPr]
 simp only [Bool.and_eq_true,decide_eq_true_eq]
 by_cases h:findI ps x.2.2.2.1<ps.length
 ·simp only [h,if_true,true_and,Option.some.injEq]
  constructor
  ·rintro ⟨h1,h2,h3⟩; exact ⟨_,rfl,h1,h2,h3⟩
  ·rintro ⟨y,rfl,h1,h2,h3⟩; exact ⟨h1,h2,h3⟩
 ·simp [h]
def RecsOk (lo hi:ByteArray) (ps:List Pr) (l:List Rd):Prop := ∀ j (h:j<l.length),∃ y,find ps l[j].2.2.2.1=some y∧hasB lo hi l[j].2.1=true∧lastS (l.take j) l[j].2.2.2.1<l[j].2.2.2.2∧l[j].2.2.2.2≤y.2.1
theorem K5s (lo hi:ByteArray) (ps:List Pr) (l:List Rd):(List.range l.length).all (recOk lo hi ps l)=true ↔ RecsOk lo hi ps l := by
 rw [List.all_eq_true]
 constructor
 ·intro h j hj
  have := h j (List.mem_range.2 hj)
  unfold recOk at this
  rw [Q0k hj,X4s] at this
  exact this
 ·intro h j hj
  have hj' := List.mem_range.1 hj
  unfold recOk
  rw [Q0k hj',X4s]
  exact h j hj'
theorem Q1j (lo hi:ByteArray) (e z:Int) (l:List Rd) (ps:List Pr) (cs:List Cn):chkS (lo,hi,e,z,l,ps,cs,())=true ↔
  chkB lo hi=0∧e ≠ 0∧logOk l=true∧tabI ps=true∧okC cs=true∧RecsOk lo hi ps l∧(∀ y ∈ ps,proOk l y=true) ∧ ∀ y ∈ cs,y.2≤(l.length:Int) := by
 unfold chkS
 simp only [Bool.and_eq_true,beq_iff_eq,bne_iff_ne]
 rw [K5s]
 simp only [List.all_eq_true,conOk,decide_eq_true_eq]
theorem X4t {ps:List Pr} (h:tabI ps=true) {id:Int} {y:Pr} (hy:find ps id=some y):1≤y.2.1∧y.1=id∧y ∈ ps := by
 unfold find at hy
 have h1 := List.mem_of_find?_eq_some hy
 have h2:(y.1==id)=true := by
  have := List.find?_some hy
  exact this
 have h3 := ((Q2l ps).1 h).1 y h1
 unfold okP seqB at h3
 simp only [Bool.and_eq_true,decide_eq_true_eq] at h3
 exact ⟨h3.2.1.1,by simpa using h2,h1⟩
theorem X4u {lo hi:ByteArray} {ps:List Pr} {l:List Rd} (ht:tabI ps=true) (h:RecsOk lo hi ps l) (id:Int):∀ n,n≤l.length→lastS (l.take n) id≤seqO ps id
 | 0,_=>by
  simp only [List.take_zero,lastS,List.foldl_nil]
  unfold seqO
  cases hy:find ps id with
  | none=>exact Int.le_refl _
  | some y=>have := (X4t ht hy).1; simp only; omega
 | n+1,hn=>by
  have ih := X4u ht h id n (by omega)
  rw [Q2y (show n<l.length by omega) noRec,Q0k (show n<l.length by omega),X4o]
  split
  ·rename_i e
   obtain ⟨y,h1,_,_,h4⟩ := h n (by omega)
   rw [e] at h1
   unfold seqO
   rw [h1]
   exact h4
  ·exact ih
theorem Q9v (l:List Cn):okC l=true ↔ Rises l∧(∀ x ∈ l,nameB x.1=true)∧l.length≤64 := by
 constructor
 ·intro h
  refine ⟨(Q3k h).1,fun x hx => ?_,(Q3k h).2⟩
  obtain ⟨i,hi,rfl⟩ := List.getElem_of_mem hx
  unfold okC at h
  cases hb:(List.range l.length).any (bad l) with
  | true=>rw [hb] at h; exact absurd h Bool.false_ne_true
  | false =>
   have := List.any_eq_false.1 hb i (List.mem_range.2 hi)
   unfold bad at this
   rw [Q0k hi] at this
   cases hn:nameB l[i].1 with
   | false=>rw [hn] at this; exact absurd rfl this
   | true=>rfl
 ·rintro ⟨h1,h2,h3⟩
  unfold okC
  have:(List.range l.length).any (bad l)=false := by
   rw [List.any_eq_false]
   intro i hi
   have hi' := List.mem_range.1 hi
   unfold bad
   rw [Q0k hi',h2 _ (List.getElem_mem hi')]
   simp only [Bool.not_true,Qf]
   by_cases h0:0<i
   ·have g:∀ d,l.getD (i-1) d=l[i-1] := fun d=>Q0k (by omega)
    have := List.pairwise_iff_getElem.1 h1 (i-1) i (by omega) hi' (by omega)
    simp only [h0,Qd,Qt,g,Q3y,this,Bool.not_true]
    exact Bool.false_ne_true
   ·simp only [h0,decide_false,Qf]
    exact Bool.false_ne_true
  rw [this]
  simpa using h3
theorem K5t {a:ByteArray} (h:nameB a=true):a.size≤32 := by
 unfold nameB at h
 cases hq:(numsOf a).any qb with
 | true=>rw [hq] at h; cases h
 | false=>rw [hq] at h; simp only [Qf,decide_eq_true_eq] at h; exact h.2
theorem Q7f {ps:List Pr} {pr sq:Int} (h:(judge ps pr sq).1=1):pr ≠ 0∧seqB sq=true∧seqO ps pr<sq := by
 unfold judge at h
 by_cases h0:pr=0
 ·simp [h0] at h
 ·cases hs:seqB sq with
  | false=>simp [h0,hs] at h
  | true =>
   refine ⟨h0,rfl,?_⟩
   have hq:1≤sq := by
    unfold seqB at hs
    simp only [Bool.and_eq_true,decide_eq_true_eq] at hs
    exact hs.1
   unfold seqO
   cases hf:find ps pr with
   | none=>simp only; omega
   | some y =>
    simp only [h0,hs,hf,if_false,Bool.true_eq_false] at h
    by_cases h1:sq>y.2.1
    ·exact h1
    ·simp only [h1,if_false] at h
     split at h <;> simp at h
theorem X4v {ps:List Pr} {x:Pr} (hx:x.1 ≠ 0∧seqB x.2.1=true∧(x.2.2.1=true ∨ x.2.2.2=0)) (h:(putS ps x).2=0):(putS ps x).1=ins ps x∧tabI (ins ps x)=true := by
 unfold putS at h ⊢
 cases ht:tabI ps with
 | false=>simp [ht] at h
 | true =>
  simp only [ht,Bool.true_eq_false,if_false] at h ⊢
  by_cases g1:(judge ps x.1 x.2.1).1=4
  ·simp [g1] at h
  by_cases g2:(judge ps x.1 x.2.1).1=2
  ·simp [g2] at h
  by_cases g3:(judge ps x.1 x.2.1).1=3
  ·simp [g3] at h
  by_cases g4:(ins ps x).length>256
  ·simp [g1,g2,g3,g4] at h
  simp only [g1,g2,g3,g4,if_false]
  refine ⟨trivial,K3x ht ?_ (by omega)⟩
  unfold okP
  simp only [Bool.and_eq_true,Bool.not_eq_true',beq_eq_false_iff_ne,Bool.or_eq_true,beq_iff_eq]
  exact ⟨hx.1,hx.2.1,hx.2.2⟩
theorem K5u {l:List Rd} {y:Pr} (r:List Rd) (h0:0≤y.2.2.2) (h:proOk l y=true):proOk (l ++ r) y=true := by
 unfold proOk at h ⊢
 cases hh:y.2.2.1 with
 | false=>rfl
 | true =>
  rw [hh] at h
  simp only [Bool.not_true,Bool.false_or,Bool.and_eq_true,decide_eq_true_eq] at h ⊢
  have hn:y.2.2.2.toNat<l.length := by omega
  have e:(l ++ r).getD y.2.2.2.toNat noRec=l.getD y.2.2.2.toNat noRec := by
   rw [List.getD_eq_getElem?_getD,List.getD_eq_getElem?_getD,List.getElem?_append_left hn]
  rw [e]
  exact ⟨by rw [List.length_append]; omega,h.2⟩
end Go.Proofs.YtdkdhcakoccpfaaGreatDoor
namespace Go.Proofs.YtdkdhcakoccpfaaGreatDoor
open Go.RowKit
variable {fu:Nat}
def InvP (p:St16):Prop := chkS p=true∧(∀ y ∈ p.2.2.2.2.2.1,0≤y.2.2.2) ∧ ∀ y ∈ p.2.2.2.2.2.2.1,0≤y.2
theorem nx {k m:Int} (h:k=m) (hn:(k==m)=false):False := by simp [h] at hn
theorem Q9w {p:St16} (h:InvP p):bndS p := by
 obtain ⟨lo,up,e,z,l,ps,cs,⟨⟩⟩ := p
 obtain ⟨h1,h2,h3⟩ := h
 obtain ⟨-,-,g1,g2,g3,-,-,g4⟩ := (Q1j lo up e z l ps cs).1 h1
 have n1 := (Q0v g1).1
 have n2 := ((Q2l ps).1 g2).2.2
 obtain ⟨-,n3,n4⟩ := (Q9v cs).1 g3
 refine ⟨by omega,by omega,⟨by omega,fun x hx => ?_⟩,h2⟩
 have := K5t (n3 x hx)
 have a1 := h3 x hx
 have a2 := g4 x hx
 exact ⟨by omega,a1,by omega⟩
theorem K5v {l:List Rd} (h:l.length≤4096) (hx:∀ i (hi:i<l.length),l[i].1=(i:Int)∧l[i].2.1.size≤32∧l[i].2.2.1.length≤256):logOk l=true := by
 unfold logOk
 have:(List.range l.length).any (wrong l)=false := by
  rw [List.any_eq_false]
  intro i hi
  have hi' := List.mem_range.1 hi
  obtain ⟨h1,h2,h3⟩ := hx i hi'
  unfold wrong
  rw [Q0k hi']
  have g1:(l[i].1 != (i:Int))=false := by simp [h1]
  have g2:¬ l[i].2.1.size>32 := by omega
  have g3:¬ l[i].2.2.1.length>256 := by omega
  simp [g1,g2,g3]
 rw [this]
 simpa using h
theorem K5w {lo up:ByteArray} {e z:Int} {l:List Rd} {ps:List Pr} {cs:List Cn} {pr sq:Int} {key:ByteArray} {v:List Int} (h:chkS (lo,up,e,z,l,ps,cs,())=true) (h0:∀ y ∈ ps,0≤y.2.2.2)
  (hh:hasB lo up key=true) (hj:(judge ps pr sq).1=1) (hk:key.size≤32) (hv:v.length≤256) (he:(prodS l ps pr sq key v).2.2.2=0) :
  prodS l ps pr sq key v=(l ++ [((l.length:Int),key,v,pr,sq)],ins ps (pr,sq,true,(l.length:Int)),(l.length:Int),0) ∧
   chkS (lo,up,e,z,l ++ [((l.length:Int),key,v,pr,sq)],ins ps (pr,sq,true,(l.length:Int)),cs,())=true := by
 obtain ⟨a1,a2,a3,a4,a5,a6,a7,a8⟩ := (Q1j lo up e z l ps cs).1 h
 obtain ⟨j1,j2,j3⟩ := Q7f hj
 unfold prodS at he ⊢
 by_cases hn:l.length<4096
 ·simp only [hn,if_true] at he ⊢
  by_cases hp:(putS ps (pr,sq,true,(l.length:Int))).2=0
  ·obtain ⟨p1,p2⟩ := X4v (ps := ps) (x := (pr,sq,true,(l.length:Int))) ⟨j1,j2,.inl rfl⟩ hp
   simp only [hp,if_true,p1]
   refine ⟨trivial,?_⟩
   rw [Q1j]
   obtain ⟨b1,b2⟩ := Q0v a3
   refine ⟨a1,a2,K5v (by rw [List.length_append]; simp; omega) fun i hi => ?_,p2,a5,fun j hj => ?_,fun y hy => ?_,fun y hy => ?_⟩
   ·rw [List.length_append,List.length_singleton] at hi
    by_cases hi':i<l.length
    ·rw [List.getElem_append_left hi']
     exact b2 i hi'
    ·obtain rfl:i=l.length := by omega
     rw [List.getElem_append_right (Nat.le_refl _)]
     simp only [Nat.sub_self,List.getElem_cons_zero]
     exact ⟨trivial,hk,hv⟩
   ·rw [List.length_append,List.length_singleton] at hj
    by_cases hi':j<l.length
    ·rw [List.getElem_append_left hi',List.take_append_of_le_length (by omega)]
     obtain ⟨y,c1,c2,c3,c4⟩ := a6 j hi'
     rw [Q5j]
     by_cases hq:pr=l[j].2.2.2.1
     ·refine ⟨_,if_pos hq,c2,c3,?_⟩
      have:seqO ps pr=y.2.1 := by unfold seqO; rw [hq,c1]
      simp only
      omega
     ·exact ⟨y,by rw [if_neg hq]; exact c1,c2,c3,c4⟩
    ·obtain rfl:j=l.length := by omega
     rw [List.getElem_append_right (Nat.le_refl _),List.take_append_of_le_length (Nat.le_refl _),List.take_length]
     simp only [Nat.sub_self,List.getElem_cons_zero]
     have := X4u a4 a6 pr l.length (Nat.le_refl _)
     rw [List.take_length] at this
     exact ⟨_,by rw [Q5j,if_pos rfl],hh,by omega,Int.le_refl _⟩
   ·rcases Q2x hy with rfl | hy
    ·unfold proOk
     have hg:(l ++ [((l.length:Int),key,v,pr,sq)]).getD l.length noRec=((l.length:Int),key,v,pr,sq) := by
      rw [List.getD_eq_getElem?_getD,List.getElem?_append_right (Nat.le_refl _)]; simp
     simp only [Int.toNat_natCast,hg,List.length_append,List.length_singleton,beq_self_eq_true,Bool.and_self,Bool.and_true,Bool.not_true,Bool.false_or,decide_eq_true_eq]
     omega
    ·exact K5u _ (h0 y hy) (a7 y hy)
   ·have := a8 y hy
    rw [List.length_append]
    omega
  ·simp only [hp,if_false] at he
 ·simp [hn] at he
theorem K5x {lo up:ByteArray} {e z:Int} {l:List Rd} {ps:List Pr} {cs:List Cn} {pr sq:Int} {name:ByteArray} {off:Int} (h:chkS (lo,up,e,z,l,ps,cs,())=true)
  (hj:(judge ps pr sq).1=1) (he:(comS cs ps pr sq name off (l.length:Int)).2.2.2=0) :
  comS cs ps pr sq name off (l.length:Int)=(ins ps (pr,sq,false,0),insS cs (name,off),off,0) ∧
   chkS (lo,up,e,z,l,ins ps (pr,sq,false,0),insS cs (name,off),())=true := by
 obtain ⟨a1,a2,a3,a4,a5,a6,a7,a8⟩ := (Q1j lo up e z l ps cs).1 h
 obtain ⟨j1,j2,j3⟩ := Q7f hj
 unfold comS at he ⊢
 by_cases hn:(commitS cs name off (l.length:Int)).2=0
 ·simp only [hn,if_true] at he ⊢
  by_cases hp:(putS ps (pr,sq,false,0)).2=0
  ·obtain ⟨p1,p2⟩ := X4v (ps := ps) (x := (pr,sq,false,0)) ⟨j1,j2,.inr rfl⟩ hp
   simp only [hp,if_true,p1]
   have hc:(commitS cs name off (l.length:Int)).1=insS cs (name,off)∧nameB name=true∧off≤(l.length:Int)∧(insS cs (name,off)).length≤64 := by
    unfold commitS at hn ⊢
    rw [a5] at hn ⊢
    simp only [Bool.not_true,Qf] at hn ⊢
    cases hnm:nameB name with
    | false=>rw [hnm] at hn; simp at hn
    | true =>
     rw [hnm] at hn
     simp only [Bool.not_true,Qf] at hn ⊢
     by_cases g1:off>(l.length:Int)
     ·simp [g1] at hn
     ·by_cases g2:(insS cs (name,off)).length≤64
      ·simp only [g1,g2,Qd,decide_false,Qt,Qf]
       exact ⟨trivial,trivial,by omega,trivial⟩
      ·simp [g1,g2] at hn
   obtain ⟨c1,c2,c3,c4⟩ := hc
   rw [c1]
   refine ⟨rfl,?_⟩
   rw [Q1j]
   obtain ⟨o1,o2,o3⟩ := (Q9v cs).1 a5
   refine ⟨a1,a2,a3,p2,(Q9v _).2 ⟨X3p o1,fun x hx => ?_,c4⟩,fun j hj => ?_,fun y hy => ?_,fun y hy => ?_⟩
   ·rcases Q3z hx with rfl | hx
    ·exact c2
    ·exact o2 x hx
   ·obtain ⟨y,d1,d2,d3,d4⟩ := a6 j hj
    rw [Q5j]
    by_cases hq:pr=l[j].2.2.2.1
    ·refine ⟨_,if_pos hq,d2,d3,?_⟩
     have:seqO ps pr=y.2.1 := by unfold seqO; rw [hq,d1]
     simp only
     omega
    ·exact ⟨y,by rw [if_neg hq]; exact d1,d2,d3,d4⟩
   ·rcases Q2x hy with rfl | hy
    ·rfl
    ·exact a7 y hy
   ·rcases Q3z hy with rfl | hy
    ·exact c3
    ·exact a8 y hy
  ·simp only [hp,if_false] at he
 ·simp only [hn,if_false] at he
theorem X4w {p:St16} {c:Cm16} {n:Int} (h:mayS p c=some (.inl n)):n ≠ 0 := by
 obtain ⟨lo,up,e,z,l,ps,cs,⟨⟩⟩ := p
 obtain ⟨k,ep,pr,sq,key,v,off,most,name,plan,⟨⟩⟩ := c
 unfold mayS at h
 simp only at h
 repeat' split at h
 all_goals first | (simp only [Option.some.injEq,Sum.inl.injEq] at h; omega) | (simp at h; done)
theorem K5y {ps:List Pr} {pr sq:Int} (h:(judge ps pr sq).1=2):∃ y,find ps pr=some y∧sq=y.2.1∧y.2.2.1=true∧(judge ps pr sq).2=y.2.2.2 := by
 unfold judge at h ⊢
 by_cases h0:pr=0
 ·simp [h0] at h
 ·cases hs:seqB sq with
  | false=>simp [h0,hs] at h
  | true =>
   cases hf:find ps pr with
   | none=>simp [h0,hs,hf] at h
   | some y =>
    simp only [h0,hs,hf,if_false,Bool.true_eq_false] at h ⊢
    by_cases h1:sq>y.2.1
    ·simp [h1] at h
    ·by_cases h2:sq=y.2.1∧y.2.2.1=true
     ·rw [if_neg h1,if_pos h2]
      exact ⟨y,rfl,h2.1,h2.2,rfl⟩
     ·simp [h1,h2] at h
theorem X4x (ps:List Pr) {pr sq:Int} (b:Bool) (o:Int) (h0:pr ≠ 0) (hs:seqB sq=true):judge (ins ps (pr,sq,b,o)) pr sq=if b=true then (2,o) else (3,0) := by
 unfold judge
 rw [Q5j]
 simp [h0,hs]
structure Left (p:St16) (c:Cm16) (d:St16×Rs16):Prop where
 inv:InvP d.1
 same:d.2.1 ≠ 0 ∨ c.1=2 ∨ c.1=4→d.1=p
 recs:d.1.2.2.2.2.1=p.2.2.2.2.1 ∨ ∃ x,d.1.2.2.2.2.1=p.2.2.2.2.1 ++ [x]
 there:c.1=1→d.2.1=0→0≤d.2.2.1 ∧ ∃ h:d.2.2.1.toNat<d.1.2.2.2.2.1.length,(d.1.2.2.2.2.1[d.2.2.1.toNat]).2.2.2.1=c.2.2.1∧(d.1.2.2.2.2.1[d.2.2.1.toNat]).2.2.2.2=c.2.2.2.1
 again:(doS d.1 c).1=d.1∧(doS d.1 c).2.1=d.2.1∧(d.2.1=0→c.1=3→(doS d.1 c).2.2.2.1=true)
theorem Q2m {p:St16} {c:Cm16} {r:Rs16} (hI:InvP p) (hd:doS p c=(p,r)) (h1:c.1=1→r.1=0→0≤r.2.1 ∧ ∃ h:r.2.1.toNat<p.2.2.2.2.1.length,(p.2.2.2.2.1[r.2.1.toNat]).2.2.2.1=c.2.2.1∧(p.2.2.2.2.1[r.2.1.toNat]).2.2.2.2=c.2.2.2.1)
  (h3:r.1=0→c.1=3→r.2.2.1=true):Left p c (doS p c) := by
 rw [hd]
 exact ⟨hI,fun _=>rfl,.inl rfl,h1,by rw [hd]; exact ⟨rfl,rfl,h3⟩⟩
theorem Q1u {p:St16} {c:Cm16} (hw:wfS c=true) (he:c.2.1=p.2.2.1):wkS p c=match mayS p c with
  | some (.inl n)=>(p,(0,0,false,[],()),some (some n))
  | some (.inr r)=>(p,(0,r.1,r.2,[],()),some none)
  | none=>actS p c := by
 unfold wkS
 simp only [hw,he,Bool.true_eq_false,if_false,if_true] <;> rcases mayS p c with _ | _ | _ <;> rfl
theorem Q0o {p:St16} {c:Cm16} (h:chkS p=true):doS p c=match (wkS p c).2.2 with
  | some (some e)=>(p,(e,0,false,[],()))
  | _=>((wkS p c).1,(wkS p c).2.1) := by
 unfold doS
 simp only [h,Bool.true_eq_false,if_false] <;> rcases (wkS p c).2.2 with _ | _ | _ <;> rfl
theorem K5z (p:St16) (c:Cm16) (hI:InvP p) (hc:bndC c):Left p c (doS p c) := by
 have hchk := hI.1
 cases hw:wfS c with
 | false =>
  refine Q2m (r := (161,0,false,[],())) hI ?_ (fun _ h=>(nx h rfl).elim) (fun h=>(nx h rfl).elim)
  rw [Q0o hchk]
  unfold wkS
  simp only [hw,if_true]
 | true =>
  by_cases he:c.2.1=p.2.2.1
  ·have hwk := Q1u (p := p) hw he
   cases hm:mayS p c with
   | some r =>
    rw [hm] at hwk
    cases r with
    | inl n =>
     refine Q2m (r := (n,0,false,[],())) hI ?_ (fun _ h=>absurd h (X4w hm)) (fun h=>absurd h (X4w hm))
     rw [Q0o hchk,hwk]
    | inr r =>
     have hd:doS p c=(p,(0,r.1,r.2,[],())) := by rw [Q0o hchk,hwk]
     obtain ⟨lo,up,e,z,l,ps,cs,⟨⟩⟩ := p
     obtain ⟨k,ep,pr,sq,key,v,off,most,name,plan,⟨⟩⟩ := c
     obtain ⟨a1,a2,a3,a4,a5,a6,a7,a8⟩ := (Q1j lo up e z l ps cs).1 hchk
     refine Q2m hI hd (fun h1 _ => ?_) (fun _ h3 => ?_)
     ·simp only at h1
      subst h1
      rw [Q0y] at hm
      simp only [if_true] at hm
      by_cases hh:hasB lo up key=true
      ·rw [if_pos hh] at hm
       unfold nwS at hm
       by_cases j1:(judge ps pr sq).1=1
       ·simp only [j1,if_true,Option.none_or] at hm
        split at hm <;> simp at hm
       ·by_cases j2:(judge ps pr sq).1=2
        ·simp only [j2,if_true,Option.some_or,Option.some.injEq,Sum.inr.injEq,show ¬ ((2:Int)=1) by decide,show ¬ ((1:Int)=3) by decide,if_false] at hm
         obtain ⟨y,y1,y2,y3,y4⟩ := K5y j2
         have hy := X4t a4 y1
         have hpo := a7 y hy.2.2
         unfold proOk at hpo
         rw [y3] at hpo
         simp only [Bool.not_true,Bool.false_or,Bool.and_eq_true,decide_eq_true_eq,beq_iff_eq] at hpo
         have hz := hI.2.1 y hy.2.2
         have hlt:y.2.2.2.toNat<l.length := by omega
         rw [Q0k hlt] at hpo
         subst hm
         simp only [y4]
         exact ⟨hz,hlt,by rw [hpo.2.1]; exact hy.2.1,by rw [hpo.2.2]; exact y2.symm⟩
        ·simp [j1,j2] at hm
      ·rw [if_neg hh] at hm; simp at hm
     ·simp only at h3
      subst h3
      rw [Q0y] at hm
      simp only [if_true,show ¬ ((3:Int)=1) by decide,if_false] at hm
      unfold nwS at hm
      by_cases j1:(judge ps pr sq).1=1
      ·simp only [j1,if_true,Option.none_or] at hm
       split at hm <;> simp at hm
      ·simp only [j1,if_true,if_false,Option.some_or,Option.some.injEq,Sum.inr.injEq] at hm
       subst hm
       rfl
   | none =>
    rw [hm] at hwk
    simp only at hwk
    obtain ⟨lo,up,e,z,l,ps,cs,⟨⟩⟩ := p
    obtain ⟨k,ep,pr,sq,key,v,off,most,name,plan,⟨⟩⟩ := c
    simp only at he
    subst he
    have hk := Q9s hw
    simp only at hk
    rw [Q0y] at hm
    rcases hk with rfl | rfl | rfl | rfl | rfl | rfl
    ·-- a record
     simp only [if_true] at hm
     by_cases hh:hasB lo up key=true
     ·rw [if_pos hh] at hm
      have j1:(judge ps pr sq).1=1 := by
       by_cases j1:(judge ps pr sq).1=1
       ·exact j1
       ·unfold nwS at hm
        by_cases j2:(judge ps pr sq).1=2 <;> simp [j1,j2] at hm
      obtain ⟨j2,j3,j4⟩ := Q7f j1
      have hwf := hw
      simp only [wfS,if_true,Bool.and_eq_true,decide_eq_true_eq] at hwf
      by_cases hp:(prodS l ps pr sq key v).2.2.2=0
      ·obtain ⟨q1,q2⟩ := K5w hchk hI.2.1 hh j1 hwf.2.1 hwf.2.2 hp
       have hd:doS (lo,up,ep,z,l,ps,cs,()) (1,ep,pr,sq,key,v,off,most,name,plan,())=((lo,up,ep,z,l ++ [((l.length:Int),key,v,pr,sq)],ins ps (pr,sq,true,(l.length:Int)),cs,()),(0,(l.length:Int),false,[],())) := by
        rw [Q0o hchk,hwk]
        unfold actS errF
        simp only [q1,if_true]
       have hInv:InvP (lo,up,ep,z,l ++ [((l.length:Int),key,v,pr,sq)],ins ps (pr,sq,true,(l.length:Int)),cs,()) := by
        refine ⟨q2,fun y hy => ?_,hI.2.2⟩
        rcases Q2x hy with rfl | hy
        ·exact Int.natCast_nonneg _
        ·exact hI.2.1 y hy
       have hd2:doS (lo,up,ep,z,l ++ [((l.length:Int),key,v,pr,sq)],ins ps (pr,sq,true,(l.length:Int)),cs,()) (1,ep,pr,sq,key,v,off,most,name,plan,())=((lo,up,ep,z,l ++ [((l.length:Int),key,v,pr,sq)],ins ps (pr,sq,true,(l.length:Int)),cs,()),(0,(l.length:Int),true,[],())) := by
        rw [Q0o q2,Q1u hw rfl,Q0y]
        unfold nwS
        rw [X4x ps true _ j2 j3]
        simp only [if_true,hh,show ¬ ((2:Int)=1) by decide,show ¬ ((1:Int)=3) by decide,if_false,Option.some_or]
       rw [hd]
       refine ⟨hInv,fun h => ?_,.inr ⟨_,rfl⟩,fun _ _=>⟨Int.natCast_nonneg _,?_⟩,by rw [hd2]; exact ⟨rfl,rfl,fun _ h=>(nx h rfl).elim⟩⟩
       ·rcases h with h | h | h
        ·exact absurd rfl h
        ·exact (nx h rfl).elim
        ·exact (nx h rfl).elim
       ·simp only [Int.toNat_natCast]
        refine ⟨by rw [List.length_append]; simp,?_⟩
        rw [List.getElem_append_right (Nat.le_refl _)]
        simp only [Nat.sub_self,List.getElem_cons_zero]
        exact ⟨trivial,trivial⟩
      ·refine Q2m (r := ((prodS l ps pr sq key v).2.2.2,0,false,[],())) hI ?_ (fun _ h=>absurd h hp) (fun h=>absurd h hp)
       rw [Q0o hchk,hwk]
       unfold actS errF
       simp only [if_true,hp,if_false]
     ·rw [if_neg hh] at hm; simp at hm
    ·-- a fetch
     by_cases hp:(fetchS l off most).2.2=0
     ·refine Q2m (r := (0,(fetchS l off most).2.1,false,(fetchS l off most).1,())) hI ?_ (fun h=>(nx h rfl).elim) (fun _ h=>(nx h rfl).elim)
      rw [Q0o hchk,hwk]
      unfold actS errF
      simp only [if_true,hp,show ¬ ((2:Int)=1) by decide,if_false]
     ·refine Q2m (r := ((fetchS l off most).2.2,0,false,[],())) hI ?_ (fun h=>(nx h rfl).elim) (fun _ h=>(nx h rfl).elim)
      rw [Q0o hchk,hwk]
      unfold actS errF
      simp only [if_true,hp,show ¬ ((2:Int)=1) by decide,if_false]
    ·-- a place of a consumer
     simp only [if_true,show ¬ ((3:Int)=1) by decide,if_false] at hm
     have j1:(judge ps pr sq).1=1 := by
      by_cases j1:(judge ps pr sq).1=1
      ·exact j1
      ·unfold nwS at hm
       simp [j1] at hm
     obtain ⟨j2,j3,j4⟩ := Q7f j1
     by_cases hp:(comS cs ps pr sq name off (l.length:Int)).2.2.2=0
     ·obtain ⟨q1,q2⟩ := K5x hchk j1 hp
      have hd:doS (lo,up,ep,z,l,ps,cs,()) (3,ep,pr,sq,key,v,off,most,name,plan,())=((lo,up,ep,z,l,ins ps (pr,sq,false,0),insS cs (name,off),()),(0,off,false,[],())) := by
       rw [Q0o hchk,hwk]
       unfold actS errF
       simp only [q1,if_true,show ¬ ((3:Int)=1) by decide,show ¬ ((3:Int)=2) by decide,if_false]
      have hInv:InvP (lo,up,ep,z,l,ins ps (pr,sq,false,0),insS cs (name,off),()) := by
       refine ⟨q2,fun y hy => ?_,fun y hy => ?_⟩
       ·rcases Q2x hy with rfl | hy
        ·exact Int.le_refl _
        ·exact hI.2.1 y hy
       ·rcases Q3z hy with rfl | hy
        ·exact hc.2
        ·exact hI.2.2 y hy
      have hd2:doS (lo,up,ep,z,l,ins ps (pr,sq,false,0),insS cs (name,off),()) (3,ep,pr,sq,key,v,off,most,name,plan,())=((lo,up,ep,z,l,ins ps (pr,sq,false,0),insS cs (name,off),()),(0,0,true,[],())) := by
       rw [Q0o q2,Q1u hw rfl,Q0y]
       unfold nwS
       rw [X4x ps false _ j2 j3]
       simp only [if_true,show ¬ ((3:Int)=1) by decide,if_false,Bool.false_eq_true,Option.some_or]
      rw [hd]
      refine ⟨hInv,fun h => ?_,.inl rfl,fun h=>(nx h rfl).elim,by rw [hd2]; exact ⟨rfl,rfl,fun _ _=>rfl⟩⟩
      rcases h with h | h | h
      ·exact absurd rfl h
      ·exact (nx h rfl).elim
      ·exact (nx h rfl).elim
     ·refine Q2m (r := ((comS cs ps pr sq name off (l.length:Int)).2.2.2,0,false,[],())) hI ?_ (fun h=>(nx h rfl).elim) (fun h=>absurd h hp)
      rw [Q0o hchk,hwk]
      unfold actS errF
      simp only [if_true,hp,show ¬ ((3:Int)=1) by decide,show ¬ ((3:Int)=2) by decide,if_false]
    ·-- where a consumer reads on
     refine Q2m (r := (0,(readC cs name).1,(readC cs name).2,[],())) hI ?_ (fun h=>(nx h rfl).elim) (fun _ h=>(nx h rfl).elim)
     rw [Q0o hchk,hwk]
     unfold actS
     simp only [if_true,show ¬ ((4:Int)=1) by decide,show ¬ ((4:Int)=2) by decide,show ¬ ((4:Int)=3) by decide,if_false]
    ·-- frozen
     have hfz:∀ z':Int,chkS (lo,up,ep,z',l,ps,cs,())=true := fun z' => by
      rw [Q1j]; exact (Q1j lo up ep z l ps cs).1 hchk
     have hd:doS (lo,up,ep,z,l,ps,cs,()) (5,ep,pr,sq,key,v,off,most,name,plan,())=((lo,up,ep,plan,l,ps,cs,()),(0,0,z != 0,[],())) := by
      rw [Q0o hchk,hwk]
      unfold actS
      simp only [if_true,show ¬ ((5:Int)=1) by decide,show ¬ ((5:Int)=2) by decide,show ¬ ((5:Int)=3) by decide,show ¬ ((5:Int)=4) by decide,if_false]
     have hd2:doS (lo,up,ep,plan,l,ps,cs,()) (5,ep,pr,sq,key,v,off,most,name,plan,())=((lo,up,ep,plan,l,ps,cs,()),(0,0,plan != 0,[],())) := by
      rw [Q0o (hfz plan),Q1u hw rfl,Q0y]
      unfold actS
      simp only [if_true,show ¬ ((5:Int)=1) by decide,show ¬ ((5:Int)=2) by decide,show ¬ ((5:Int)=3) by decide,show ¬ ((5:Int)=4) by decide,if_false]
      by_cases hpl:plan=0
      ·rw [if_pos hpl]
      ·rw [if_neg hpl]
     rw [hd]
     refine ⟨⟨hfz plan,hI.2.1,hI.2.2⟩,fun h => ?_,.inl rfl,fun h=>(nx h rfl).elim,by rw [hd2]; exact ⟨rfl,rfl,fun _ h=>(nx h rfl).elim⟩⟩
     rcases h with h | h | h
     ·exact absurd rfl h
     ·exact (nx h rfl).elim
     ·exact (nx h rfl).elim
    ·-- thawed
     have hfz:∀ z':Int,chkS (lo,up,ep,z',l,ps,cs,())=true := fun z' => by
      rw [Q1j]; exact (Q1j lo up ep z l ps cs).1 hchk
     have hd:doS (lo,up,ep,z,l,ps,cs,()) (6,ep,pr,sq,key,v,off,most,name,plan,())=((lo,up,ep,0,l,ps,cs,()),(0,0,z==0,[],())) := by
      rw [Q0o hchk,hwk]
      unfold actS
      simp only [show ¬ ((6:Int)=1) by decide,show ¬ ((6:Int)=2) by decide,show ¬ ((6:Int)=3) by decide,show ¬ ((6:Int)=4) by decide,show ¬ ((6:Int)=5) by decide,if_false]
     have hd2:doS (lo,up,ep,0,l,ps,cs,()) (6,ep,pr,sq,key,v,off,most,name,plan,())=((lo,up,ep,0,l,ps,cs,()),(0,0,(0:Int)==0,[],())) := by
      rw [Q0o (hfz 0),Q1u hw rfl,Q0y]
      unfold actS
      simp only [if_true,show ¬ ((6:Int)=1) by decide,show ¬ ((6:Int)=2) by decide,show ¬ ((6:Int)=3) by decide,show ¬ ((6:Int)=4) by decide,show ¬ ((6:Int)=5) by decide,if_false]
     rw [hd]
     refine ⟨⟨hfz 0,hI.2.1,hI.2.2⟩,fun h => ?_,.inl rfl,fun h=>(nx h rfl).elim,by rw [hd2]; exact ⟨rfl,rfl,fun _ h=>(nx h rfl).elim⟩⟩
     rcases h with h | h | h
     ·exact absurd rfl h
     ·exact (nx h rfl).elim
     ·exact (nx h rfl).elim
  ·refine Q2m (r := (162,0,false,[],())) hI ?_ (fun _ h=>(nx h rfl).elim) (fun h=>(nx h rfl).elim)
   rw [Q0o hchk]
   unfold wkS
   simp only [hw,he,Bool.true_eq_false,if_false]
end Go.Proofs.YtdkdhcakoccpfaaGreatDoor
namespace Go.Proofs.YtdkdhcakoccpfaaGreatDoor
open Go.RowKit
variable {fu:Nat}
theorem Q9x (a:ByteArray) (hf:a.size<fu):p66 fu (a,())=some ((),nameB a) := by
 unfold p66 nameB
 have hl := Q1t a
 by_cases h1:a.size<1
 ·have h2:(a.size:Int)<1 := by omega
  have h3:¬ (1≤a.size∧a.size≤32) := by omega
  simp only [h2,h3,Qd,decide_false,Qt]
  cases (numsOf a).any qb <;> rfl
 have h2:¬ (a.size:Int)<1 := by omega
 by_cases h4:a.size>32
 ·have h5:(a.size:Int)>32 := by omega
  have h3:¬ (1≤a.size∧a.size≤32) := by omega
  simp only [h2,h3,h5,Qd,decide_false,Qt,Qf]
  cases (numsOf a).any qb <;> rfl
 have h5:¬ (a.size:Int)>32 := by omega
 have h3:(1≤a.size∧a.size≤32) := by omega
 simp only [h2,h3,h5,Qd,decide_false,Qf,and_self]
 refine Q0z (numsOf a) (fun i=>(((i:Int),()),())) qb ((),false) ((),true) (by omega) (fun i h => ?_) ?_ (by cases (numsOf a).any qb <;> rfl)
 ·have h':i<a.size := by omega
  simp only [Int.ofNat_lt,Int.natCast_nonneg,h',Qd,Qt,and_self,Int.toNat_natCast,K3j a i h,Q0i h' (by omega)]
  exact X3c _
 ·rw [hl]
  simp only [Int.ofNat_lt,Nat.lt_irrefl,decide_false,Qf]; rfl
theorem X4y (l:List Cn) (hl:okL l) (hf:4194304<fu):p26 fu (l,())=some ((),okC l) := by
 unfold p26 okC
 have hn:l.length≤2097152 := hl.1
 rcases Nat.lt_or_ge 64 l.length with h6' | h6
 ·have h6:¬ l.length≤64 := by omega
  have h7:(l.length:Int)>64 := by omega
  simp only [h6,h7,Qd,decide_false,Qt]
  cases (List.range l.length).any (bad l) <;> rfl
 have h7:¬ (l.length:Int)>64 := by omega
 simp only [h6,h7,Qd,decide_false,Qf]
 refine Q0z (List.range l.length) (fun i=>(((i:Int),()),())) (bad l) ((),false) ((),true) (by simp only [List.length_range]; omega) (fun i h => ?_) ?_ (by cases (List.range l.length).any (bad l) <;> rfl)
 ·simp only [List.length_range] at h
  have hs := X3e hl h
  have hg:∀ d,l.getD i d=l[i] := fun d=>Q0k h
  simp only [List.getElem_range,Int.ofNat_lt,Int.natCast_nonneg,h,Qd,Qt,and_self,Int.toNat_natCast,hg,Q9x _ (fu := fu) (show l[i].1.size<fu by omega),Q0a,Q0i h (by omega),bad]
  cases nameB l[i].1
  ·rfl
  simp only [Bool.not_true,Qf]
  by_cases h0:0<i
  ·have h1:(i:Int)>0 := by omega
   have h2:i-1<l.length := by omega
   have h3:∀ d,l.getD (i-1) d=l[i-1] := fun d=>Q0k h2
   simp only [h0,h1,Qd,Qt,Q6t h0 (by omega),Int.natCast_nonneg,Int.ofNat_lt,h2,and_self,Int.toNat_natCast,h3]
   cases Op.bytesLess l[i-1].1.toList l[i].1.toList <;> rfl
  ·have h1:¬ (i:Int)>0 := by omega
   simp only [h0,h1,decide_false,Qf]
 ·simp only [List.length_range,Int.ofNat_lt,Nat.lt_irrefl,decide_false,Qf]; rfl
theorem X4z (l:List Cn) (c:ByteArray) (hl:l.length≤2097152) (hf:4194304<fu):p51 fu (l,c,())=some ((),(readC l c).1,(readC l c).2,()) := by
 unfold p51
 refine X3d l (fun i=>(((i:Int),()),())) (fun x=>x.1.toList==c.toList) (fun o=>((),(readO o).1,(readO o).2,())) (by omega) (fun i h => ?_) ?_ rfl
 ·have hg:∀ d,l.getD i d=l[i] := fun d=>Q0k h
  simp only [Int.ofNat_lt,Int.natCast_nonneg,h,Qd,Qt,and_self,Int.toNat_natCast,hg,Q0i h (by omega)]
  cases l[i].1.toList==c.toList <;> rfl
 ·simp only [Int.ofNat_lt,Nat.lt_irrefl,decide_false,Qf]; rfl
theorem K6a (l:List Cn) (c:ByteArray) (f:Int) (hl:l.length≤2097152) (hf:4194304<fu):p109 fu (l,(c,f,()),())=some ((),insS l (c,f)) := by
 unfold p109
 refine (Q1i (I := fun s => ∃ (h:List Cn) (i:Bool) (j:Nat),s=((h,i,(j:Int),()),())∧j≤l.length∧h.length≤j+(bif i then 1 else 0)) (m := fun s=>l.length+1-Int.toNat s.1.2.2.1) (g := fun s=>((),s.1.1 ++ docR (c,f) s.1.2.1 (l.drop (Int.toNat s.1.2.2.1)))) (fun s hs => ?_) fu _ ⟨[],false,0,rfl,Nat.zero_le _,Nat.zero_le _⟩ (by show l.length+1-0<fu; omega)).trans (by simp [docR])
 obtain ⟨h,i,j,rfl,h1,h2'⟩ := hs
 have h2:h.length≤j+1 := Nat.le_trans h2' (by cases i <;> simp)
 by_cases hj:j<l.length
 ·refine .inl ?_
  have hg:∀ d,l.getD j d=l[j] := fun d=>Q0k hj
  have hm:∀ x:Cn,h.length+[x].length≤maxLen∧(h.length+[x].length) * 24≤140737488355328 := fun x=>⟨by unfold maxLen; simp only [List.length_singleton]; omega,by simp only [List.length_singleton]; omega⟩
  have hm2:∀ x y:Cn,(h ++ [y]).length+[x].length≤maxLen∧((h ++ [y]).length+[x].length) * 24≤140737488355328 := fun x y=>⟨by unfold maxLen; simp only [List.length_append,List.length_singleton]; omega,by simp only [List.length_append,List.length_singleton]; omega⟩
  simp only [Int.ofNat_lt,Int.natCast_nonneg,hj,Qd,Qt,and_self,Int.toNat_natCast,hg,Q0i hj (by omega),hm,List.drop_eq_getElem_cons hj]
  cases hb:Op.bytesLess l[j].1.toList c.toList with
  | true =>
   have he:(l[j].1.toList==c.toList)=false := K3m (e := (c,f)) hb
   simp only [Bool.not_true,Qf,Q0e,he,Bool.not_false,Qt]
   refine ⟨_,Q2v ⟨by unfold maxLen; simp only [List.length_singleton]; omega,by simp only [List.length_singleton]; omega⟩,⟨_,_,j+1,rfl,hj,by simp only [List.length_append,List.length_singleton] at h2' ⊢; omega⟩,by simp only [Int.toNat_natCast]; omega,?_⟩
   have hk:isB (c,f) l[j]=true := by unfold isB; simp only [he,Bool.not_false]
   cases i
   ·simp only [docR,Qf,Int.toNat_natCast,insS,hb,Qt,List.append_assoc,List.singleton_append]
   ·simp only [docR,Qt,Int.toNat_natCast,List.filter_cons,hk,if_true,List.append_assoc,List.singleton_append]
  | false =>
   cases i
   ·simp only [Bool.not_false,Qt,Q0e]
    cases he:(l[j].1.toList==c.toList) with
    | true =>
     simp only [Bool.not_true,Qf]
     refine ⟨_,rfl,⟨_,_,j+1,rfl,hj,by simp only [List.length_append,List.length_singleton,Qt,Qf] at h2' ⊢; omega⟩,by simp only [Int.toNat_natCast]; omega,?_⟩
     have hk:isB (c,f) l[j]=false := by unfold isB; simp only [he,Bool.not_true]
     simp only [docR,Qf,Qt,Int.toNat_natCast,insS,hb,List.append_assoc,List.singleton_append,List.filter_cons,hk,Bool.false_eq_true,if_false]
    | false =>
     simp only [Bool.not_false,Qt]
     refine ⟨_,Q2v ⟨by unfold maxLen; simp only [List.length_append,List.length_singleton]; omega,by simp only [List.length_append,List.length_singleton]; omega⟩,⟨_,_,j+1,rfl,hj,by simp only [List.length_append,List.length_singleton,Qt,Qf] at h2' ⊢; omega⟩,by simp only [Int.toNat_natCast]; omega,?_⟩
     have hk:isB (c,f) l[j]=true := by unfold isB; simp only [he,Bool.not_false]
     simp only [docR,Qf,Qt,Int.toNat_natCast,insS,hb,List.append_assoc,List.cons_append,List.nil_append,List.filter_cons,hk,if_true]
   ·simp only [Bool.not_false,Bool.not_true,Qt,Qf,Q0e]
    cases he:(l[j].1.toList==c.toList) with
    | true =>
     simp only [Bool.not_true,Qf]
     refine ⟨_,rfl,⟨_,_,j+1,rfl,hj,by simp only [Qt] at h2' ⊢; omega⟩,by simp only [Int.toNat_natCast]; omega,?_⟩
     have hk:isB (c,f) l[j]=false := by unfold isB; simp only [he,Bool.not_true]
     simp only [docR,Qt,Int.toNat_natCast,List.filter_cons,hk,Bool.false_eq_true,if_false]
    | false =>
     simp only [Bool.not_false,Qt]
     refine ⟨_,Q2v ⟨by unfold maxLen; simp only [List.length_singleton]; omega,by simp only [List.length_singleton]; omega⟩,⟨_,_,j+1,rfl,hj,by simp only [List.length_append,List.length_singleton,Qt] at h2' ⊢; omega⟩,by simp only [Int.toNat_natCast]; omega,?_⟩
     have hk:isB (c,f) l[j]=true := by unfold isB; simp only [he,Bool.not_false]
     simp only [docR,Qt,Int.toNat_natCast,List.append_assoc,List.singleton_append,List.filter_cons,hk,if_true]
 ·refine .inr ?_
  obtain rfl:j=l.length := by omega
  have hm:h.length+[(c,f)].length≤maxLen∧(h.length+[(c,f)].length) * 24≤140737488355328 := ⟨by unfold maxLen; simp only [List.length_singleton]; omega,by simp only [List.length_singleton]; omega⟩
  simp only [Int.ofNat_lt,Nat.lt_irrefl,decide_false,Qf,Int.toNat_natCast,List.drop_length,hm,and_self,Qd,Qt]
  cases i
  ·rfl
  ·simp only [Bool.not_true,Qf,docR,Qt,List.filter_nil,List.append_nil]; rfl
/-! ### By halves -/
theorem K6b (l:List Cn) (c:ByteArray) (f h:Int) (hl:okL l) (hc:c.size≤1048576) (hf:4194304<fu):p89 fu (l,(c,f,()),h,())=some ((),(commitS l c f h).1,(commitS l c f h).2,()) := by
 have hn:l.length≤2097152 := hl.1
 unfold p89 commitS
 simp only [X4y l hl hf,Q9x c (fu := fu) (by omega),X4z l c hn hf,K6a l c f hn hf,Q0a]
 cases ho:okC l
 ·rfl
 cases nameB c
 ·rfl
 simp only [Bool.not_true,Qf]
 by_cases hh:f>h
 ·simp only [hh,Qd,Qt]; rfl
 simp only [hh,decide_false,Qf]
 have hlen := K3p l c f (Q3k ho).1
 have h6 := (Q3k ho).2
 cases hr:(readC l c).2
 ·rw [hr,Qf] at hlen
  by_cases h7:l.length≥64
  ·have h8:(l.length:Int)≥64 := by omega
   have h9:¬ (insS l (c,f)).length≤64 := by omega
   simp only [h8,h9,Bool.not_false,Qt,Qd,decide_false,Qf]; rfl
  ·have h8:¬ (l.length:Int)≥64 := by omega
   have h9:(insS l (c,f)).length≤64 := by omega
   simp only [h8,h9,Bool.not_false,Qt,Qd,decide_false,Qf]; rfl
 ·rw [hr,Qt] at hlen
  have h9:(insS l (c,f)).length≤64 := by omega
  simp only [h9,Bool.not_true,Qf,Qd,Qt]; rfl
def isU (x:Int):Prop := 0≤x∧x<18446744073709551616
end Go.Proofs.YtdkdhcakoccpfaaGreatDoor
namespace Go.Proofs.YtdkdhcakoccpfaaGreatDoor
open Go.RowKit
variable {fu:Nat}
theorem X5a (l:List Pr) (id seq:Int):(judge l id seq=(4,0)∧(id=0 ∨ seqB seq=false)) ∨ (id ≠ 0∧seqB seq=true∧((judge l id seq=(1,0)∧find l id=none) ∨ (∃ y,find l id=some y∧judge l id seq=(1,0)∧seq>y.2.1) ∨
  (∃ y,find l id=some y∧judge l id seq=(2,y.2.2.2)∧seq=y.2.1) ∨ ∃ y,find l id=some y∧judge l id seq=(3,0))) := by
 unfold judge
 by_cases h0:id=0
 ·exact .inl ⟨by simp [h0],.inl h0⟩
 ·cases hs:seqB seq with
  | false=>exact .inl ⟨by simp [h0],.inr rfl⟩
  | true =>
   refine .inr ⟨h0,rfl,?_⟩
   simp only [h0,if_false,Bool.true_eq_false]
   cases hf:find l id with
   | none=>exact .inl ⟨rfl,rfl⟩
   | some y =>
    refine .inr ?_
    by_cases h1:seq>y.2.1
    ·exact .inl ⟨y,rfl,by simp [h1],h1⟩
    ·by_cases h2:seq=y.2.1∧y.2.2.1=true
     ·refine .inr (.inl ⟨y,rfl,?_,h2.1⟩)
      simp only [h1,if_false]
      rw [if_pos h2]
     ·refine .inr (.inr ⟨y,rfl,?_⟩)
      simp only [h1,if_false]
      rw [if_neg h2]
theorem X5b {x:Pr} {l:List Pr}:SP (x :: l) ↔ (∀ z ∈ l,x.1<z.1)∧SP l := List.pairwise_cons
theorem Q7g {x:Pr} (r:List Pr):∀ {l:List Pr},(∀ z ∈ l,z.1<x.1)→ins (l ++ r) x=l ++ ins r x
 | [],_=>rfl
 | y :: l,h=>by
  rw [List.cons_append,Q1m,if_pos (h y List.mem_cons_self),Q7g r fun z hz=>h z (List.mem_cons_of_mem _ hz)]; rfl
theorem X5c {x y:Pr} (hy:y.1>x.1):∀ {l:List Pr},SP (l ++ [y])→(∃ z ∈ l,z.1≥x.1)→ins (l ++ [y]) x=ins l x ++ [y]
 | [],_,⟨z,hz,_⟩=>by cases hz
 | w :: l,h,⟨z,hz,hzx⟩=>by
  rw [List.cons_append,Q1m,Q1m]
  by_cases c1:w.1<x.1
  ·rw [if_pos c1,if_pos c1,X5c hy (X5b.1 h).2 (by
    rcases List.mem_cons.1 hz with rfl | hz
    ·omega
    ·exact ⟨z,hz,hzx⟩)]; rfl
  ·rw [if_neg c1,if_neg c1]
   split <;> rfl
theorem X5d (l:List Pr) (id:Int) (hl:l.length≤9223372036854775806) (hf:l.length<fu) :
  p106 fu (l,id,())=some ((),if findI l id<l.length then ((findI l id:Nat):Int) else -1) := by
 unfold p106
 refine Q1i (I := fun s => ∃ i:Nat,s=(((i:Int),()),())∧i≤l.length∧i≤findI l id) (m := fun s=>l.length-s.1.1.toNat)
  (g := fun _=>((),if findI l id<l.length then ((findI l id:Nat):Int) else -1)) ?_ fu _ ⟨0,rfl,Nat.zero_le _,Nat.zero_le _⟩ (by simpa using hf)
 rintro s ⟨i,rfl,h1,h2⟩
 by_cases hi:i<l.length
 ·cases hx:(l[i].1==id) with
  | true =>
   right
   have e := X3z h2 hi hx
   simp [hi,inrO,hx,e]
  | false =>
   left
   refine ⟨((((i+1:Nat):Int),()),()),?_,⟨i+1,rfl,hi,X4a h2 hi hx⟩,?_,rfl⟩
   ·simp [hi,hx,Q0i hi (by omega)]
   ·simp; omega
 ·right
  have e:i=l.length := by omega
  have e2:findI l id=l.length := by have := Q9m l id; omega
  subst e
  simp [inrO,e2]
theorem X5e (l:List Pr) (x:Pr) (hs:SP l) (hl:(l.length+1) * 32≤140737488355328) (hf:l.length<fu):p108 fu (l,(x.1,x.2.1,x.2.2.1,x.2.2.2,()),())=some ((),ins l x) := by
 unfold p108
 refine Q1i (I := fun s => ∃ (i:Nat) (v:List Pr) (b:Bool),s=((v,b,(i:Int),()),())∧i≤l.length∧((b=false∧v=l.take i ∧ ∀ z ∈ l.take i,z.1<x.1) ∨ (b=true∧v=ins (l.take i) x ∧ ∃ z ∈ l.take i,z.1≥x.1)))
  (m := fun s=>l.length-s.1.2.2.1.toNat) (g := fun _=>((),ins l x)) ?_ fu _ ⟨0,[],false,rfl,Nat.zero_le _,.inl ⟨rfl,by simp,by simp⟩⟩ (by simpa using hf)
 rintro s ⟨i,v,b,rfl,h1,h2⟩
 by_cases hi:i<l.length
 ·left
  have ht := Q2y hi (dflt T_api_Producer)
  have hsp:SP (l.take i ++ [l.getD i (dflt T_api_Producer)]) := by rw [← ht]; exact List.Pairwise.sublist (List.take_sublist _ _) hs
  generalize hy:l.getD i (dflt T_api_Producer)=y at ht hsp
  have hlt:(l.take i).length=i := by rw [List.length_take]; omega
  have hc:∀ n:Nat,n≤i+1→(n+1≤maxLen∧(n+1) * 32≤140737488355328) := fun n hn=>⟨by show _≤9223372036854775807; omega,by omega⟩
  have ws := Q0i hi (show l.length≤9223372036854775807 by omega)
  rcases h2 with ⟨rfl,rfl,h3⟩ | ⟨rfl,rfl,z,hz,h3⟩
  ·by_cases c1:y.1≥x.1
   ·by_cases c2:y.1=x.1
    ·have b1:(x.1 != x.1)=false := by simp
     have b2:(y.1 != x.1)=false := by simpa using c2
     refine ⟨((l.take i ++ [x],true,((i+1:Nat):Int),()),()),?_,⟨i+1,_,true,rfl,hi,.inr ⟨rfl,?_,y,by rw [ht]; simp,c1⟩⟩,by simp only [Int.toNat_natCast]; omega,rfl⟩
     ·simp only [Int.ofNat_lt,hi,hy,Qd,Qt,Qf,Int.natCast_nonneg,and_self,Int.toNat_natCast,Bool.not_false,Q0e,List.length_append,List.length_singleton,c1,b2,hlt,hc i (by omega),ws]
     ·rw [ht,Q7g _ h3,Q1m,if_neg (by omega),if_neg (by omega)]
    ·have b2:(y.1 != x.1)=true := by simpa using c2
     refine ⟨((l.take i ++ [x] ++ [y],true,((i+1:Nat):Int),()),()),?_,⟨i+1,_,true,rfl,hi,.inr ⟨rfl,?_,y,by rw [ht]; simp,c1⟩⟩,by simp only [Int.toNat_natCast]; omega,rfl⟩
     ·simp only [Int.ofNat_lt,hi,hy,Qd,Qt,Int.natCast_nonneg,and_self,Int.toNat_natCast,Bool.not_false,Q0e,List.length_append,List.length_singleton,c1,b2,hlt,hc i (by omega),hc (i+1) (by omega),ws]
     ·rw [ht,Q7g _ h3,Q1m,if_neg (by omega),if_pos (by omega)]; simp
   ·have c2:¬ y.1=x.1 := by omega
    have b2:(y.1 != x.1)=true := by simpa using c2
    refine ⟨((l.take i ++ [y],false,((i+1:Nat):Int),()),()),?_,⟨i+1,_,false,rfl,hi,.inl ⟨rfl,ht.symm,fun z hz => ?_⟩⟩,by simp only [Int.toNat_natCast]; omega,rfl⟩
    ·simp only [Int.ofNat_lt,hi,hy,Qd,decide_false,Qt,Qf,Int.natCast_nonneg,and_self,Int.toNat_natCast,Bool.not_false,Q0e,List.length_append,List.length_singleton,c1,b2,hlt,hc i (by omega),ws]
    ·rw [ht] at hz
     rcases List.mem_append.1 hz with hz | hz
     ·exact h3 z hz
     ·have:z=y := by simpa using hz
      subst this; omega
  ·have hzy:z.1<y.1 := (List.pairwise_append.1 hsp).2.2 z hz y (by simp)
   have c1:y.1≥x.1 := by omega
   have c2:¬ y.1=x.1 := by omega
   have b2:(y.1 != x.1)=true := by simpa using c2
   have hil := Q7c x (l.take i)
   rw [hlt] at hil
   refine ⟨((ins (l.take i) x ++ [y],true,((i+1:Nat):Int),()),()),?_,⟨i+1,_,true,rfl,hi,.inr ⟨rfl,?_,z,by rw [ht]; simp [hz],h3⟩⟩,by simp only [Int.toNat_natCast]; omega,rfl⟩
   ·simp only [Int.ofNat_lt,hi,hy,Qd,Qt,Qf,Int.natCast_nonneg,and_self,Int.toNat_natCast,Bool.not_true,Q0e,List.length_append,List.length_singleton,c1,b2,hc (ins (l.take i) x).length (by omega),ws]
   ·rw [ht,X5c (by omega) hsp ⟨z,hz,h3⟩]
 ·right
  obtain rfl:i=l.length := by omega
  rw [List.take_length] at h2
  have hc:(l.length+1≤maxLen∧(l.length+1) * 32≤140737488355328) := ⟨by show _≤9223372036854775807; omega,by omega⟩
  rcases h2 with ⟨rfl,rfl,h3⟩ | ⟨rfl,rfl,_⟩
  ·have := Q7g (x := x) [] h3
   rw [List.append_nil,Q2w] at this
   simp [inrO,hc,this]
  ·simp [inrO]
theorem X5f (l:List Pr) (hl:l.length≤9223372036854775806) (hf:l.length<fu):p25 fu (l,())=some ((),tabI l) := by
 unfold p25
 by_cases h256:(l.length:Int)>256
 ·have:tabI l=false := by
   unfold tabI
   have:decide (l.length≤256)=false := by simpa using (show 256<l.length by omega)
   rw [this,Bool.and_false]
  simp only [h256,Qd,Qt,this]
 ·simp only [h256,decide_false,Qf]
  refine Q1i (I := fun s => ∃ i:Nat,s=(((i:Int),()),())∧i≤l.length ∧ ∀ j,j<i→rowOK l j=true) (m := fun s=>l.length-s.1.1.toNat)
   (g := fun _=>((),tabI l)) ?_ fu _ ⟨0,rfl,Nat.zero_le _,fun j hj=>absurd hj (Nat.not_lt_zero _)⟩ (by simpa using hf)
  rintro s ⟨i,rfl,h1,h2⟩
  by_cases hi:i<l.length
  ·have hi':(i:Int)<(l.length:Int) := by omega
   simp only [hi',Qd,Qt,Int.natCast_nonneg,Int.toNat_natCast,hi,and_self]
   have hrow:rowOK l i=((i==0||decide ((l.getD (i-1) (dflt T_api_Producer)).1<(l.getD i (dflt T_api_Producer)).1)) && okP (l.getD i (dflt T_api_Producer))) := rfl
   have bad:rowOK l i=false→((),tabI l)=((),false) := fun h=>by rw [X4b hi h]
   have good:rowOK l i=true→(∃ s':((Int×Unit)×Unit),(some (.inl ((IntKind.wrap .i64 ((i:Int)+(1:Int)),()),())):Option (((Int×Unit)×Unit) ⊕ (Unit×Bool)))=some (.inl s') ∧
     (∃ i:Nat,s' = (((i:Int),()),())∧i≤l.length ∧ ∀ j,j<i→rowOK l j=true)∧l.length-s'.1.1.toNat<l.length-i∧True) := fun h =>
    ⟨((((i+1:Nat):Int),()),()),by rw [Q0i hi (by omega)],⟨i+1,rfl,hi,fun j hj=>by
      rcases Nat.lt_succ_iff_lt_or_eq.1 hj with h' | rfl
      ·exact h2 j h'
      ·exact h⟩,by simp; omega,trivial⟩
   -- what stands ahead of it
   have hahead : ∃ bb : Bool, (i == 0 || decide ((l.getD (i - 1) (dflt T_api_Producer)).1 < (l.getD i (dflt T_api_Producer)).1)) = bb ∧ ∀ (X Y : Option (((Int × Unit) × Unit) ⊕ (Unit × Bool))), (bif decide ((i : Int) > (0 : Int)) then
           bif decide ((0:Int)≤IntKind.wrap .i64 ((i:Int)-(1:Int))∧IntKind.wrap .i64 ((i:Int)-(1:Int))<(List.length l:Int)) then
            bif decide (Int.toNat (IntKind.wrap .i64 ((i:Int)-(1:Int)))<List.length l) then
              bif decide (((List.getD l (Int.toNat (IntKind.wrap .i64 ((i:Int)-(1:Int)))) (dflt T_api_Producer)).1)≥(List.getD l i (dflt T_api_Producer)).1) then X else Y
            else none
           else none
       else Y)=bif bb then Y else X := by
    by_cases h0:i=0
    ·subst h0; exact ⟨true,rfl,fun X Y=>by simp⟩
    ·have hpos:(i:Int)>0 := by omega
     have hlt:i-1<l.length := by omega
     have hlt':((i-1:Nat):Int)<(l.length:Int) := by omega
     have hw:IntKind.wrap .i64 ((i:Int)-(1:Int))=((i-1:Nat):Int) := Q6t (by omega) (by omega)
     have h0':(i==0)=false := by simpa using h0
     refine ⟨decide ((l.getD (i-1) (dflt T_api_Producer)).1<(l.getD i (dflt T_api_Producer)).1),by rw [h0',Bool.false_or],fun X Y => ?_⟩
     simp only [hpos,Qd,Qt,hw,Int.natCast_nonneg,hlt',and_self,Int.toNat_natCast,hlt]
     by_cases hlt2:(l.getD (i-1) (dflt T_api_Producer)).1<(l.getD i (dflt T_api_Producer)).1
     ·have hn:¬ (l.getD (i-1) (dflt T_api_Producer)).1≥(l.getD i (dflt T_api_Producer)).1 := by omega
      simp only [hn,hlt2,Qd,decide_false,Qt,Qf]
     ·have hn:(l.getD (i-1) (dflt T_api_Producer)).1≥(l.getD i (dflt T_api_Producer)).1 := by omega
      simp only [hn,hlt2,Qd,decide_false,Qt,Qf]
   obtain ⟨bb,hbb,hah⟩ := hahead
   rw [hbb] at hrow
   simp only [hah]
   clear hah hbb
   obtain ⟨x,hx⟩:∃ x,l.getD i (dflt T_api_Producer)=x := ⟨_,rfl⟩
   simp only [hx] at hrow ⊢
   clear hx
   obtain ⟨x1,x2,x3,x4⟩ := x
   simp only [okP,seqB] at hrow
   simp only
   by_cases hz:x1=0
   ·right; rw [bad (by rw [hrow]; simp [hz])]; simp [hz,inrO]
   ·have hz':(x1==(0:Int))=false := by simpa using hz
    simp only [hz',Qf]
    by_cases hs1:x2<1
    ·right
     have:decide (1≤x2)=false := by simpa using hs1
     rw [bad (by rw [hrow,this]; simp)]; simp [hs1,inrO]
    ·have hs1':decide (1≤x2)=true := by simpa using (show 1≤x2 by omega)
     simp only [hs1,decide_false,Qf]
     by_cases hs2:x2>9223372036854775807
     ·right
      have:decide (x2≤9223372036854775807)=false := by simpa using hs2
      rw [bad (by rw [hrow,this]; simp)]; simp [hs2,inrO]
     ·have hs2':decide (x2≤9223372036854775807)=true := by simpa using (show x2≤9223372036854775807 by omega)
      simp only [hs2,decide_false,Qf]
      cases bb with
      | false =>
       right; rw [bad (by rw [hrow]; rfl)]
       cases x3 with
       | true=>simp [inrO]
       | false =>
        by_cases h4:x4=0
        ·simp [h4,inrO]
        ·have h4':(x4 != (0:Int))=true := by simpa using h4
         simp [h4',inrO]
      | true =>
       cases x3 with
       | true =>
        left
        simp only [Bool.not_true,Qf,Qt]
        exact good (by rw [hrow]; simp [hz,hs1',hs2'])
       | false =>
        by_cases h4:x4=0
        ·subst h4
         left
         simp only [Bool.not_false,Qt,bne_self_eq_false,Qf]
         exact good (by rw [hrow]; simp [hz,hs1',hs2'])
        ·right; rw [bad (by rw [hrow]; simp [h4])]
         have h4':(x4 != (0:Int))=true := by simpa using h4
         simp [h4',inrO]
  ·right
   have e:i=l.length := by omega
   subst e
   have:(List.range l.length).all (rowOK l)=true := List.all_eq_true.2 fun j hj=>h2 j (List.mem_range.1 hj)
   simp [inrO,tabI,this]
   omega
theorem Q7h (l:List Pr) (id seq:Int) (hl:l.length≤9223372036854775806) (hf:l.length<fu):p86 fu (l,id,seq,())=some ((),((judge l id seq).1,(judge l id seq).2,())) := by
 unfold p86 judge
 by_cases h0:id=0
 ·simp [h0]
 ·simp only [h0,if_false,show (id==(0:Int))=false by simpa using h0,Qf]
  by_cases hs1:seq<1
  ·have:seqB seq=false := by unfold seqB; simp; omega
   simp [hs1,this]
  ·by_cases hs2:seq>9223372036854775807
   ·have:seqB seq=false := by unfold seqB; simp; omega
    simp [hs1,hs2,this]
   ·have hs:seqB seq=true := by unfold seqB; simp; omega
    simp only [hs1,hs2,decide_false,Qf,hs,Bool.true_eq_false,if_false,X5d l id hl hf,Q0a,Q9n l id (dflt T_api_Producer)]
    by_cases hk:findI l id<l.length
    ·have hk':((findI l id:Nat):Int)<(l.length:Int) := by omega
     have hneg:¬ ((findI l id:Nat):Int)<0 := by omega
     simp only [hk,if_true,hneg,decide_false,Qf,Int.natCast_nonneg,hk',and_self,Qd,Qt,Int.toNat_natCast,Q0e]
     generalize l.getD (findI l id) (dflt T_api_Producer)=x
     obtain ⟨a,b,c,d⟩ := x
     simp only
     by_cases h1:seq>b
     ·simp [h1]
     ·by_cases h2:seq=b
      ·cases c <;> simp [h2,orK]
      ·have h3:(seq==b)=false := by simpa using h2
       simp [h1,h2,h3,orK]
    ·simp [hk,orK]
theorem K6c {l:List Pr} {x:Pr} (h:∀ z ∈ l,z.1 ≠ x.1):(ins l x).length=l.length+1 := by
 induction l with
 | nil=>rw [Q2w]; rfl
 | cons y l ih =>
  have hy := h y List.mem_cons_self
  rw [Q1m]
  split
  ·simp only [List.length_cons,ih fun z hz=>h z (List.mem_cons_of_mem _ hz)]
  ·rw [if_pos (by omega)]; simp
theorem K6d {l:List Pr} {x:Pr} (hs:SP l) (h:∃ z ∈ l,z.1=x.1):(ins l x).length=l.length := by
 induction l with
 | nil=>obtain ⟨z,hz,_⟩ := h; cases hz
 | cons y l ih =>
  obtain ⟨s1,s2⟩ := X5b.1 hs
  rw [Q1m]
  by_cases c1:y.1<x.1
  ·rw [if_pos c1]
   obtain ⟨z,hz,e⟩ := h
   rcases List.mem_cons.1 hz with rfl | hz
   ·omega
   ·simp only [List.length_cons,ih s2 ⟨z,hz,e⟩]
  ·rw [if_neg c1]
   by_cases c2:y.1>x.1
   ·obtain ⟨z,hz,e⟩ := h
    rcases List.mem_cons.1 hz with rfl | hz
    ·omega
    ·have := s1 z hz; omega
   ·rw [if_neg c2]; rfl
theorem K6e {l:List Pr} {id:Int} (h:findI l id<l.length):∃ z ∈ l,z.1=id := by
 have:(l[findI l id].1==id)=true := List.findIdx_getElem (p := fun x:Pr=>x.1==id) (xs := l) (w := h)
 exact ⟨l[findI l id],List.getElem_mem _,beq_iff_eq.1 this⟩
theorem K6f {l:List Pr} {id:Int} (h:¬ findI l id<l.length):∀ z ∈ l,z.1 ≠ id := fun z hz e=>by
 have:findI l id<l.length := List.findIdx_lt_length_of_exists ⟨z,hz,by simpa using e⟩
 exact h this
theorem X5g (l:List Pr) (id seq off:Int) (hl:l.length≤9223372036854775806) (hf:l.length<fu):p88 fu (l,id,seq,off,())=some ((),((putS l (id,seq,true,off)).1,(putS l (id,seq,true,off)).2,())) := by
 unfold p88 putS
 simp only [X5f (fu := fu) l hl hf,Q7h (fu := fu) l id seq hl hf,Q0a]
 cases ht:tabI l with
 | false=>simp [inrO,orK]
 | true =>
  obtain ⟨_,hsp,h256⟩ := (Q2l l).1 ht
  simp only [Bool.not_true,Qf,Bool.true_eq_false,if_false]
  by_cases h4:(judge l id seq).1=4
  ·simp [h4,inrO,orK]
  ·have e4:((judge l id seq).1==(4:Int))=false := by simpa using h4
   simp only [e4,Qf,h4,if_false]
   by_cases h1:(judge l id seq).1=1
   ·have e1:((judge l id seq).1 != (1:Int))=false := by simp [h1]
    have n2:¬ (judge l id seq).1=2 := by omega
    have n3:¬ (judge l id seq).1=3 := by omega
    simp only [e1,Qf,n2,n3,if_false]
    have h36 := X5e (fu := fu) l (id,seq,true,off) hsp (by omega) hf
    simp only at h36
    have hdone:(ins l (id,seq,true,off)).length≤256→(orK (E := Unit×Unit) (some (.inl ((),()))) fun _ =>
      Option.bind (p108 fu (l,(id,seq,true,off,()),())) fun x=>some ((),(x.2,(0:Int),()))) =
      some ((),((if (ins l (id,seq,true,off)).length>256 then (([]:List Pr),(153:Int)) else (ins l (id,seq,true,off),0)).1,(if (ins l (id,seq,true,off)).length>256 then (([]:List Pr),(153:Int)) else (ins l (id,seq,true,off),0)).2,())) := fun h=>by
     have:¬ (ins l (id,seq,true,off)).length>256 := by omega
     simp [orK,h36,this]
    by_cases hf2:(l.length:Int)≥256
    ·simp only [hf2,Qd,Qt,X5d (fu := fu) l id hl hf,Q0a]
     by_cases hk:findI l id<l.length
     ·have hneg:¬ ((findI l id:Nat):Int)<0 := by omega
      simp only [hk,if_true,hneg,decide_false,Qf]
      try simp only [Qd,Qt]
      exact hdone (by rw [K6d hsp (K6e hk)]; exact h256)
     ·have hlen := K6c (x := (id,seq,true,off)) (K6f hk)
      have:(ins l (id,seq,true,off)).length>256 := by omega
      simp [hk,orK,inrO,this]
    ·simp only [hf2,decide_false,Qf]
     try simp only [Qd,Qt]
     refine hdone ?_
     have := Q7c (id,seq,true,off) l
     omega
   ·have e1:((judge l id seq).1 != (1:Int))=true := by simpa using h1
    simp only [e1,Qt]
    have:(judge l id seq).1=2 ∨ (judge l id seq).1=3 := by
     rcases X5a l id seq with ⟨h,_⟩ | ⟨_,_,⟨h,_⟩ | ⟨y,_,h,_⟩ | ⟨y,_,h,_⟩ | ⟨y,_,h⟩⟩
     ·rw [h] at h4; exact absurd rfl h4
     ·rw [h] at h1; exact absurd rfl h1
     ·rw [h] at h1; exact absurd rfl h1
     ·exact .inl (by rw [h])
     ·exact .inr (by rw [h])
    rcases this with h2 | h3
    ·simp [h2,inrO,orK]
    ·simp [h3,inrO,orK]
theorem X5h (id:Int) (u v:Int×Bool×Int):∀ l:List Pr,(ins l (id,u)).length=(ins l (id,v)).length
 | []=>by rw [Q2w,Q2w]; rfl
 | y :: l=>by
  rw [Q1m,Q1m]
  simp only
  split
  ·simp only [List.length_cons,X5h id u v l]
  ·split <;> rfl
theorem K6g (l:List Pr) (id seq:Int) (hl:l.length≤9223372036854775806) (hf:l.length+1<fu):p90 fu (l,id,seq,())=some ((),((putS l (id,seq,false,0)).1,(putS l (id,seq,false,0)).2,())) := by
 unfold p90
 simp only [X5g (fu := fu) l id seq 0 hl (by omega),Q0a]
 have e:putS l (id,seq,false,0)=if (putS l (id,seq,true,0)).2=0 then (ins l (id,seq,false,0),0) else ([],(putS l (id,seq,true,0)).2) := by
  unfold putS
  simp only [X5h id (seq,true,0) (seq,false,0) l]
  repeat' split
  all_goals first | rfl | simp_all
 by_cases h:(putS l (id,seq,true,0)).2=0
 ·have b:((putS l (id,seq,true,0)).2 != 0)=false := by simp [h]
  have hsp:SP l∧l.length≤256 := by
   cases ht:tabI l with
   | false=>unfold putS at h; simp [ht] at h
   | true=>exact ((Q2l l).1 ht).2
  have h36 := X5e (fu := fu) l (id,seq,false,0) hsp.1 (by omega) (by omega)
  simp only at h36
  rw [e,if_pos h]
  simp only [b,Qf,h36,Q0a,Qd,Qt]
 ·have b:((putS l (id,seq,true,0)).2 != 0)=true := by simpa using h
  rw [e,if_neg h]
  simp only [b,Qt]
end Go.Proofs.YtdkdhcakoccpfaaGreatDoor
namespace Go.Proofs.YtdkdhcakoccpfaaGreatDoor
open Go.RowKit
variable {fu:Nat}
theorem Q9y (l:List Rd) (hl:l.length≤2097152) (hf:4194304<fu):p24 fu (l,())=some ((),logOk l) := by
 unfold p24 logOk
 by_cases h4:l.length≤4096
 ·have h4':¬ (l.length:Int)>4096 := by omega
  simp only [h4',decide_false,Qf,h4,Qd]
  refine Q0z (List.range l.length) (fun i=>(((i:Int),()),())) (wrong l) ((),false) ((),true) (by simp only [List.length_range]; omega) (fun i h => ?_) ?_ (by cases (List.range l.length).any (wrong l) <;> rfl)
  ·simp only [List.length_range] at h
   have hg:∀ d,l.getD i d=l[i] := fun d=>Q0k h
   have hw:IntKind.wrap .u64 (i:Int)=(i:Int) := Q1b (by omega) (by omega)
   simp only [List.getElem_range,Int.ofNat_lt,Int.natCast_nonneg,h,Qd,Qt,and_self,Int.toNat_natCast,hg,hw,Q0i h (by omega),wrong]
   cases (l[i].1 != (i:Int))
   ·simp only [Qf]
    by_cases c1:l[i].2.1.size>32
    ·simp only [c1,show (l[i].2.1.size:Int)>32 by omega,Qd,Qt,Q0f]
    ·by_cases c2:l[i].2.2.1.length>256
     ·simp only [c1,show ¬ (l[i].2.1.size:Int)>32 by omega,c2,show (l[i].2.2.1.length:Int)>256 by omega,Qd,decide_false,Qt,Qf,Q0f]
     ·simp only [c1,show ¬ (l[i].2.1.size:Int)>32 by omega,c2,show ¬ (l[i].2.2.1.length:Int)>256 by omega,decide_false,Qf]
   ·rfl
  ·simp only [List.length_range,Int.ofNat_lt,Nat.lt_irrefl,decide_false,Qf]
   rfl
 ·have h4':(l.length:Int)>4096 := by omega
  simp only [h4',Qd,Qt,h4,decide_false]
  cases (List.range l.length).any (wrong l) <;> rfl
theorem Q9z (a c:ByteArray):p27 fu ((a,c,()),())=some ((),chkB a c) := by
 unfold p27 chkB befB
 by_cases c1:a.size≤32
 ·by_cases c2:c.size≤32
  ·simp only [show ¬ (a.size:Int)>32 by omega,show ¬ (c.size:Int)>32 by omega,show (a.size:Int)≤32 by omega,show (c.size:Int)≤32 by omega,Qd,decide_false,Qf,Bool.not_true]
   cases (ByteArray.toList c==ByteArray.toList (⟨#[]⟩:ByteArray)) with
   | true=>rfl
   | false =>
    cases (Op.bytesLess (ByteArray.toList c) (ByteArray.toList a)||ByteArray.toList c==ByteArray.toList a) <;> rfl
  ·simp only [show ¬ (a.size:Int)>32 by omega,show (c.size:Int)>32 by omega,show (a.size:Int)≤32 by omega,show ¬ (c.size:Int)≤32 by omega,Qd,decide_false,Qt,Qf,Bool.not_true,Bool.not_false]
 ·simp only [show (a.size:Int)>32 by omega,show ¬ (a.size:Int)≤32 by omega,Qd,decide_false,Qt,Bool.not_false]
theorem K6h {c f:ByteArray}:befB c f=bif (ByteArray.toList c==ByteArray.toList (⟨#[]⟩:ByteArray)) then true else Op.bytesLess f.toList c.toList := by
 unfold befB
 cases (ByteArray.toList c==ByteArray.toList (⟨#[]⟩:ByteArray)) with
 | true=>rfl
 | false =>
  simp only [Qf,Q3y,Q5h]
  by_cases h:ky c<ky f
  ·have:¬ ky f<ky c := fun g=>Q6y _ (Q5i h g)
   simp [h,this]
  ·by_cases g:c=f
   ·subst g; simp
   ·have hh:ky f<ky c := by
     by_cases k:ky f<ky c
     ·exact k
     ·exact absurd (Q5g (Q6z h k)) g
    simp [h,g,hh]
theorem X5i (a c f:ByteArray):p28 fu ((a,c,()),f,())=some ((),hasB a c f) := by
 unfold p28 hasB
 simp only [Q9z,Q0a]
 cases (chkB a c==0) with
 | false=>rfl
 | true =>
  simp only [Qt]
  cases decide ((f.size:Int)≤32) with
  | false=>rfl
  | true =>
   simp only [Qt]
   cases Op.bytesLess f.toList a.toList with
   | true=>rfl
   | false =>
    simp only [Bool.not_false,Qt,K6h]
    cases (ByteArray.toList c==ByteArray.toList (⟨#[]⟩:ByteArray)) <;> rfl
def proI (l:List Pr) (id:Int):Int := bif decide (findI l id<l.length) then (findI l id:Int) else -1
theorem K6i (l:List Pr) (id:Int) (hl:l.length≤9223372036854775806) (hf:l.length<fu):p29 fu (l,id,())=some ((),proI l id) := by
 unfold p29
 refine Q1i (I := fun s => ∃ i:Nat,s=(((i:Int),()),())∧i≤l.length ∧ ∀ j (hj:j<l.length),j<i → ¬ (l[j]).1=id) (m := fun s=>l.length-s.1.1.toNat)
  (g := fun _=>((),proI l id)) ?_ fu _ ⟨0,rfl,Nat.zero_le _,fun j _ hj=>absurd hj (Nat.not_lt_zero _)⟩ (by simpa using hf)
 rintro s ⟨i,rfl,h1,h2⟩
 by_cases hi:i<l.length
 ·have hg:∀ d,l.getD i d=l[i] := fun d=>Q0k hi
  simp only [Int.ofNat_lt,hi,Qd,Qt,Int.natCast_nonneg,Int.toNat_natCast,and_self,hg]
  by_cases he:l[i].1=id
  ·right
   have hk:findI l id=i := by
    unfold findI
    refine (List.findIdx_eq hi).2 ⟨by simpa using he,fun j hj => ?_⟩
    have := h2 j (by omega) hj
    simpa using this
   rw [beq_iff_eq.2 he]
   simp only [Qt,Q0f,proI,hk,hi,Qd]
  ·left
   have he':(l[i].1==id)=false := by simpa using he
   refine ⟨((((i+1:Nat):Int),()),()),by rw [he',Q0i hi (by omega)]; rfl,⟨i+1,rfl,hi,fun j hj hji => ?_⟩,by simp; omega,trivial⟩
   rcases Nat.lt_succ_iff_lt_or_eq.1 hji with g | rfl
   ·exact h2 j hj g
   ·exact he
 ·right
  have hn:¬ (i:Int)<(l.length:Int) := by omega
  obtain rfl:i=l.length := by omega
  have hk:¬ findI l id<l.length := fun hh=>by
   exact h2 _ hh hh (Q7d hh)
  simp only [hn,decide_false,Qf,Q0f,proI,hk]
theorem X0a {X R:Type} (l:List X) (q:X→Bool) (a b:R):(bif l.any fun x => !q x then a else b)=bif l.all q then b else a := by
 rw [← List.not_all_eq_any_not]
 cases l.all q <;> rfl
theorem X0b (p:St16) (hb:bndS p) (hf:4194304<fu):p6 fu (p,())=some ((),bif chkS p then 0 else 165) := by
 obtain ⟨lo,hi,e,z,l,ps,cs,⟨⟩⟩ := p
 obtain ⟨hl,hp,hcs,h0⟩ := hb
 unfold p6
 simp only [Q9z,Q0a,Q9y l hl hf,X5f ps (by omega) (show ps.length<fu by omega),X4y cs hcs hf,chkS]
 cases hc:(chkB lo hi==0) with
 | false=>simp only [bne,hc,Bool.not_false,Qt,Bool.false_and,Qf]
 | true =>
 simp only [bne,hc,Bool.not_true,Qf,Bool.true_and]
 cases (e==0) with
 | true=>rfl
 | false =>
 simp only [Qf,Bool.not_false,Bool.true_and]
 cases logOk l with
 | false=>rfl
 | true =>
 simp only [Bool.not_true,Qf,Bool.true_and]
 cases ht:tabI ps with
 | false=>rfl
 | true =>
 have hs := ((Q2l ps).1 ht).2.1
 simp only [Bool.not_true,Qf,Bool.true_and]
 cases okC cs with
 | false=>rfl
 | true =>
 simp only [Bool.not_true,Qf,Bool.true_and]
 have h1:(0:Int)≤(ps.length:Int)∧(ps.length:Int)≤(ps.length:Int)∧(ps.length:Int)≤9223372036854775807∧(8:Int) * (ps.length:Int)≤140737488355328 := by omega
 simp only [h1,and_self,Qd,Qt,Int.toNat_natCast,List.length_replicate]
 have e0:((List.replicate ps.length (0:Int),(0:Int),()),())=(fun i:Nat=>((lastL ps l i,(i:Int),()),())) 0 := by
  simp only [lastL,List.take_zero,lastS,List.foldl_nil,List.map_const']
  rfl
 rw [e0]
 refine Q0z (List.range l.length) (fun i:Nat=>((lastL ps l i,(i:Int),()),())) (fun j => !recOk lo hi ps l j) ((),(165:Int)) ((),bif (ps.all (proOk l) && cs.all (conOk l)) then 0 else 165) (by simp; omega) (fun i h => ?_) ?_ ?_
 ·have hi':i<l.length := by simpa using h
  have hll:(lastL ps l i).length=ps.length := by simp [lastL]
  have hg:∀ d,l.getD i d=l[i] := fun d=>Q0k hi'
  simp only [Int.ofNat_lt,hi',Qd,Qt,Int.natCast_nonneg,true_and,Int.toNat_natCast,hg,Q0a,List.getElem_range,X5i,K6i ps l[i].2.2.2.1 (by omega) (show ps.length<fu by omega),recOk,recOk1]
  cases hh:hasB lo hi l[i].2.1 with
  | false=>simp only [Bool.not_false,Qt,Bool.false_and,Bool.and_false,Q0f]
  | true =>
   simp only [Bool.not_true,Qf,Bool.true_and]
   by_cases hk:findI ps l[i].2.2.2.1<ps.length
   ·have hgp:∀ d,ps.getD (findI ps l[i].2.2.2.1) d=ps[findI ps l[i].2.2.2.1] := fun d=>Q0k hk
    have hp0:proI ps l[i].2.2.2.1=(findI ps l[i].2.2.2.1:Int) := by simp only [proI,hk,Qd,Qt]
    have hpn:¬ ((findI ps l[i].2.2.2.1:Nat):Int)<0 := by omega
    simp only [hp0,hpn,hk,Qd,decide_false,Qf,Bool.true_and,hll,Int.ofNat_lt,and_self,Int.natCast_nonneg,Qt,Int.toNat_natCast,X4p hk,hgp,List.length_set]
    by_cases h3:lastS (l.take i) l[i].2.2.2.1<l[i].2.2.2.2
    ·have h3':¬ l[i].2.2.2.2≤lastS (l.take i) l[i].2.2.2.1 := by omega
     by_cases h4:l[i].2.2.2.2≤(ps[findI ps l[i].2.2.2.1]).2.1
     ·have h4':¬ l[i].2.2.2.2>(ps[findI ps l[i].2.2.2.1]).2.1 := by omega
      simp only [h3,h3',h4,h4',Qd,decide_false,Qf,Bool.and_self,Bool.not_true,X4q hs hi' hk,Q0i hi' (by omega)]
     ·have h4':l[i].2.2.2.2>(ps[findI ps l[i].2.2.2.1]).2.1 := by omega
      simp only [h3,h3',h4,h4',Qd,decide_false,Qf,Qt,Bool.and_false,Bool.not_false,Q0f]
    ·have h3':l[i].2.2.2.2≤lastS (l.take i) l[i].2.2.2.1 := by omega
     simp only [h3,h3',Qd,decide_false,Qt,Bool.false_and,Bool.not_false,Q0f]
   ·have hp0:proI ps l[i].2.2.2.1 = -1 := by simp only [proI,hk,decide_false,Qf]
    simp only [hp0,hk,show ((-1:Int)<0) from by decide,Qd,decide_false,Qt,Bool.false_and,Bool.not_false,Q0f]
 ·simp only [List.length_range,Int.lt_irrefl,decide_false,Qf]
  refine congrArg inrO ?_ |>.trans (Q0f)
  refine Q0z ps (fun i:Nat=>(((i:Int),()),())) (fun y => !proOk l y) ((),(165:Int)) ((),bif cs.all (conOk l) then 0 else 165) (show ps.length<fu by omega) (fun i h => ?_) ?_ ?_
  ·have hg:∀ d,ps.getD i d=ps[i] := fun d=>Q0k h
   have hz := h0 _ (List.getElem_mem h)
   simp only [Int.ofNat_lt,h,Qd,Qt,Int.natCast_nonneg,true_and,Int.toNat_natCast,hg,proOk,Q1b (x := (l.length:Int)) (by omega) (by omega)]
   cases hh:ps[i].2.2.1 with
   | false=>simp only [Bool.not_false,Qt,Bool.true_or,Bool.not_true,Qf,Q0i h (by omega)]
   | true =>
    simp only [Bool.not_true,Qf,Bool.false_or]
    by_cases h3:ps[i].2.2.2<(l.length:Int)
    ·have h3':¬ ps[i].2.2.2≥(l.length:Int) := by omega
     have h3n:ps[i].2.2.2.toNat<l.length := by omega
     have hgl:∀ d,l.getD ps[i].2.2.2.toNat d=l[ps[i].2.2.2.toNat] := fun d=>Q0k h3n
     simp only [Q2k (x := ps[i].2.2.2) (by omega) (by omega),h3,h3',h3n,hz,and_self,Qd,decide_false,Qt,Qf,hgl,Bool.true_and]
     cases h4:(l[ps[i].2.2.2.toNat].2.2.2.1==ps[i].1) with
     | false=>simp only [Bool.not_false,Qt,Bool.false_and,Q0f]
     | true =>
      simp only [Bool.not_true,Qf,Bool.true_and]
      cases h5:(l[ps[i].2.2.2.toNat].2.2.2.2==ps[i].2.1) with
      | false=>simp only [Bool.not_false,Qt,Q0f]
      | true=>simp only [Bool.not_true,Qf,Q0i h (by omega)]
    ·have h3':ps[i].2.2.2≥(l.length:Int) := by omega
     simp only [h3,h3',Qd,decide_false,Qt,Bool.false_and,Bool.not_false,Q0f]
  ·simp only [Int.lt_irrefl,decide_false,Qf]
   refine congrArg inrO ?_ |>.trans (Q0f)
   refine Q0z cs (fun i:Nat=>(((i:Int),()),())) (fun y => !conOk l y) ((),(165:Int)) ((),(0:Int)) (show cs.length<fu by have := hcs.1; omega) (fun i h => ?_) ?_ ?_
   ·have hg:∀ d,cs.getD i d=cs[i] := fun d=>Q0k h
    have hcl := hcs.1
    simp only [Int.ofNat_lt,h,Qd,Qt,Int.natCast_nonneg,true_and,Int.toNat_natCast,hg,conOk,Q1b (x := (l.length:Int)) (by omega) (by omega)]
    by_cases h3:cs[i].2≤(l.length:Int)
    ·have h3':¬ cs[i].2>(l.length:Int) := by omega
     simp only [h3,h3',Qd,decide_false,Qf,Bool.not_true,Q0i h (by omega)]
    ·have h3':cs[i].2>(l.length:Int) := by omega
     simp only [h3,h3',Qd,decide_false,Qt,Bool.not_false,Q0f]
   ·simp only [Int.lt_irrefl,decide_false,Qf,Q0f]
   ·rw [X0a]; cases cs.all (conOk l) <;> rfl
  ·rw [X0a]; cases ps.all (proOk l) <;> rfl
 ·rw [X0a]; cases (List.range l.length).all (recOk lo hi ps l) <;> rfl
end Go.Proofs.YtdkdhcakoccpfaaGreatDoor
namespace Go.Proofs.YtdkdhcakoccpfaaGreatDoor
open Go.RowKit
variable {fu:Nat}
theorem sl_d {α:Type} (l:List α) (i j:Nat):slice' l i (some j)=(l.drop i).take (j-i) := by
 cases i <;> simp [slice']
theorem K6j (k ep pr sq:Int) (key:ByteArray) (v:List Int) (off most:Int) (name:ByteArray) (plan:Int) (hn:name.size≤1048576) (hf:4194304<fu):p46 fu ((k,ep,pr,sq,key,v,off,most,name,plan,()),())=some ((),wfS (k,ep,pr,sq,key,v,off,most,name,plan,())) := by
 unfold p46 wfS
 have hJ := Q7h (fu := fu) [] pr sq (by simp) (show ([]:List Pr).length<fu by simp only [List.length_nil]; omega)
 simp only [hJ,Q9x name (show name.size<fu by omega),Q0a]
 by_cases h1:k=1
 ·subst h1
  have e1:decide ((ByteArray.size key:Int)≤32)=decide (key.size≤32) := by rw [decide_eq_decide]; omega
  have e2:decide ((List.length v:Int)≤256)=decide (v.length≤256) := by rw [decide_eq_decide]; omega
  simp only [beq_self_eq_true,Qt,if_true,e1,e2]
  cases ((judge [] pr sq).1 != 4)
  ·rfl
  cases decide (key.size≤32) <;> rfl
 have b1:(k==1)=false := by simpa using h1
 simp only [b1,h1,Qf,if_false]
 by_cases h2:k=2
 ·subst h2
  simp only [beq_self_eq_true,Qt,if_true]
  by_cases g:most≥1
  ·have g':1≤most := g
   simp only [g,Qd,Qt,Bool.true_and]
  ·have g':¬ 1≤most := g
   simp only [g,decide_false,Qf,Bool.false_and]
 have b2:(k==2)=false := by simpa using h2
 simp only [b2,h2,Qf,if_false]
 by_cases h3:k=3
 ·subst h3
  simp only [beq_self_eq_true,Qt,if_true]
  cases ((judge [] pr sq).1 != 4) <;> rfl
 have b3:(k==3)=false := by simpa using h3
 simp only [b3,h3,Qf,if_false]
 by_cases h4:k=4
 ·subst h4
  simp only [beq_self_eq_true,Qt,if_true]
 have b4:(k==4)=false := by simpa using h4
 simp only [b4,h4,Qf,if_false]
 by_cases h5:k=5
 ·subst h5
  simp only [beq_self_eq_true,Qt,if_true,Q0e]
 have b5:(k==5)=false := by simpa using h5
 simp only [b5,h5,Qf,if_false,Q0e]
 by_cases h6:k=6
 ·subst h6
  simp only [beq_self_eq_true,Qt,if_true]
 have b6:(k==6)=false := by simpa using h6
 simp only [b6,h6,Qf,if_false]
theorem K6k (l:List Rd) (o:Int) (key:ByteArray) (v:List Int) (pr sq:Int) (hl:logOk l=true) (hk:key.size≤32) (hv:v.length≤256) (hf:4194304<fu) :
  p87 fu (l,(o,key,v,pr,sq,()),())=some ((),if l.length<4096 then (l ++ [((l.length:Int),key,v,pr,sq)],(l.length:Int),0,()) else ([],0,143,())) := by
 have hn := (Q0v hl).1
 have h1:¬ (key.size:Int)>32 := by omega
 have h2:¬ (v.length:Int)>256 := by omega
 have hw:IntKind.wrap .u64 (l.length:Int)=(l.length:Int) := Q1b (by omega) (by omega)
 unfold p87 p107
 simp only [Q9y l (by omega) hf,hl,Q0a,Bool.not_true,Qf,h1,h2,decide_false,hw]
 by_cases h:l.length<4096
 ·have h':¬ (l.length:Int)≥4096 := by omega
  simp only [h,h',decide_false,Qf,if_true,List.length_nil,Qd,Qt,List.nil_append]
  simp only [show decide (0+l.length≤maxLen∧(0+l.length) * 64≤140737488355328)=true from decide_eq_true ⟨by unfold maxLen; omega,by omega⟩,show decide (0+v.length≤maxLen∧(0+v.length) * 1≤140737488355328)=true from decide_eq_true ⟨by unfold maxLen; omega,by omega⟩,Qt,Q0a]
  show (bif decide (l.length+1≤maxLen∧(l.length+1) * 64≤140737488355328) then some ((),l ++ [((l.length:Int),key,v,pr,sq)],(l.length:Int),(0:Int),()) else none)=_
  rw [Q2v ⟨by unfold maxLen; omega,by omega⟩]
 ·have h':(l.length:Int)≥4096 := by omega
  simp only [h,h',Qd,Qt,if_false]
theorem K6l (l:List Rd) (c f:Int) (hl:logOk l=true) (h0:0≤c) (hf:4194304<fu) :
  p50 fu (l,c,f,())=some ((),if c≤(l.length:Int) then ((l.drop c.toNat).take (min (min f.toNat 64) (l.length-c.toNat)),0,()) else ([],141,())) := by
 have hn := (Q0v hl).1
 unfold p50
 simp only [Q9y l (by omega) hf,Q0a,hl,Bool.not_true,Qf,Q1b (x := (l.length:Int)) (by omega) (by omega)]
 by_cases h:c≤(l.length:Int)
 ·have h1:¬ c>(l.length:Int) := by omega
  have h2:c.toNat≤l.length := by omega
  have hc:IntKind.wrap .i64 c=c := Q2k (by omega) (by omega)
  have hd:IntKind.wrap .i64 ((l.length:Int)-c)=((l.length-c.toNat:Nat):Int) := by rw [Q2k (by omega) (by omega)]; omega
  have hz:(if ((l.length-c.toNat:Nat):Int)<(if (64:Int)<(if (0:Int)>f then (0:Int) else f) then (64:Int) else (if (0:Int)>f then (0:Int) else f)) then ((l.length-c.toNat:Nat):Int) else (if (64:Int)<(if (0:Int)>f then (0:Int) else f) then (64:Int) else (if (0:Int)>f then (0:Int) else f)))=((min (min f.toNat 64) (l.length-c.toNat):Nat):Int) := by
   split <;> split <;> (try split) <;> (try split) <;> omega
  simp only [hc,hd,hz]
  generalize hm:min (min f.toNat 64) (l.length-c.toNat)=m
  have hm1:m≤l.length-c.toNat := by omega
  have he:IntKind.wrap .i64 (c+(m:Int))=((c.toNat+m:Nat):Int) := by rw [Q2k (by omega) (by omega)]; omega
  have hs:slice' l c.toNat (some (c.toNat+m))=(l.drop c.toNat).take m := by
   rw [sl_d,Nat.add_sub_cancel_left]
  have hsl:((l.drop c.toNat).take m).length=m := by simp; omega
  simp only [he,h1,h0,if_pos h,Qd,decide_false,Qt,Qf,Int.natCast_nonneg,Int.toNat_natCast,hs,List.nil_append,List.length_nil,hsl]
  rw [Q2v ⟨by unfold maxLen; omega,by omega⟩,Q2v ⟨by omega,by omega⟩]
 ·have h1:c>(l.length:Int) := by omega
  simp only [h,h1,if_false,Qd,Qt]
theorem K6m {ps:List Pr} {pr sq:Int} (h:((judge [] pr sq).1 != 4)=true):(judge ps pr sq).1=1 ∨ (judge ps pr sq).1=2 ∨ (judge ps pr sq).1=3 := by
 rcases X5a ps pr sq with ⟨h1,h2⟩ | ⟨_,_,⟨h1,_⟩ | ⟨y,_,h1,_⟩ | ⟨y,_,h1,_⟩ | ⟨y,_,h1⟩⟩
 ·exfalso
  have:(judge [] pr sq).1=4 := by
   unfold judge
   rcases h2 with h2 | h2
   ·rw [if_pos h2]
   ·by_cases h0:pr=0
    ·rw [if_pos h0]
    ·rw [if_neg h0,if_pos h2]
  rw [this] at h
  cases h
 ·exact .inl (by rw [h1])
 ·exact .inl (by rw [h1])
 ·exact .inr (.inl (by rw [h1]))
 ·exact .inr (.inr (by rw [h1]))
theorem K6n (lo up:ByteArray) (z:Int) (l:List Rd) (ps:List Pr) (cs:List Cn) (ep pr sq:Int) (key:ByteArray) (v:List Int) (off most:Int) (name:ByteArray) (plan:Int)
  (hk:chkS (lo,up,ep,z,l,ps,cs,())=true) (hw:wfS (1,ep,pr,sq,key,v,off,most,name,plan,())=true) (hp:ps.length≤2097152) (hf:4194304<fu) :
  p48 fu ((lo,up,ep,z,l,ps,cs,()),(1,ep,pr,sq,key,v,off,most,name,plan,()),())=some ((),(doS (lo,up,ep,z,l,ps,cs,()) (1,ep,pr,sq,key,v,off,most,name,plan,())).1,(doS (lo,up,ep,z,l,ps,cs,()) (1,ep,pr,sq,key,v,off,most,name,plan,())).2,()) := by
 have hl:logOk l=true := ((Q1j _ _ _ _ _ _ _).1 hk).2.2.1
 have hw' := hw
 simp only [wfS,if_true,Bool.and_eq_true,decide_eq_true_eq] at hw'
 obtain ⟨w1,w2,w3⟩ := hw'
 rw [Q0o hk,Q1u hw rfl,Q0y]
 unfold p48 p47
 simp only [if_true,X5i,Q0a]
 by_cases hh:hasB lo up key=true
 ·simp only [if_pos hh,hh,Bool.not_true,Qf,Q7h (fu := fu) ps pr sq (by omega) (by omega),Q0a]
  rcases K6m (ps := ps) w1 with j | j | j
  ·have n1:nwS ps 1 pr sq=none := by unfold nwS; rw [if_pos j]
   simp only [j,n1,Int.reduceBEq,Qf,Option.none_or]
   by_cases h0:z=0
   ·have b0:(z != 0)=false := by simp [h0]
    have hA := K6k (fu := fu) l 0 key v pr sq hl w2 w3 hf
    simp only [if_pos h0,b0,Qf,hA,Q0a]
    unfold actS prodS
    by_cases h4:l.length<4096
    ·simp only [if_pos h4,if_true,Q0a,show ((0:Int) != 0)=false from rfl,Qf,X5g (fu := fu) ps pr sq (l.length:Int) (by omega) (show ps.length<fu by omega)]
     by_cases g:(putS ps (pr,sq,true,(l.length:Int))).2=0
     ·have b1:((putS ps (pr,sq,true,(l.length:Int))).2 != 0)=false := by simp [g]
      simp only [if_pos g,b1,Qf,errF,if_true,Qd,Qt]
     ·have b1:((putS ps (pr,sq,true,(l.length:Int))).2 != 0)=true := by simpa using g
      simp only [if_neg g,b1,Qt,errF]
    ·simp only [if_neg h4,if_true,show ((143:Int) != 0)=true from rfl,Qt,errF,show ¬ ((143:Int)=0) by decide,if_false]
   ·have b0:(z != 0)=true := by simpa using h0
    simp only [if_neg h0,b0,Qt,if_true]
  ·have n1:nwS ps 1 pr sq=some (.inr ((judge ps pr sq).2,true)) := by unfold nwS; rw [j]; rfl
   simp only [j,n1,Int.reduceBEq,Qt,Option.some_or,if_true]
  ·have n1:nwS ps 1 pr sq=some (.inl 152) := by unfold nwS; rw [j]; rfl
   simp only [j,n1,Int.reduceBEq,Qt,Qf,Option.some_or,if_true]
 ·have hh':hasB lo up key=false := by simpa using hh
  simp only [hh',Bool.not_false,Qt,Bool.false_eq_true,if_false]
theorem K6o (lo up:ByteArray) (z:Int) (l:List Rd) (ps:List Pr) (cs:List Cn) (ep pr sq:Int) (key:ByteArray) (v:List Int) (off most:Int) (name:ByteArray) (plan:Int)
  (hk:chkS (lo,up,ep,z,l,ps,cs,())=true) (hw:wfS (3,ep,pr,sq,key,v,off,most,name,plan,())=true) (hp:ps.length≤2097152) (hc:okL cs) (hn:name.size≤1048576) (hf:4194304<fu) :
  p49 fu ((lo,up,ep,z,l,ps,cs,()),(3,ep,pr,sq,key,v,off,most,name,plan,()),())=some ((),(doS (lo,up,ep,z,l,ps,cs,()) (3,ep,pr,sq,key,v,off,most,name,plan,())).1,(doS (lo,up,ep,z,l,ps,cs,()) (3,ep,pr,sq,key,v,off,most,name,plan,())).2,()) := by
 have hl:logOk l=true := ((Q1j _ _ _ _ _ _ _).1 hk).2.2.1
 have hll := (Q0v hl).1
 have hlw:IntKind.wrap .u64 (l.length:Int)=(l.length:Int) := Q1b (by omega) (by omega)
 rw [Q0o hk,Q1u hw rfl,Q0y]
 unfold p49 p47
 simp only [show ¬ ((3:Int)=1) by decide,if_true,if_false,Q7h (fu := fu) ps pr sq (by omega) (by omega),Q0a]
 by_cases j:(judge ps pr sq).1=1
 ·have n1:nwS ps 3 pr sq=none := by unfold nwS; rw [if_pos j]
  simp only [j,n1,bne_self_eq_false,Qf,Option.none_or]
  by_cases h0:z=0
  ·have b0:(z != 0)=false := by simp [h0]
   simp only [if_pos h0,b0,Qf,hlw,K6b cs name off (l.length:Int) hc hn hf,Q0a]
   unfold actS comS
   simp only [show ¬ ((3:Int)=1) by decide,show ¬ ((3:Int)=2) by decide,if_true,if_false]
   by_cases h4:(commitS cs name off (l.length:Int)).2=0
   ·have b1:((commitS cs name off (l.length:Int)).2 != 0)=false := by simp [h4]
    simp only [if_pos h4,b1,Qf,K6g (fu := fu) ps pr sq (by omega) (by omega),Q0a]
    by_cases g:(putS ps (pr,sq,false,0)).2=0
    ·have b2:((putS ps (pr,sq,false,0)).2 != 0)=false := by simp [g]
     simp only [if_pos g,b2,Qf,errF,if_true,Qd,Qt]
    ·have b2:((putS ps (pr,sq,false,0)).2 != 0)=true := by simpa using g
     simp only [if_neg g,b2,Qt,errF]
   ·have b1:((commitS cs name off (l.length:Int)).2 != 0)=true := by simpa using h4
    simp only [if_neg h4,b1,Qt,errF]
  ·have b0:(z != 0)=true := by simpa using h0
   simp only [if_neg h0,b0,Qt]
 ·have b1:((judge ps pr sq).1 != 1)=true := by simpa using j
  have n1:nwS ps 3 pr sq=some (.inr (0,true)) := by unfold nwS; rw [if_neg j]; rfl
  simp only [n1,b1,Qt,Option.some_or]
theorem K6p (p:St16) (c:Cm16) (hb:bndS p) (hc:bndC c) (hf:4194304<fu):p10 fu (p,c,())=some ((),(doS p c).1,(doS p c).2,()) := by
 have h6 := X0b (fu := fu) p hb hf
 obtain ⟨lo,up,e,z,l,ps,cs,⟨⟩⟩ := p
 obtain ⟨k,ep,pr,sq,key,v,off,most,name,plan,⟨⟩⟩ := c
 obtain ⟨b1,b2,b3,b4⟩ := hb
 have hI := K6j (fu := fu) k ep pr sq key v off most name plan hc.1 hf
 cases hk:chkS (lo,up,e,z,l,ps,cs,()) with
 | false =>
  rw [hk] at h6
  have hd:doS (lo,up,e,z,l,ps,cs,()) (k,ep,pr,sq,key,v,off,most,name,plan,())=(zeroP,(165,0,false,[],())) := by unfold doS; rw [if_pos hk]
  rw [hd]
  unfold p10 p47
  simp only [hI,h6,Q0a,Qf,show ((165:Int) != 0)=true from rfl,Qt]
  rfl
 | true =>
  rw [hk] at h6
  cases hw:wfS (k,ep,pr,sq,key,v,off,most,name,plan,()) with
  | false =>
   rw [hw] at hI
   have hd:doS (lo,up,e,z,l,ps,cs,()) (k,ep,pr,sq,key,v,off,most,name,plan,())=((lo,up,e,z,l,ps,cs,()),(161,0,false,[],())) := by
    rw [Q0o hk]; unfold wkS; rw [if_pos hw]
   rw [hd]
   unfold p10 p47
   simp only [hI,h6,Q0a,Qt,show ((0:Int) != 0)=false from rfl,Qf,Bool.not_false]
  | true =>
   rw [hw] at hI
   by_cases he:ep=e
   ·subst he
    have hbe:(ep != ep)=false := by simp
    have hkd := Q9s hw
    have hl:logOk l=true := ((Q1j _ _ _ _ _ _ _).1 hk).2.2.1
    simp only at hkd
    rcases hkd with rfl | rfl | rfl | rfl | rfl | rfl
    ·have hp := K6n (fu := fu) lo up z l ps cs ep pr sq key v off most name plan hk hw b2 hf
     unfold p10
     simp only [hI,h6,Q0a,Qt,show ((0:Int) != 0)=false from rfl,Qf,Bool.not_true,hbe,Int.reduceBEq]
     rw [hp]
     rfl
    ·rw [Q0o hk,Q1u hw rfl,Q0y]
     unfold p10 p47
     simp only [hI,h6,Q0a,Qt,show ((0:Int) != 0)=false from rfl,Qf,Bool.not_true,hbe,Int.reduceBEq,show ¬ ((2:Int)=1) by decide,show ¬ ((2:Int)=3) by decide,if_false,if_true,K6l l off most hl hc.2 hf]
     by_cases h0:z=0
     ·have b0:(z != 0)=false := by simp [h0]
      simp only [if_pos h0,b0,Qf]
      unfold actS fetchS
      simp only [show ¬ ((2:Int)=1) by decide,if_false,if_true]
      have hll := (Q0v hl).1
      by_cases h:off≤(l.length:Int)
      ·have hm:((l.drop off.toNat).take (min (min most.toNat 64) (l.length-off.toNat))).length≤4096 := by simp; omega
       have h00:0≤off := hc.2
       simp only [if_pos h,show ((0:Int) != 0)=false from rfl,Qf,Qd,Qt,errF,if_true]
       generalize (l.drop off.toNat).take (min (min most.toNat 64) (l.length-off.toNat))=m at hm
       rw [Q1b (x := (m.length:Int)) (by omega) (by omega),Q1b (by omega) (by omega)]
      ·simp only [if_neg h,show ((141:Int) != 0)=true from rfl,Qt,errF,show ¬ ((141:Int)=0) by decide,if_false]
     ·have b0:(z != 0)=true := by simpa using h0
      simp only [if_neg h0,b0,Qt]
    ·have hp := K6o (fu := fu) lo up z l ps cs ep pr sq key v off most name plan hk hw b2 b3 hc.1 hf
     unfold p10
     simp only [hI,h6,Q0a,Qt,show ((0:Int) != 0)=false from rfl,Qf,Bool.not_true,hbe,Int.reduceBEq]
     rw [hp]
     rfl
    ·rw [Q0o hk,Q1u hw rfl,Q0y]
     unfold p10 p47
     simp only [hI,h6,Q0a,Qt,show ((0:Int) != 0)=false from rfl,Qf,Bool.not_true,hbe,Int.reduceBEq,show ¬ ((4:Int)=1) by decide,show ¬ ((4:Int)=3) by decide,show ¬ ((4:Int)=2) by decide,if_false,if_true,X4z cs name b3.1 hf]
     by_cases h0:z=0
     ·have b0:(z != 0)=false := by simp [h0]
      simp only [if_pos h0,b0,Qf]
      unfold actS
      simp only [show ¬ ((4:Int)=1) by decide,show ¬ ((4:Int)=3) by decide,show ¬ ((4:Int)=2) by decide,if_false,if_true]
     ·have b0:(z != 0)=true := by simpa using h0
      simp only [if_neg h0,b0,Qt]
    ·have hpl:plan ≠ 0 := by
      have := hw
      simp only [wfS,show ¬ ((5:Int)=1) by decide,show ¬ ((5:Int)=3) by decide,show ¬ ((5:Int)=2) by decide,show ¬ ((5:Int)=4) by decide,if_false,if_true] at this
      simpa using this
     rw [Q0o hk,Q1u hw rfl,Q0y]
     unfold p10 p47
     simp only [hI,h6,Q0a,Qt,show ((0:Int) != 0)=false from rfl,Qf,Bool.not_true,hbe,Int.reduceBEq,show ¬ ((5:Int)=1) by decide,show ¬ ((5:Int)=3) by decide,show ¬ ((5:Int)=2) by decide,show ¬ ((5:Int)=4) by decide,if_false]
     by_cases h0:z=0
     ·subst h0
      have e1:((0:Int)==plan)=false := by simpa using Ne.symm hpl
      simp only [if_true,e1]
      unfold actS
      simp only [show ¬ ((5:Int)=1) by decide,show ¬ ((5:Int)=3) by decide,show ¬ ((5:Int)=2) by decide,show ¬ ((5:Int)=4) by decide,if_false,if_true]
      rfl
     ·have b0:(z != 0)=true := by simpa using h0
      by_cases h1:z=plan
      ·subst h1
       have e1:(z != z)=false := by simp
       simp only [if_neg h0,if_true,b0,Qt,Q0e,e1,Qf,beq_self_eq_true]
       unfold actS
       simp only [show ¬ ((5:Int)=1) by decide,show ¬ ((5:Int)=3) by decide,show ¬ ((5:Int)=2) by decide,show ¬ ((5:Int)=4) by decide,if_false,if_true,b0]
      ·have e1:(z != plan)=true := by simpa using h1
       simp only [if_neg h0,if_neg h1,b0,Qt,Q0e,e1]
    ·rw [Q0o hk,Q1u hw rfl,Q0y]
     unfold p10 p47
     simp only [hI,h6,Q0a,Qt,show ((0:Int) != 0)=false from rfl,Qf,Bool.not_true,hbe,Int.reduceBEq,show ¬ ((6:Int)=1) by decide,show ¬ ((6:Int)=3) by decide,show ¬ ((6:Int)=2) by decide,show ¬ ((6:Int)=4) by decide,if_false]
     by_cases h0:z=0
     ·subst h0
      simp only [if_true,bne_self_eq_false,Q0e,Qf]
      unfold actS
      simp only [show ¬ ((6:Int)=1) by decide,show ¬ ((6:Int)=3) by decide,show ¬ ((6:Int)=2) by decide,show ¬ ((6:Int)=4) by decide,show ¬ ((6:Int)=5) by decide,if_false]
     ·have b0:(z != 0)=true := by simpa using h0
      have c0:(z==0)=false := by simpa using h0
      by_cases h1:z=plan
      ·subst h1
       have e1:(z != z)=false := by simp
       simp only [if_neg h0,if_true,b0,Qt,Q0e,e1,Qf]
       unfold actS
       simp only [show ¬ ((6:Int)=1) by decide,show ¬ ((6:Int)=3) by decide,show ¬ ((6:Int)=2) by decide,show ¬ ((6:Int)=4) by decide,show ¬ ((6:Int)=5) by decide,if_false]
      ·have e1:(z != plan)=true := by simpa using h1
       simp only [if_neg h0,if_neg h1,b0,Qt,Q0e,e1]
   ·have hbe:(ep != e)=true := by simpa using he
    have hd:doS (lo,up,e,z,l,ps,cs,()) (k,ep,pr,sq,key,v,off,most,name,plan,())=((lo,up,e,z,l,ps,cs,()),(162,0,false,[],())) := by
     rw [Q0o hk]; unfold wkS; rw [hw]; simp only [Bool.true_eq_false,if_false,if_neg he]
    rw [hd]
    unfold p10 p47
    simp only [hI,h6,Q0a,Qt,show ((0:Int) != 0)=false from rfl,Qf,Bool.not_true,hbe]
end Go.Proofs.YtdkdhcakoccpfaaGreatDoor
namespace Go.Proofs.YtdkdhcakoccpfaaGreatDoor.Dr
open Go.RowKit
variable {fu:Nat}
theorem wuk {x:Int} (k:IntKind) (hk:k.signed=false) (h1:0≤x) (h2:x<2 ^ k.bits):IntKind.wrap k x=x := by
 unfold IntKind.wrap
 simp only [hk,Bool.false_and,Bool.false_eq_true,if_false]
 exact Int.emod_eq_of_lt h1 h2
theorem wu64 {x:Int} (h1:0≤x) (h2:x<18446744073709551616):IntKind.wrap .u64 x=x := wuk .u64 rfl h1 h2
theorem wu8 {x:Int} (h1:0≤x) (h2:x<256):IntKind.wrap .u8 x=x := wuk .u8 rfl h1 h2
theorem wi64 {x:Int} (h1:-9223372036854775808≤x) (h2:x<9223372036854775808):IntKind.wrap .i64 x=x := by
 have e1:(2:Int) ^ IntKind.bits .i64=18446744073709551616 := rfl
 have e2:(2:Int) ^ (IntKind.bits .i64-1)=9223372036854775808 := rfl
 unfold IntKind.wrap
 simp only [e1,e2]
 split
 ·rename_i h
  simp at h
  omega
 ·rename_i h
  simp [IntKind.signed] at h
  omega
theorem K6q (n:Nat):Int.fdiv (n:Int) (2 ^ (min (Int.toNat (7:Int)) (IntKind.bits .u64)))=((n / 128:Nat):Int) := by
 show Int.fdiv (n:Int) 128=_
 rw [Int.fdiv_eq_ediv_of_nonneg _ (by decide)]
 rfl
theorem K6r (n m:Nat):((BitVec.ofInt (IntKind.bits .u64) (n:Int) &&& BitVec.ofInt (IntKind.bits .u64) (m:Int)).toNat)=(BitVec.ofNat 64 n &&& BitVec.ofNat 64 m).toNat := by
 show (BitVec.ofInt 64 (n:Int) &&& BitVec.ofInt 64 (m:Int)).toNat=_
 rw [BitVec.ofInt_natCast,BitVec.ofInt_natCast]
theorem lowR (n:Nat) (h:n<18446744073709551616):IntKind.wrap .u8 ((IntKind.wrap .u8 (IntKind.wrap .u64 ((BitVec.ofInt (IntKind.bits .u64) (n:Int) &&& BitVec.ofInt (IntKind.bits .u64) (127:Int)).toNat:Int)))+(128:Int))=((n % 128+128:Nat):Int) := by
 have h2:(BitVec.ofInt (IntKind.bits .u64) (n:Int) &&& BitVec.ofInt (IntKind.bits .u64) (127:Int)).toNat=n % 128 := by
  refine (K6r n 127).trans ?_
  rw [BitVec.toNat_and,BitVec.toNat_ofNat,BitVec.toNat_ofNat,Nat.mod_eq_of_lt h]
  exact Nat.and_two_pow_sub_one_eq_mod n 7
 rw [h2,wu64 (by omega) (by omega),wu8 (x := ((n % 128:Nat):Int)) (by omega) (by omega),wu8 (by omega) (by omega)]
 omega
def zz (c:Int):Int := if c<0 then -2 * c-1 else 2 * c
def isI (c:Int):Prop := -9223372036854775808≤c∧c≤9223372036854775807
def isU (c:Int):Prop := 0≤c∧c≤18446744073709551615
def ub (v:Nat):List Int := if v<128 then [(v:Int)] else ((v % 128+128:Nat):Int) :: ub (v / 128)
termination_by v
decreasing_by omega
theorem Q5k {v:Nat} (h:v<128):ub v=[(v:Int)] := by rw [ub,if_pos h]
theorem Q7i {v:Nat} (h:¬ v<128):ub v=((v % 128+128:Nat):Int) :: ub (v / 128) := by rw [ub,if_neg h]
theorem X5j:∀ (k v:Nat),v<128 ^ (k+1)→(ub v).length≤k+1
 | 0,v,h=>by rw [Q5k (by simpa using h)]; simp
 | k+1,v,h=>by
  by_cases hv:v<128
  ·rw [Q5k hv]; simp
  ·rw [Q7i hv]
   have h2:v / 128<128 ^ (k+1) := by
    rw [Nat.div_lt_iff_lt_mul (by decide)]
    rw [Nat.pow_succ] at h
    exact h
   have := X5j k (v / 128) h2
   simp only [List.length_cons]
   omega
def uB (v:Int):List Int := ub v.toNat
theorem Q0n {v:Int} (h:isU v):(uB v).length≤10 := by
 obtain ⟨h1,h2⟩ := h
 exact X5j 9 _ (by have : (128 : Nat) ^ 10 = 1180591620717411303424 := (by decide); omega)
def tB (l:List Int):List Int := uB (l.length:Int) ++ l
theorem X5k {n:Nat} (h:n≤140737488355328):n≤maxLen := Nat.le_trans h (by decide)
theorem X5l {n:Nat} (h:n≤140737488355328):isU (n:Int) := ⟨by omega,by omega⟩
theorem and8 (n m:Nat):((BitVec.ofInt (IntKind.bits .u8) (n:Int) &&& BitVec.ofInt (IntKind.bits .u8) (m:Int)).toNat)=(BitVec.ofNat 8 n &&& BitVec.ofNat 8 m).toNat := by
 show (BitVec.ofInt 8 (n:Int) &&& BitVec.ofInt 8 (m:Int)).toNat=_
 rw [BitVec.ofInt_natCast,BitVec.ofInt_natCast]
theorem low7 (x:Nat) (h:x<256):IntKind.wrap .u8 ((BitVec.ofInt (IntKind.bits .u8) (x:Int) &&& BitVec.ofInt (IntKind.bits .u8) (127:Int)).toNat:Int)=((x % 128:Nat):Int) := by
 have h2:(BitVec.ofInt (IntKind.bits .u8) (x:Int) &&& BitVec.ofInt (IntKind.bits .u8) (127:Int)).toNat=x % 128 := by
  refine (and8 x 127).trans ?_
  rw [BitVec.toNat_and,BitVec.toNat_ofNat,BitVec.toNat_ofNat,Nat.mod_eq_of_lt h]
  exact Nat.and_two_pow_sub_one_eq_mod x 7
 rw [h2,wu8 (by omega) (by omega)]
theorem pow7 (i:Nat) (h:i≤9):(2:Int) ^ (min (Int.toNat (IntKind.wrap .i64 ((7:Int) * (i:Int)))) (IntKind.bits .u64))=((128 ^ i:Nat):Int) := by
 have e:IntKind.wrap .i64 ((7:Int) * (i:Int))=((7 * i:Nat):Int) := by rw [wi64 (by omega) (by omega)]; omega
 rw [e,Int.toNat_natCast,Nat.min_eq_left (by show 7 * i≤64; omega),show (128:Nat)=2 ^ 7 from rfl,← Nat.pow_mul]
 simp
def numS:Nat→Nat→List Int→Int×Int×Int
 | _,_,[]=>(0,0,11)
 | i,acc,x :: r=>if i=9∧x ≠ 1 then (0,0,12) else if x=0∧0<i then (0,0,12) else if x<128 then (((acc+x.toNat % 128 * 128 ^ i:Nat):Int),((i+1:Nat):Int),0) else numS (i+1) (acc+x.toNat % 128 * 128 ^ i) r
theorem X5m:∀ (r:List Int) (i acc:Nat),(∃ v k:Nat,numS i acc r=((v:Int),(k:Int),0)∧i<k∧k≤i+r.length) ∨ (∃ e:Int,e ≠ 0∧numS i acc r=(0,0,e))
 | [],_,_ => .inr ⟨11,by decide,rfl⟩
 | x :: r,i,acc=>by
  rw [numS]
  split
  ·exact .inr ⟨12,by decide,rfl⟩
  ·split
   ·exact .inr ⟨12,by decide,rfl⟩
   ·split
    ·exact .inl ⟨_,_,rfl,by omega,by simp only [List.length_cons]; omega⟩
    ·rcases X5m r (i+1) (acc+x.toNat % 128 * 128 ^ i) with ⟨v,k,h1,h2,h3⟩ | h
     ·exact .inl ⟨v,k,h1,by omega,by simp only [List.length_cons]; omega⟩
     ·exact .inr h
theorem X5n:∀ (r:List Int) (i acc:Nat) (v k:Int),(∀ x ∈ r,0≤x∧x≤255)→i≤9→acc<128 ^ i→numS i acc r=(v,k,0)→isU v
 | [],i,acc,v,k,_,_,_,h=>by simp [numS] at h
 | x :: r,i,acc,v,k,hb,hi,ha,h=>by
  have hx := hb x (by simp)
  obtain ⟨n,rfl⟩ := Int.eq_ofNat_of_zero_le hx.1
  have hpow:i=9→(128:Nat) ^ i=9223372036854775808 := fun e=>by rw [e]
  have hpow8:i≤8→(128:Nat) ^ i≤72057594037927936 := fun e=>by
   have := Nat.pow_le_pow_right (n := 128) (by decide) e
   have e8:(128:Nat) ^ 8=72057594037927936 := by decide
   omega
  have hmul:n % 128 * 128 ^ i≤127 * 128 ^ i := Nat.mul_le_mul_right _ (by omega)
  rw [numS] at h
  split at h
  ·simp at h
  ·rename_i h9
   split at h
   ·simp at h
   ·split at h
    ·simp only [Prod.mk.injEq,Int.toNat_natCast,and_true] at h
     rw [← h.1]
     unfold isU
     by_cases e9:i=9
     ·have hn1:(n:Int)=1 := Decidable.byContradiction fun k=>h9 ⟨e9,k⟩
      have hn1':n=1 := by omega
      have := hpow e9
      rw [hn1'] at hmul ⊢
      rw [this] at ha ⊢
      omega
     ·have := hpow8 (by omega)
      generalize 128 ^ i=q at *
      omega
    ·rename_i h128
     have e9:i ≠ 9 := fun e=>h9 ⟨e,by omega⟩
     refine X5n r (i+1) _ v k (fun y hy=>hb y (by simp [hy])) (by omega) ?_ h
     rw [Nat.pow_succ,Int.toNat_natCast]
     generalize 128 ^ i=q at *
     omega
def byt (l:List Int):Prop := ∀ x ∈ l,0≤x∧x≤255
theorem Q1a {a b:List Int} (h1:byt a) (h2:byt b):byt (a ++ b) := fun x hx=>by
 rcases List.mem_append.1 hx with h | h
 ·exact h1 x h
 ·exact h2 x h
theorem X5o:∀ (k v:Nat),v<k→byt (ub v)
 | 0,v,h=>absurd h (Nat.not_lt_zero v)
 | k+1,v,h=>by
  by_cases hv:v<128
  ·rw [Q5k hv]
   intro x hx
   rw [List.mem_singleton.1 hx]
   omega
  ·rw [Q7i hv]
   intro x hx
   rcases List.mem_cons.1 hx with e | e
   ·rw [e]; omega
   ·exact X5o k (v / 128) (by omega) x e
theorem Q1n (v:Int):byt (uB v) := X5o _ _ (Nat.lt_succ_self _)
theorem X5p {l:List Int} (h:byt l):byt (tB l) := Q1a (Q1n _) h
theorem X5q:∀ (k n i acc:Nat) (r:List Int),n<k→(0<i→1≤n)→i≤9→acc<128 ^ i→acc+n * 128 ^ i<18446744073709551616→numS i acc (ub n ++ r)=(((acc+n * 128 ^ i:Nat):Int),((i+(ub n).length:Nat):Int),0)
 | 0,n,_,_,_,h,_,_,_,_=>absurd h (Nat.not_lt_zero n)
 | k+1,n,i,acc,r,hk,h1,hi,ha,hb=>by
  have hpow:i=9→(128:Nat) ^ i=9223372036854775808 := fun e=>by rw [e]
  by_cases hn:n<128
  ·rw [Q5k hn]
   have c1:¬ (i=9∧(n:Int) ≠ 1) := by
    rintro ⟨e,hne⟩
    have := hpow e
    rw [this] at hb
    have h2 := h1 (by omega)
    omega
   have c2:¬ ((n:Int)=0∧0<i) := by
    rintro ⟨e,h3⟩
    have := h1 h3
    omega
   show numS i acc ((n:Int) :: r)=_
   rw [numS,if_neg c1,if_neg c2,if_pos (by omega),Int.toNat_natCast,Nat.mod_eq_of_lt hn]
   rfl
  ·rw [Q7i hn]
   have hi9:i ≠ 9 := fun e=>by
    have := hpow e
    rw [this] at hb
    omega
   show numS i acc (((n % 128+128:Nat):Int) :: (ub (n / 128) ++ r))=_
   rw [numS,if_neg (fun h=>hi9 h.1),if_neg (by omega),if_neg (by omega),Int.toNat_natCast,show (n % 128+128) % 128=n % 128 by omega]
   have hq:n % 128 * 128 ^ i+n / 128 * 128 ^ (i+1)=n * 128 ^ i := by
    rw [Nat.pow_succ,Nat.mul_comm (128 ^ i) 128,← Nat.mul_assoc,← Nat.add_mul]
    congr 1
    omega
   have hm:n % 128 * 128 ^ i≤127 * 128 ^ i := Nat.mul_le_mul_right _ (by omega)
   rw [X5q k (n / 128) (i+1) (acc+n % 128 * 128 ^ i) r (by omega) (fun _=>by omega) (by omega) (by rw [Nat.pow_succ]; omega) (by rw [Nat.add_assoc,hq]; exact hb),Nat.add_assoc,hq,List.length_cons]
   congr 2
   rw [show i+1+(ub (n / 128)).length=i+((ub (n / 128)).length+1) by omega]
end Go.Proofs.YtdkdhcakoccpfaaGreatDoor.Dr
namespace Go.Proofs.YtdkdhcakoccpfaaGreatDoor.Dr
open Go.RowKit
variable {fu:Nat}
structure okA (fu:Nat) (a:List Int):Prop where
 hb:byt a
 hn:a.length≤140737488355328
 hfu:10<fu
theorem okA.dr {a:List Int} (h:okA fu a) (c:Nat):byt (a.drop c) := fun x hx=>h.hb x (List.mem_of_mem_drop hx)
theorem K6s (l:List Int) (i j:Nat):slice' l i (some j)=(l.drop i).take (j-i) := by
 cases i <;> simp [slice']
theorem Q2z {a:List Int} {c h e at':Int} (he:e ≠ 0):p67 fu ((a,c,0,h,()),e,at',())=some (((a,at',e,at',()),()),()) := by
 unfold p67
 have g:(e != 0)=true := bne_iff_ne.2 he
 simp only [BEq.rfl,Qt,g,Q0e]
def afterU (a:List Int) (c h:Int) (r:Int×Int×Int):(((List Int×Int×Int×Int×Unit)×Unit)×Int) :=
 if r.2.2=0 then (((a,c+r.2.1,0,h,()),()),r.1) else (((a,c,r.2.2,c,()),()),0)
theorem K6t {pre b:List Int} {h:Int} (hb:∀ x ∈ b,0≤x∧x≤255) (hn:(pre ++ b).length≤140737488355328) (hfu:10<fu) :
  p31 fu ((pre ++ b,(pre.length:Int),0,h,()),())=some (afterU (pre ++ b) (pre.length:Int) h (numS 0 0 b)) := by
 unfold p31
 simp only [bne_self_eq_false,Qf]
 have hlen:(pre ++ b).length=pre.length+b.length := List.length_append ..
 refine Q1i (fun (s:(Int×(Int×Unit))×Unit) => ∃ (i acc:Nat) (q r:List Int),i≤9∧s=(((acc:Int),(i:Int),()),())∧b=q ++ r∧q.length=i∧acc<128 ^ i∧numS i acc r=numS 0 0 b) (fun s=>10-s.1.2.1.toNat) (fun _=>afterU (pre ++ b) (pre.length:Int) h (numS 0 0 b)) ?_ fu _ ⟨0,0,[],b,by omega,rfl,rfl,rfl,by simp,rfl⟩ (by dsimp only; omega)
 rintro _ ⟨i,acc,q,r,hi,rfl,ha,hp,hacc,hnum⟩
 have wi:IntKind.wrap .i64 ((i:Int)+1)=((i+1:Nat):Int) := by rw [wi64 (by omega) (by omega)]; omega
 have hbl:b.length=i+r.length := by rw [ha,List.length_append,hp]
 have wc:IntKind.wrap .i64 ((pre.length:Int)+(i:Int))=((pre.length+i:Nat):Int) := by rw [wi64 (by omega) (by omega)]; omega
 cases r with
 | nil =>
  right
  simp only [List.length_nil] at hbl
  have e1:decide (((pre.length+i:Nat):Int)≥((pre ++ b).length:Int))=true := by rw [hlen]; simp; omega
  have hd:numS i acc []=(0,0,11) := rfl
  rw [← hnum,hd]
  simp only [wc,e1,Qt]
  rw [Q2z (by decide)]
  rfl
 | cons x r =>
  simp only [List.length_cons] at hbl
  have hx := hb x (by rw [ha]; simp)
  obtain ⟨n,rfl⟩ := Int.eq_ofNat_of_zero_le hx.1
  have hxg:List.getD (pre ++ b) (pre.length+i) (dflt (.int .u8))=(n:Int) := by
   rw [ha,List.getD_eq_getElem?_getD,List.getElem?_append_right (by omega),List.getElem?_append_right (by omega),hp,show pre.length+i-pre.length-i=0 by omega]
   rfl
  have e1:decide (((pre.length+i:Nat):Int)≥((pre ++ b).length:Int))=false := by rw [hlen]; simp; omega
  have e3:decide ((0:Int)≤((pre.length+i:Nat):Int)∧((pre.length+i:Nat):Int)<((pre ++ b).length:Int))=true := by rw [hlen]; simp; omega
  have e4:decide (pre.length+i<(pre ++ b).length)=true := by rw [hlen]; simp; omega
  have e7:decide ((0:Int)≤IntKind.wrap .i64 ((7:Int) * (i:Int)))=true := by rw [wi64 (by omega) (by omega)]; simp; omega
  by_cases h9:i=9∧(n:Int) ≠ 1
  ·right
   obtain ⟨h9,hn1⟩ := h9
   have hd:numS i acc ((n:Int) :: r)=(0,0,12) := by rw [numS,if_pos ⟨h9,hn1⟩]
   rw [← hnum,hd]
   have g1:((i:Int)==9)=true := by rw [h9]; rfl
   have g2:((n:Int) != 1)=true := bne_iff_ne.2 hn1
   simp only [wc,e1,e3,e4,Int.toNat_natCast,hxg,Qt,Qf,g1,g2,Q0e]
   rw [Q2z (by decide)]
   rfl
  ·have hok:(bif ((i:Int)==9) then (some (.inl ((((n:Int) != 1),()),())):Option (((Bool×Unit)×Unit) ⊕ ((Int×(Int×Unit))×Unit ⊕ (((List Int×Int×Int×Int×Unit)×Unit)×Int)))) else some (.inl ((false,()),())))=some (.inl ((false,()),())) := by
    by_cases e9:i=9
    ·have hn1:(n:Int)=1 := Decidable.byContradiction fun k=>h9 ⟨e9,k⟩
     rw [hn1,e9]
     rfl
    ·have g1:((i:Int)==9)=false := by simp; omega
     rw [g1]
     rfl
   have hpow:i=9→(128:Nat) ^ i=9223372036854775808 := fun e=>by rw [e]
   have hpow8:i≤8→(128:Nat) ^ i≤72057594037927936 := fun e=>by
    have := Nat.pow_le_pow_right (n := 128) (by decide) e
    have e8:(128:Nat) ^ 8=72057594037927936 := by decide
    omega
   have hmul:n % 128 * 128 ^ i≤127 * 128 ^ i := Nat.mul_le_mul_right _ (by omega)
   have hpos:0<128 ^ i := Nat.pow_pos (by decide)
   have hbound:acc+n % 128 * 128 ^ i<18446744073709551616 := by
    by_cases e9:i=9
    ·have hn1:(n:Int)=1 := Decidable.byContradiction fun k=>h9 ⟨e9,k⟩
     have hn1':n=1 := by omega
     have := hpow e9
     rw [hn1'] at hmul ⊢
     rw [this] at hacc ⊢
     omega
    ·have := hpow8 (by omega)
     generalize 128 ^ i=q at *
     omega
   have hac:IntKind.wrap .u64 ((acc:Int)+(IntKind.wrap .u64 ((IntKind.wrap .u64 ((n % 128:Nat):Int)) * 2 ^ (min (Int.toNat (IntKind.wrap .i64 ((7:Int) * (i:Int)))) (IntKind.bits .u64)))))=((acc+n % 128 * 128 ^ i:Nat):Int) := by
    have hy1:n % 128≤n % 128 * 128 ^ i := Nat.le_mul_of_pos_right _ hpos
    rw [pow7 i hi,wu64 (x := ((n % 128:Nat):Int)) (by omega) (by omega),← Int.natCast_mul,wu64 (x := ((n % 128 * 128 ^ i:Nat):Int)) (by omega) (by omega),← Int.natCast_add,wu64 (by omega) (by omega)]
   by_cases h128:(n:Int)<128
   ·right
    have e8:decide ((n:Int)<128)=true := decide_eq_true h128
    have wc2:IntKind.wrap .i64 (((pre.length+i:Nat):Int)+1)=(pre.length:Int)+((i+1:Nat):Int) := by rw [wi64 (by omega) (by omega)]; omega
    simp only [wc,e1,e3,e4,Int.toNat_natCast,hxg,Qt,Qf,hok,Q0e,e7,e8,low7 n (by omega),hac,wc2]
    by_cases h0:(n:Int)=0∧0<i
    ·have hd:numS i acc ((n:Int) :: r)=(0,0,12) := by rw [numS,if_neg h9,if_pos h0]
     have g2:((n:Int)==0)=true := beq_iff_eq.2 h0.1
     have g3:decide ((i:Int)>0)=true := by simp; omega
     rw [← hnum,hd]
     simp only [g2,g3,Qt,Q0e]
     rw [Q2z (by decide)]
     rfl
    ·have hd:numS i acc ((n:Int) :: r)=(((acc+n % 128 * 128 ^ i:Nat):Int),((i+1:Nat):Int),0) := by rw [numS,if_neg h9,if_neg h0,if_pos h128]; rfl
     have hz:(bif ((n:Int)==0) then (some (.inl ((decide ((i:Int)>0),()),())):Option (((Bool×Unit)×Unit) ⊕ ((Int×(Int×Unit))×Unit ⊕ (((List Int×Int×Int×Int×Unit)×Unit)×Int)))) else some (.inl ((false,()),())))=some (.inl ((false,()),())) := by
      by_cases hn0:(n:Int)=0
      ·have hi0:i=0 := Decidable.byContradiction fun k=>h0 ⟨hn0,by omega⟩
       rw [hn0,hi0]
       rfl
      ·have g2:((n:Int)==0)=false := beq_eq_false_iff_ne.2 hn0
       rw [g2]
       rfl
     rw [← hnum,hd]
     simp only [hz,Q0e,Qf,inrO,Option.map_some]
     rfl
   ·left
    have e9:i ≠ 9 := fun e=>h9 ⟨e,by omega⟩
    have h0:¬ ((n:Int)=0∧0<i) := by omega
    have hd:numS i acc ((n:Int) :: r)=numS (i+1) (acc+n % 128 * 128 ^ i) r := by rw [numS,if_neg h9,if_neg h0,if_neg h128]; rfl
    have e8:decide ((n:Int)<128)=false := decide_eq_false h128
    refine ⟨((((acc+n % 128 * 128 ^ i:Nat):Int),((i+1:Nat):Int),()),()),?_,⟨i+1,acc+n % 128 * 128 ^ i,q ++ [(n:Int)],r,by omega,rfl,?_,?_,?_,?_⟩,?_,rfl⟩
    ·simp only [wc,e1,e3,e4,Int.toNat_natCast,hxg,Qt,Qf,hok,Q0e,e7,e8,low7 n (by omega),hac,wi]
    ·rw [ha]; simp
    ·simp [hp]
    ·rw [Nat.pow_succ]
     generalize 128 ^ i=q at *
     omega
    ·rw [← hd]; exact hnum
    ·dsimp only
     omega
inductive RR (α:Type) where
 | ok (c:Nat) (v:α)
 | er (e q:Int)
def RR.bind {α β:Type}:RR α→(Nat→α→RR β)→RR β
 | .ok c v,k=>k c v
 | .er e q,_ => .er e q
def uS (a:List Int) (c:Nat):RR Int :=
 if (numS 0 0 (a.drop c)).2.2=0 then .ok (c+(numS 0 0 (a.drop c)).2.1.toNat) (numS 0 0 (a.drop c)).1 else .er (numS 0 0 (a.drop c)).2.2 c
def cntS (a:List Int) (m:Int) (c:Nat):RR Int :=
 (uS a c).bind fun c1 v=>if m<0 ∨ v>m then .er 13 (c:Int) else if v>((a.length-c1:Nat):Int) then .er 11 (c:Int) else .ok c1 v
def bytS (a:List Int) (m:Int) (c:Nat):RR (List Int) := (cntS a m c).bind fun c1 n => .ok (c1+n.toNat) ((a.drop c1).take n.toNat)
def boolS (a:List Int) (c:Nat):RR Bool := if a.length≤c then .er 11 (c:Int) else if a.getD c 0>1 then .er 16 (c:Int) else .ok (c+1) (a.getD c 0==1)
abbrev DT := List Int×Int×Int×Int×Unit
def DR {α:Type} (a:List Int) (d:α) (r:RR α) (P:α→Prop) (o:Option ((DT×Unit)×α)):Prop :=
 match r with
 | .ok c v=>c≤a.length∧P v∧o=some (((a,(c:Int),0,0,()),()),v)
 | .er e q=>e ≠ 0 ∧ ∃ c,o=some (((a,c,e,q,()),()),d)
theorem K6u {fu:Nat} {a:List Int} {c:Nat} (h:okA fu a) (hc:c≤a.length) :
  (∃ v k:Nat,numS 0 0 (a.drop c)=((v:Int),(k:Int),0)∧uS a c = .ok (c+k) (v:Int)∧c+k≤a.length∧isU (v:Int)) ∨ (∃ e:Int,e ≠ 0∧numS 0 0 (a.drop c)=(0,0,e)∧uS a c = .er e c) := by
 rcases X5m (a.drop c) 0 0 with ⟨v,k,hnum,hk0,hk⟩ | ⟨e,he,hnum⟩
 ·refine .inl ⟨v,k,hnum,?_,?_,X5n _ 0 0 _ _ (h.dr c) (by omega) (by decide) hnum⟩
  ·unfold uS
   rw [hnum,if_pos rfl]
   rfl
  ·rw [List.length_drop] at hk; omega
 ·refine .inr ⟨e,he,hnum,?_⟩
  unfold uS
  rw [hnum,if_neg he]
def isBs (a l:List Int):Prop := l.length≤a.length ∧ ∀ x ∈ l,0≤x∧x≤255
theorem K6v {a:List Int} {m:Int} {c c1:Nat} {v:Int} (h:cntS a m c = .ok c1 v):v≤m∧v≤((a.length-c1:Nat):Int) ∧ ∃ k,uS a c = .ok c1 k := by
 unfold cntS at h
 rcases hu:uS a c with ⟨c1',v'⟩ | ⟨e,q⟩
 ·rw [hu] at h
  simp only [RR.bind] at h
  split at h
  ·cases h
  ·split at h
   ·cases h
   ·injection h with h1 h2
    subst h1 h2
    exact ⟨by omega,by omega,_,rfl⟩
 ·rw [hu] at h
  cases h
theorem Q1v {a:List Int} {c e q:Int} (he:e ≠ 0):p31 fu ((a,c,e,q,()),())=some (((a,c,e,q,()),()),0) := by
 have g:(e != 0)=true := bne_iff_ne.2 he
 unfold p31
 simp only [g,Qt]
theorem p31D {a:List Int} {c:Nat} (h:okA fu a) (hc:c≤a.length):DR a 0 (uS a c) isU (p31 fu ((a,(c:Int),0,0,()),())) := by
 have hl := h.hn
 have hp := K6t (fu := fu) (pre := a.take c) (b := a.drop c) (h := 0) (h.dr c) (by rw [List.take_append_drop]; exact hl) h.hfu
 rw [List.take_append_drop,List.length_take,Nat.min_eq_left hc] at hp
 rw [hp]
 rcases K6u h hc with ⟨v,k,hnum,hu,hk,hv⟩ | ⟨e,he,hnum,hu⟩
 ·rw [hu,hnum]
  exact ⟨hk,hv,rfl⟩
 ·rw [hu,hnum]
  refine ⟨he,c,?_⟩
  unfold afterU
  rw [if_neg he]
theorem X5r {a:List Int} {c e q:Int} (he:e ≠ 0):p34 fu ((a,c,e,q,()),())=some (((a,c,e,q,()),()),false) := by
 have g:(e != 0)=true := bne_iff_ne.2 he
 unfold p34
 simp only [g,Qt]
theorem p34D {a:List Int} {c:Nat} (h:okA fu a) (_:c≤a.length):DR a false (boolS a c) (fun _=>True) (p34 fu ((a,(c:Int),0,0,()),())) := by
 have hl := h.hn
 unfold boolS p34
 simp only [bne_self_eq_false,Qf]
 by_cases hz:a.length≤c
 ·have g:decide ((c:Int)≥(a.length:Int))=true := by simp; omega
  rw [if_pos hz]
  refine ⟨by decide,c,?_⟩
  simp only [g,Qt]
  rw [Q2z (by decide)]
  rfl
 ·have g:decide ((c:Int)≥(a.length:Int))=false := by simp; omega
  have e1:decide ((0:Int)≤(c:Int)∧(c:Int)<(a.length:Int))=true := by simp; omega
  have e2:decide (c<a.length)=true := by simp; omega
  have w1:IntKind.wrap .i64 ((c:Int)+1)=((c+1:Nat):Int) := by rw [wi64 (by omega) (by omega)]; omega
  have w2:IntKind.wrap .i64 (((c+1:Nat):Int)-1)=(c:Int) := by rw [wi64 (by omega) (by omega)]; omega
  have eg:a.getD c (dflt (.int .u8))=a.getD c 0 := rfl
  rw [if_neg hz]
  simp only [g,Qf,e1,e2,Int.toNat_natCast,Qt,eg,w1,w2]
  by_cases hk:a.getD c 0>1
  ·rw [if_pos hk]
   refine ⟨by decide,c,?_⟩
   simp only [decide_eq_true hk,Qt]
   rw [Q2z (by decide)]
   rfl
  ·rw [if_neg hk]
   refine ⟨by omega,trivial,?_⟩
   simp only [decide_eq_false hk,Qf]
theorem Q1q {a:List Int} {c e q j:Int} (he:e ≠ 0):p33 fu ((a,c,e,q,()),j,())=some (((a,c,e,q,()),()),0) := by
 have g:(e != 0)=true := bne_iff_ne.2 he
 unfold p33
 dsimp only
 rw [Q1v he]
 simp only [Qb,g,Qt]
theorem p33D {a:List Int} {c:Nat} {j:Int} (h:okA fu a) (hc:c≤a.length) (hj:isI j):DR a 0 (cntS a j c) (fun n=>0≤n) (p33 fu ((a,(c:Int),0,0,()),j,())) := by
 have hp := p31D (fu := fu) h hc
 have hl := h.hn
 obtain ⟨hj1,hj2⟩ := hj
 unfold cntS p33
 dsimp only
 rcases hu:uS a c with ⟨c1,v⟩ | ⟨e,q⟩
 ·rw [hu] at hp
  obtain ⟨h1,⟨h2,h2'⟩,h3⟩ := hp
  rw [h3]
  simp only [Qb,Qf,RR.bind,bne_self_eq_false]
  have hw2:IntKind.wrap .u64 (IntKind.wrap .i64 ((a.length:Int)-(c1:Int)))=((a.length-c1:Nat):Int) := by rw [wi64 (by omega) (by omega),wu64 (by omega) (by omega)]; omega
  by_cases hbad:j<0 ∨ v>j
  ·rw [if_pos hbad]
   refine ⟨by decide,c,?_⟩
   by_cases g:j<0
   ·simp only [decide_eq_true g,Qt,Q0e]
    rw [Q2z (by decide)]
    rfl
   ·have g2:v>IntKind.wrap .u64 j := by rw [wu64 (by omega) (by omega)]; omega
    simp only [decide_eq_false g,decide_eq_true g2,Qt,Qf,Q0e]
    rw [Q2z (by decide)]
    rfl
  ·rw [if_neg hbad]
   have g:¬ j<0 := fun k=>hbad (.inl k)
   have g2:¬ v>IntKind.wrap .u64 j := by rw [wu64 (by omega) (by omega)]; omega
   simp only [decide_eq_false g,decide_eq_false g2,Qf,Q0e,hw2]
   by_cases g3:v>((a.length-c1:Nat):Int)
   ·rw [if_pos g3]
    refine ⟨by decide,c,?_⟩
    simp only [decide_eq_true g3,Qt]
    rw [Q2z (by decide)]
    rfl
   ·rw [if_neg g3]
    have hwv:IntKind.wrap .i64 v=v := wi64 (by omega) (by omega)
    refine ⟨h1,h2,?_⟩
    simp only [decide_eq_false g3,Qf,hwv]
 ·rw [hu] at hp
  obtain ⟨h1,c2,h3⟩ := hp
  have ge:(e != 0)=true := bne_iff_ne.2 h1
  rw [h3]
  simp only [Qb,ge,Qt,RR.bind]
  exact ⟨h1,c2,rfl⟩
theorem X0c {a:List Int} {c e q j:Int} (he:e ≠ 0):p35 fu ((a,c,e,q,()),j,())=some (((a,c,e,q,()),()),[]) := by
 have g:(e != 0)=true := bne_iff_ne.2 he
 unfold p35
 dsimp only
 rw [Q1q he]
 simp only [Qb,g,Qt]
theorem p35D {a:List Int} {c:Nat} {j:Int} (h:okA fu a) (hc:c≤a.length) (hj:isI j):DR a [] (bytS a j c) (isBs a) (p35 fu ((a,(c:Int),0,0,()),j,())) := by
 have hp := p33D (fu := fu) h hc hj
 have hl := h.hn
 unfold bytS p35
 dsimp only
 rcases hu:cntS a j c with ⟨c1,v⟩ | ⟨e,q⟩
 ·rw [hu] at hp
  obtain ⟨h1,h2,h3⟩ := hp
  obtain ⟨k,rfl⟩ := Int.eq_ofNat_of_zero_le h2
  have hck := (K6v hu).2.1
  rw [h3]
  have w1:IntKind.wrap .i64 ((c1:Int)+(k:Int))=((c1+k:Nat):Int) := by rw [wi64 (by omega) (by omega)]; omega
  have w2:IntKind.wrap .i64 (((c1+k:Nat):Int)-(k:Int))=(c1:Int) := by rw [wi64 (by omega) (by omega)]; omega
  have e2:decide ((0:Int)≤(c1:Int))=true := by simp
  have e3:decide ((0:Int)≤((c1+k:Nat):Int))=true := by simp; omega
  have e4:decide (c1≤c1+k∧c1+k≤a.length)=true := by simp; omega
  have es:slice' a c1 (some (c1+k))=(a.drop c1).take k := by rw [K6s,Nat.add_sub_cancel_left]
  have hl2:((a.drop c1).take k).length≤140737488355328 := by rw [List.length_take,List.length_drop]; omega
  have e5:(0+((a.drop c1).take k).length≤maxLen∧(0+((a.drop c1).take k).length) * 1≤140737488355328)=True := eq_true ⟨Nat.le_trans (by omega) (show 140737488355328≤maxLen by decide),by omega⟩
  simp only [Qb,Qf,RR.bind,bne_self_eq_false,w1,w2,e2,e3,Int.toNat_natCast,e4,es,e5,Qd,Qt,List.length_nil,List.nil_append]
  refine ⟨by omega,⟨by rw [List.length_take,List.length_drop]; omega,fun x hx=>h.hb x (List.mem_of_mem_drop (List.mem_of_mem_take hx))⟩,rfl⟩
 ·rw [hu] at hp
  obtain ⟨h1,c2,h3⟩ := hp
  have ge:(e != 0)=true := bne_iff_ne.2 h1
  rw [h3]
  simp only [Qb,ge,Qt,RR.bind]
  exact ⟨h1,c2,rfl⟩
theorem Q3a {a:List Int} {c e q:Int} (he:e ≠ 0):p36 fu ((a,c,e,q,()),())=some ((),e) := by
 have g:(e==0)=false := beq_eq_false_iff_ne.2 he
 unfold p36
 simp only [g,Qf,Q0e]
theorem K6w {a:List Int} {c q:Int}:p36 fu ((a,c,0,q,()),())=some ((),if c<(a.length:Int) then 15 else 0) := by
 unfold p36
 simp only [BEq.rfl,Qt]
 by_cases g:c<(a.length:Int)
 ·simp only [decide_eq_true g,Qt,if_pos g,inrO,Option.map_some,Q1y]
 ·simp only [decide_eq_false g,Qf,if_neg g,Q0e]
end Go.Proofs.YtdkdhcakoccpfaaGreatDoor.Dr
namespace Go.Proofs.YtdkdhcakoccpfaaGreatDoor.Dr
open Go.RowKit
variable {fu:Nat}
theorem Q1o {v:Int} (hv:isU v) (hfu:10<fu):p38 fu (v,())=some ((),uB v) := by
 unfold p38
 have h10 := Q0n hv
 refine Q1i (fun (s:(Int×List Int×Unit)×Unit)=>isU s.1.1∧s.1.2.1.length+(uB s.1.1).length≤10) (fun s=>(uB s.1.1).length) (fun s=>((),s.1.2.1 ++ uB s.1.1)) ?_ fu ((v,[],()),()) ⟨hv,by simpa using h10⟩ (Nat.lt_of_le_of_lt h10 hfu)
 rintro ⟨⟨f,h,⟨⟩⟩,⟨⟩⟩ ⟨⟨h0,h1⟩,h2⟩
 dsimp only at h0 h1 h2
 obtain ⟨n,rfl⟩ := Int.eq_ofNat_of_zero_le h0
 have e:uB ((n:Nat):Int)=ub n := rfl
 simp only [e] at h2 ⊢
 by_cases hn:n<128
 ·right
  rw [Q5k hn] at h2 ⊢
  simp only [List.length_singleton] at h2
  have hw:IntKind.wrap .u8 (n:Int)=(n:Int) := wu8 (by omega) (by omega)
  have hl:h.length+1≤maxLen∧(h.length+1) * 1≤140737488355328 := ⟨X5k (by omega),by omega⟩
  have hge:¬ ((n:Int)≥128) := by omega
  simp only [hge,hw,hl,List.length_singleton,decide_false,Qd,Qf,Qt,and_self,inrO,Option.map_some]
 ·left
  rw [Q7i hn] at h2 ⊢
  simp only [List.length_cons] at h2
  have hl:h.length+1≤maxLen∧(h.length+1) * 1≤140737488355328 := ⟨X5k (by omega),by omega⟩
  refine ⟨((((n / 128:Nat):Int),h ++ [((n % 128+128:Nat):Int)],()),()),?_,⟨⟨by dsimp only; omega,by dsimp only; omega⟩,?_⟩,?_,?_⟩
  ·have hge:(n:Int)≥128 := by omega
   simp only [lowR n (by omega),K6q,List.length_singleton,hl,hge,Qd,Qt,and_self]
  ·show (h ++ [((n % 128+128:Nat):Int)]).length+(ub (n / 128)).length≤_
   simp only [List.length_append,List.length_singleton]
   omega
  ·show (ub (n / 128)).length<_
   simp
  ·show ((),(h ++ [((n % 128+128:Nat):Int)]) ++ ub (n / 128))=_
   simp
def sB (s:ByteArray):List Int := tB (numsOf s)
def bB (b:Bool):List Int := [if b then 1 else 0]
def recB (x:Rd):List Int := uB x.1 ++ (sB x.2.1 ++ (tB x.2.2.1 ++ (uB x.2.2.2.1 ++ uB x.2.2.2.2)))
def prodB (x:Pr):List Int := uB x.1 ++ (uB x.2.1 ++ (bB x.2.2.1 ++ uB x.2.2.2))
def conB (x:Cn):List Int := sB x.1 ++ uB x.2
def lB {α:Type} (enc:α→List Int) (l:List α):List Int := uB (l.length:Int) ++ l.flatMap enc
def stB:St16→List Int
 | (lo,hi,e,z,l,ps,cs,_)=>sB lo ++ (sB hi ++ (uB e ++ (uB z ++ (lB recB l ++ (lB prodB ps ++ lB conB cs)))))
theorem gL {a b:List Int} (h:a.length+b.length≤100000000000000):decide (List.length a+List.length b≤maxLen∧(List.length a+List.length b) * 1≤140737488355328)=true :=
 decide_eq_true ⟨by unfold maxLen; omega,by omega⟩
theorem X0d {a:List Int} (h:a.length≤1048576):(tB a).length≤1048586 := by
 unfold tB
 have := Q0n (v := (a.length:Int)) ⟨by omega,by omega⟩
 rw [List.length_append]
 omega
theorem Q2a {a:ByteArray} (h:a.size≤1048576):(sB a).length≤1048586 := X0d (by rw [Q1t]; exact h)
theorem Q4c {X:Type} {enc:X→List Int} {K:Nat}:∀ {l:List X},(∀ x ∈ l,(enc x).length≤K)→(l.flatMap enc).length≤l.length * K
 | [],_=>by simp
 | x :: l,h=>by
  have h1 := h x (List.mem_cons_self ..)
  have h2 := Q4c (l := l) fun y hy=>h y (List.mem_cons_of_mem _ hy)
  rw [List.flatMap_cons,List.length_append,List.length_cons,Nat.succ_mul]
  omega
theorem K6x {X:Type} {enc:X→List Int} {l:List X} {i:Nat} (hi:i<l.length):(l.take i).flatMap enc ++ enc l[i]=(l.take (i+1)).flatMap enc := by
 rw [List.take_succ_eq_append_getElem hi,List.flatMap_append,List.flatMap_singleton]
theorem X0e {X:Type} {enc:X→List Int} {K:Nat} {l:List X} (h:∀ x ∈ l,(enc x).length≤K) {i:Nat} (hi:i<l.length):((l.take i).flatMap enc).length≤l.length * K := by
 have := Q4c (l := l.take i) (enc := enc) (K := K) fun x hx=>h x (List.mem_of_mem_take hx)
 rw [List.length_take,Nat.min_eq_left (by omega)] at this
 exact Nat.le_trans this (Nat.mul_le_mul_right _ (by omega))
theorem X0f {X R:Type} {f:((List Int×(Int×Unit))×Unit)→Option (((List Int×(Int×Unit))×Unit) ⊕ R)} (l:List X) (enc:X→List Int) (b:List Int) (r:R) (hf:l.length<fu)
  (hs:∀ i (hi:i<l.length),f ((b ++ (l.take i).flatMap enc,(i:Int),()),())=some (.inl ((b ++ (l.take i).flatMap enc ++ enc l[i],((i+1:Nat):Int),()),())))
  (he:f ((b ++ l.flatMap enc,(l.length:Int),()),())=some (.inr r)):loopO fu f ((b,(0:Int),()),())=some r := by
 obtain ⟨r',h1,h2⟩ := Q5c (I := fun s => ∃ i:Nat,s=((b ++ (l.take i).flatMap enc,(i:Int),()),())∧i≤l.length) (m := fun s=>l.length-s.1.2.1.toNat) (Q := fun r' => r' = r) (f := f) (by
  rintro s ⟨i,rfl,hi⟩
  rcases Nat.lt_or_ge i l.length with g | g
  ·refine ⟨_,hs i g,⟨i+1,?_,g⟩,?_⟩
   ·rw [List.append_assoc,K6x g]
   ·show l.length-((i+1:Nat):Int).toNat<l.length-(i:Int).toNat
    rw [Int.toNat_natCast,Int.toNat_natCast]; omega
  ·obtain rfl:i=l.length := by omega
   rw [List.take_length]
   exact ⟨_,he,rfl⟩) fu ((b,(0:Int),()),()) ⟨0,by simp,Nat.zero_le _⟩ (by show l.length-0<fu; omega)
 rw [h1,h2]
theorem Q7j {n:Nat} (h:n≤1000000000):IntKind.wrap .u64 (n:Int)=(n:Int) := wu64 (by omega) (by omega)
theorem Q1w {n:Nat} (h:n≤1000000000):isU (n:Int) := ⟨by omega,by omega⟩
theorem Q5l {a:List Int} (h:a.length≤1048576) (hf:100<fu):p41 fu (a,())=some ((),tB a) := by
 unfold p41
 have hl := Q0n (Q1w (n := a.length) (by omega))
 simp only [Q7j (n := a.length) (by omega),Q1o (Q1w (n := a.length) (by omega)) (show 10<fu by omega),Q0a,Qd,Qt,gL (a := uB (a.length:Int)) (b := a) (by omega)]
 rfl
theorem K6y {a c:ByteArray} (ha:a.size≤1048576) (hc:c.size≤1048576) (hf:100<fu):p37 fu ((a,c,()),())=some ((),sB a ++ sB c) := by
 unfold p37
 have l1 := Q2a ha
 have l2 := Q2a hc
 have e1 := Q5l (fu := fu) (a := numsOf a) (by rw [Q1t]; exact ha) hf
 have e2 := Q5l (fu := fu) (a := numsOf c) (by rw [Q1t]; exact hc) hf
 change _=some ((),sB a) at e1
 change _=some ((),sB c) at e2
 simp only [e1,e2,Q0a,Qd,Qt,gL (a := sB a) (b := sB c) (by omega)]
def fitR (x:Rd):Prop := isU x.1∧x.2.1.size≤1048576∧(x.2.2.1.length≤1048576∧byt x.2.2.1)∧isU x.2.2.2.1∧isU x.2.2.2.2
theorem X0g {x:Rd} (h:fitR x):(recB x).length≤2097202 := by
 obtain ⟨h1,h2,h3,h4,h5⟩ := h
 have a1 := Q0n h1
 have a2 := Q2a h2
 have a3 := X0d h3.1
 have a4 := Q0n h4
 have a5 := Q0n h5
 simp only [recB,List.length_append]
 omega
theorem K6z {x:Rd} (h:fitR x) (hf:100<fu):p69 fu ((x.1,x.2.1,x.2.2.1,x.2.2.2.1,x.2.2.2.2,()),())=some ((),recB x) := by
 obtain ⟨a,c,f,g,i⟩ := x
 obtain ⟨h1,h2,h3,h4,h5⟩ := h
 dsimp only at h1 h2 h3 h4 h5
 have l1 := Q0n h1
 have l2 := Q2a h2
 have l3 := X0d h3.1
 have l4 := Q0n h4
 have l5 := Q0n h5
 have e2 := Q5l (fu := fu) (a := numsOf c) (by rw [Q1t]; exact h2) hf
 change _=some ((),sB c) at e2
 unfold p69 recB
 dsimp only
 simp only [Q1o h1 (show 10<fu by omega),e2,Q5l h3.1 hf,Q1o h4 (show 10<fu by omega),Q1o h5 (show 10<fu by omega),Q0a,Qd,Qt]
 rw [gL (a := uB a) (b := sB c) (by omega)]
 simp only [Qt]
 rw [gL (a := uB a ++ sB c) (b := tB f) (by simp only [List.length_append]; omega)]
 simp only [Qt]
 rw [gL (a := uB a ++ sB c ++ tB f) (b := uB g) (by simp only [List.length_append]; omega)]
 simp only [Qt]
 rw [gL (a := uB a ++ sB c ++ tB f ++ uB g) (b := uB i) (by simp only [List.length_append]; omega)]
 simp only [Qt,List.append_assoc]
theorem K7a {l:List Rd} (hl:l.length≤1048576) (h:∀ x ∈ l,fitR x) (hf:4194304<fu):p39 fu (l,())=some ((),lB recB l) := by
 unfold p39
 have l0 := Q0n (Q1w (n := l.length) (by omega))
 simp only [Q7j (n := l.length) (by omega),Q1o (Q1w (n := l.length) (by omega)) (show 10<fu by omega),Q0a,Qd,Qt]
 refine X0f l recB (uB (l.length:Int)) _ (by omega) (fun i hi => ?_) ?_
 ·have hg:∀ d,l.getD i d=l[i] := fun d=>Q0k hi
  have hx := h _ (List.getElem_mem hi)
  have h1 := X0g hx
  have h2 := X0e (l := l) (enc := recB) (K := 2097202) (fun x hx=>X0g (h x hx)) hi
  have h3:l.length * 2097202≤1048576 * 2097202 := Nat.mul_le_mul_right _ (by omega)
  simp only [Int.ofNat_lt,Int.natCast_nonneg,hi,Qd,Qt,and_self,Int.toNat_natCast,hg,K6z hx (show 100<fu by omega),Q0a,Q0i hi (by omega),gL (a := uB (l.length:Int) ++ (l.take i).flatMap recB) (b := recB l[i]) (by simp only [List.length_append]; omega)]
 ·simp only [Int.lt_irrefl,decide_false,Qf,Q0f]
  rfl
theorem K7b (b:Bool):p40 fu (b,())=some ((),bB b) := by
 unfold p40
 cases b <;> rfl
def fitP (y:Pr):Prop := isU y.1∧isU y.2.1∧isU y.2.2.2
def fitC (y:Cn):Prop := y.1.size≤1048576∧isU y.2
def fitS:St16→Prop
 | (lo,hi,e,z,l,ps,cs,_)=>lo.size≤1048576∧hi.size≤1048576∧isU e∧isU z∧(l.length≤1048576 ∧ ∀ x ∈ l,fitR x)∧(ps.length≤1048576 ∧ ∀ y ∈ ps,fitP y)∧(cs.length≤1048576 ∧ ∀ y ∈ cs,fitC y)
theorem X0h {y:Pr} (h:fitP y):(prodB y).length≤31 := by
 obtain ⟨h1,h2,h3⟩ := h
 have a1 := Q0n h1
 have a2 := Q0n h2
 have a3 := Q0n h3
 simp only [prodB,bB,List.length_append,List.length_singleton]
 omega
theorem X5s {y:Cn} (h:fitC y):(conB y).length≤1048596 := by
 obtain ⟨h1,h2⟩ := h
 have a1 := Q2a h1
 have a2 := Q0n h2
 simp only [conB,List.length_append]
 omega
theorem X5t {l:List Rd} (hl:l.length≤1048576) (h:∀ x ∈ l,fitR x):(lB recB l).length≤2199100000000 := by
 have h2 := Q4c (l := l) (enc := recB) (K := 2097202) (fun x hx=>X0g (h x hx))
 have h3:l.length * 2097202≤1048576 * 2097202 := Nat.mul_le_mul_right _ (by omega)
 have l0 := Q0n (Q1w (n := l.length) (by omega))
 simp only [lB,List.length_append]
 omega
theorem len1 (x:Int):[x].length=1 := rfl
set_option maxRecDepth 4000 in
theorem K7c {p:St16} (h:fitS p) (hf:4194304<fu):p8 fu (p,())=some ((),stB p) := by
 obtain ⟨lo,hi,e,z,l,ps,cs,⟨⟩⟩ := p
 obtain ⟨b1,b2,b3,b4,⟨b5,b6⟩,⟨b7,b8⟩,b9,b10⟩ := h
 have l1 := Q2a b1
 have l2 := Q2a b2
 have l3 := Q0n b3
 have l4 := Q0n b4
 have l5 := X5t b5 b6
 have l6 := Q0n (Q1w (n := ps.length) (by omega))
 have l7 := Q0n (Q1w (n := cs.length) (by omega))
 unfold p8
 simp only [K6y b1 b2 (show 100<fu by omega),Q1o b3 (show 10<fu by omega),Q1o b4 (show 10<fu by omega),K7a b5 b6 hf,Q7j (n := ps.length) (by omega),Q7j (n := cs.length) (by omega),Q1o (Q1w (n := ps.length) (by omega)) (show 10<fu by omega),Q1o (Q1w (n := cs.length) (by omega)) (show 10<fu by omega),Q0a,Qd,Qt]
 rw [gL (a := sB lo ++ sB hi) (b := uB e) (by simp only [List.length_append]; omega)]
 simp only [Qt]
 rw [gL (a := sB lo ++ sB hi ++ uB e) (b := uB z) (by simp only [List.length_append]; omega)]
 simp only [Qt]
 rw [gL (a := sB lo ++ sB hi ++ uB e ++ uB z) (b := lB recB l) (by simp only [List.length_append]; omega)]
 simp only [Qt]
 rw [gL (a := sB lo ++ sB hi ++ uB e ++ uB z ++ lB recB l) (b := uB (ps.length:Int)) (by simp only [List.length_append]; omega)]
 simp only [Qt]
 have hB:(sB lo ++ sB hi ++ uB e ++ uB z ++ lB recB l ++ uB (ps.length:Int)).length≤2199200000000 := by simp only [List.length_append]; omega
 have hE:stB (lo,hi,e,z,l,ps,cs,())=(sB lo ++ sB hi ++ uB e ++ uB z ++ lB recB l ++ uB (ps.length:Int)) ++ ps.flatMap prodB ++ uB (cs.length:Int) ++ cs.flatMap conB := by
  simp only [stB,lB,List.append_assoc]
 rw [hE]
 generalize sB lo ++ sB hi ++ uB e ++ uB z ++ lB recB l ++ uB (ps.length:Int)=B at hB ⊢
 have k1 := Q4c (l := ps) (enc := prodB) (K := 31) (fun x hx=>X0h (b8 x hx))
 refine X0f ps prodB B _ (by omega) (fun i hi => ?_) ?_
 ·have hg:∀ d,ps.getD i d=ps[i] := fun d=>Q0k hi
  obtain ⟨q1,q2,q3⟩ := b8 _ (List.getElem_mem hi)
  have m1 := Q0n q1
  have m2 := Q0n q2
  have m3 := Q0n q3
  have h2 := X0e (l := ps) (enc := prodB) (K := 31) (fun x hx=>X0h (b8 x hx)) hi
  generalize (ps.take i).flatMap prodB=F at h2 ⊢
  simp only [Int.ofNat_lt,Int.natCast_nonneg,hi,Qd,Qt,and_self,Int.toNat_natCast,hg,Q1o q1 (show 10<fu by omega),Q1o q2 (show 10<fu by omega),Q1o q3 (show 10<fu by omega),K7b,Q0a,Q0i hi (by omega)]
  rw [gL (a := B ++ F) (b := uB ps[i].1) (by simp only [List.length_append]; omega)]
  simp only [Qt]
  rw [gL (a := B ++ F ++ uB ps[i].1) (b := uB ps[i].2.1) (by simp only [List.length_append]; omega)]
  simp only [Qt]
  rw [gL (a := B ++ F ++ uB ps[i].1 ++ uB ps[i].2.1) (b := bB ps[i].2.2.1) (by simp only [List.length_append,bB,len1]; omega)]
  simp only [Qt]
  rw [gL (a := B ++ F ++ uB ps[i].1 ++ uB ps[i].2.1 ++ bB ps[i].2.2.1) (b := uB ps[i].2.2.2) (by simp only [List.length_append,bB,len1]; omega)]
  simp only [Qt,prodB,List.append_assoc]
 ·simp only [Int.lt_irrefl,decide_false,Qf]
  rw [gL (a := B ++ ps.flatMap prodB) (b := uB (cs.length:Int)) (by simp only [List.length_append]; omega)]
  have hC:(B ++ ps.flatMap prodB ++ uB (cs.length:Int)).length≤2199300000000 := by simp only [List.length_append]; omega
  generalize B ++ ps.flatMap prodB ++ uB (cs.length:Int)=C at hC ⊢
  simp only [Qt]
  refine congrArg inrO ?_ |>.trans (Q0f)
  refine X0f cs conB C _ (by omega) (fun i hi => ?_) ?_
  ·have hg:∀ d,cs.getD i d=cs[i] := fun d=>Q0k hi
   obtain ⟨q1,q2⟩ := b10 _ (List.getElem_mem hi)
   have m1 := Q2a q1
   have m2 := Q0n q2
   have e2 := Q5l (fu := fu) (a := numsOf cs[i].1) (by rw [Q1t]; exact q1) (by omega)
   change _=some ((),sB cs[i].1) at e2
   have h2 := X0e (l := cs) (enc := conB) (K := 1048596) (fun x hx=>X5s (b10 x hx)) hi
   have h3:cs.length * 1048596≤1048576 * 1048596 := Nat.mul_le_mul_right _ (by omega)
   generalize (cs.take i).flatMap conB=F at h2 ⊢
   simp only [Int.ofNat_lt,Int.natCast_nonneg,hi,Qd,Qt,and_self,Int.toNat_natCast,hg,e2,Q1o q2 (show 10<fu by omega),Q0a,Q0i hi (by omega)]
   rw [gL (a := C ++ F) (b := sB cs[i].1) (by simp only [List.length_append]; omega)]
   simp only [Qt]
   rw [gL (a := C ++ F ++ sB cs[i].1) (b := uB cs[i].2) (by simp only [List.length_append]; omega)]
   simp only [Qt,conB,List.append_assoc]
  ·simp only [Int.lt_irrefl,decide_false,Qf,Q0f]
end Go.Proofs.YtdkdhcakoccpfaaGreatDoor.Dr
namespace Go.Proofs.YtdkdhcakoccpfaaGreatDoor.Dr
open Go.RowKit
variable {fu:Nat}
theorem Q0s {a w t:List Int} {c:Nat} (h:a.drop c=w ++ t):a.drop (c+w.length)=t := by rw [← List.drop_drop,h,List.drop_left]
theorem K7d {a w t:List Int} {c:Nat} (h:a.drop c=w ++ t):t.length=a.length-(c+w.length) := by
 rw [← Q0s h,List.length_drop]
def RO {α:Type} (r:RR α) (c:Nat) (v:α):Prop := r = .ok c v ∨ ∃ e q,r = .er e q
def RP {α:Type} (a:List Int) (c:Nat) (v:α) (o:Option ((DT×Unit)×α)):Prop :=
 (c≤a.length∧o=some (((a,(c:Int),0,0,()),()),v)) ∨ ∃ k e q d,e ≠ 0∧o=some (((a,k,e,q,()),()),d)
theorem Q7k {α:Type} {a:List Int} {d v:α} {r:RR α} {P:α→Prop} {o:Option ((DT×Unit)×α)} {c:Nat} (h:DR a d r P o) (hr:RO r c v):RP a c v o := by
 rcases hr with rfl | ⟨e,q,rfl⟩
 ·exact .inl ⟨h.1,h.2.2⟩
 ·obtain ⟨he,k,hk⟩ := h
  exact .inr ⟨k,e,q,d,he,hk⟩
theorem X5u {a t:List Int} {c:Nat} {v:Int} (hv:isU v) (h:a.drop c=uB v ++ t):uS a c = .ok (c+(uB v).length) v := by
 obtain ⟨n,rfl⟩ := Int.eq_ofNat_of_zero_le hv.1
 have hn := hv.2
 have e := X5q (n+1) n 0 0 t (Nat.lt_succ_self n) (fun h=>absurd h (Nat.lt_irrefl 0)) (by omega) (by decide) (by simp only [Nat.pow_zero,Nat.mul_one,Nat.zero_add]; omega)
 simp only [Nat.pow_zero,Nat.mul_one,Nat.zero_add] at e
 unfold uS
 rw [h,show uB ((n:Nat):Int)=ub n from rfl,e,if_pos rfl]
 rfl
theorem X0i {a t:List Int} {c n:Nat} {m:Int} (h:a.drop c=uB (n:Int) ++ t) (hn:n≤140737488355328):RO (cntS a m c) (c+(uB (n:Int)).length) (n:Int) := by
 unfold cntS
 rw [X5u (X5l hn) h]
 dsimp only [RR.bind]
 by_cases h1:m<0 ∨ (n:Int)>m
 ·rw [if_pos h1]; exact .inr ⟨_,_,rfl⟩
 ·rw [if_neg h1]
  by_cases h2:(n:Int)>((a.length-(c+(uB (n:Int)).length):Nat):Int)
  ·rw [if_pos h2]; exact .inr ⟨_,_,rfl⟩
  ·rw [if_neg h2]; exact .inl rfl
theorem K7e {a t d:List Int} {c:Nat} {m:Int} (h:a.drop c=tB d ++ t) (hd:d.length≤140737488355328):RO (bytS a m c) (c+(tB d).length) d := by
 unfold tB at h ⊢
 rw [List.append_assoc] at h
 unfold bytS
 rcases X0i (m := m) h hd with hr | ⟨e,q,hr⟩
 ·rw [hr]
  dsimp only [RR.bind]
  rw [Q0s h,Int.toNat_natCast,List.take_left,List.length_append,Nat.add_assoc]
  exact .inl rfl
 ·rw [hr]; exact .inr ⟨e,q,rfl⟩
theorem K7f {a t:List Int} {b:Bool} {c:Nat} (h:a.drop c=bB b ++ t):RO (boolS a c) (c+1) b := by
 have hl := congrArg List.length h
 simp only [bB,List.length_drop,List.length_append,List.length_singleton] at hl
 have hg:a.getD c 0=if b then 1 else 0 := by
  rw [List.getD_eq_getElem?_getD]
  have := congrArg (fun l=>l[0]?) h
  simp only [List.getElem?_drop,bB,List.singleton_append,List.getElem?_cons_zero,Nat.add_zero] at this
  rw [this]
  rfl
 unfold boolS
 rw [hg,if_neg (by omega),if_neg (by cases b <;> decide)]
 cases b <;> exact .inl rfl
theorem Q7l (s:ByteArray):strOfNums (numsOf s)=s := by
 obtain ⟨⟨l⟩⟩ := s
 show (⟨((l.map fun b=>((b.toNat:Nat):Int)).map fun n=>UInt8.ofNat n.toNat).toArray⟩:ByteArray)=⟨⟨l⟩⟩
 rw [List.map_map]
 have:l.map ((fun n:Int=>UInt8.ofNat n.toNat) ∘ fun b:UInt8=>((b.toNat:Nat):Int))=l := by
  rw [List.map_congr_left (g := id) (fun b _=>by simp),List.map_id]
 rw [this]
theorem rU {a t:List Int} {c:Nat} {v:Int} (hA:okA fu a) (hc:c≤a.length) (hv:isU v) (h:a.drop c=uB v ++ t):RP a (c+(uB v).length) v (p31 fu ((a,(c:Int),0,0,()),())) :=
 Q7k (p31D hA hc) (.inl (X5u hv h))
theorem rB {a t:List Int} {c:Nat} {b:Bool} (hA:okA fu a) (hc:c≤a.length) (h:a.drop c=bB b ++ t):RP a (c+1) b (p34 fu ((a,(c:Int),0,0,()),())) :=
 Q7k (p34D hA hc) (K7f h)
theorem rC {a t:List Int} {c n:Nat} {m:Int} (hA:okA fu a) (hc:c≤a.length) (hm:isI m) (h:a.drop c=uB (n:Int) ++ t) (hn:n≤140737488355328):RP a (c+(uB (n:Int)).length) (n:Int) (p33 fu ((a,(c:Int),0,0,()),m,())) :=
 Q7k (p33D hA hc hm) (X0i h hn)
theorem rT {a t d:List Int} {c:Nat} {m:Int} (hA:okA fu a) (hc:c≤a.length) (hm:isI m) (h:a.drop c=tB d ++ t) (hd:d.length≤140737488355328):RP a (c+(tB d).length) d (p35 fu ((a,(c:Int),0,0,()),m,())) :=
 Q7k (p35D hA hc hm) (K7e h hd)
theorem i32:isI 32 := by unfold isI; omega
theorem i256:isI 256 := by unfold isI; omega
theorem K7g:isI 4096 := by unfold isI; omega
theorem i64':isI 64 := by unfold isI; omega
theorem ne_b {e:Int} (h:e ≠ 0):(e != 0)=true := by simpa using h
theorem eq_b {e:Int} (h:e ≠ 0):(e==0)=false := by simpa using h
theorem z_ne:((0:Int) != 0)=false := rfl
theorem z_eq:((0:Int)==0)=true := rfl
theorem rRg {a t:List Int} {lo hi:ByteArray} {c:Nat} (hA:okA fu a) (hc:c≤a.length) (h:a.drop c=sB lo ++ (sB hi ++ t)) (h1:lo.size≤1048576) (h2:hi.size≤1048576) :
  RP a (c+(sB lo).length+(sB hi).length) (lo,hi,()) (p30 fu ((a,(c:Int),0,0,()),())) := by
 have f2 := Q0s h
 unfold sB at h f2 ⊢
 unfold p30
 rcases rT hA hc i32 h (by rw [Q1t]; omega) with ⟨g1,e1⟩ | ⟨k,e,q,d,he,e1⟩
 ·simp only [e1,Q0a,Qd,Qt]
  rcases rT hA g1 i32 f2 (by rw [Q1t]; omega) with ⟨g2,e2⟩ | ⟨k,e,q,d,he,e2⟩
  ·simp only [e2,Q0a,z_ne,Qf,Q7l]
   exact .inl ⟨g2,rfl⟩
  ·simp only [e2,Q0a,Qt,ne_b he]
   exact .inr ⟨k,e,q,_,he,rfl⟩
 ·simp only [e1,Q0a,Qd,Qt,X0c he,ne_b he]
  exact .inr ⟨k,e,q,_,he,rfl⟩
theorem rRc {a t:List Int} {x:Rd} {c:Nat} (hA:okA fu a) (hc:c≤a.length) (h:a.drop c=recB x ++ t) (hx:fitR x) :
  RP a (c+(recB x).length) (x.1,x.2.1,x.2.2.1,x.2.2.2.1,x.2.2.2.2,()) (p68 fu ((a,(c:Int),0,0,()),())) := by
 obtain ⟨o,k,v,p,s⟩ := x
 obtain ⟨h1,h2,h3,h4,h5⟩ := hx
 dsimp only at h1 h2 h3 h4 h5
 have hl:c+(recB (o,k,v,p,s)).length=c+(uB o).length+(sB k).length+(tB v).length+(uB p).length+(uB s).length := by
  simp only [recB,List.length_append]; omega
 rw [hl]
 simp only [recB,List.append_assoc] at h
 have f1 := Q0s h
 have f2 := Q0s f1
 have f3 := Q0s f2
 have f4 := Q0s f3
 unfold sB at f1 f2 f3 f4 ⊢
 unfold p68
 rcases rU hA hc h1 h with ⟨g1,e1⟩ | ⟨k',e,q,d,he,e1⟩
 ·simp only [e1,Q0a]
  rcases rT hA g1 i32 f1 (by rw [Q1t]; omega) with ⟨g2,e2⟩ | ⟨k',e,q,d,he,e2⟩
  ·simp only [e2,Q0a,Qd,Qt]
   rcases rT hA g2 i256 f2 (by omega) with ⟨g3,e3⟩ | ⟨k',e,q,d,he,e3⟩
   ·simp only [e3,Q0a]
    rcases rU hA g3 h4 f3 with ⟨g4,e4⟩ | ⟨k',e,q,d,he,e4⟩
    ·simp only [e4,Q0a]
     rcases rU hA g4 h5 f4 with ⟨g5,e5⟩ | ⟨k',e,q,d,he,e5⟩
     ·simp only [e5,Q0a,z_ne,Qf,Q7l]
      exact .inl ⟨g5,rfl⟩
     ·simp only [e5,Q0a,ne_b he,Qt]
      exact .inr ⟨k',e,q,_,he,rfl⟩
    ·simp only [e4,Q0a,Q1v he,ne_b he,Qt]
     exact .inr ⟨k',e,q,_,he,rfl⟩
   ·simp only [e3,Q0a,Q1v he,ne_b he,Qt]
    exact .inr ⟨k',e,q,_,he,rfl⟩
  ·simp only [e2,Q0a,Q1v he,X0c he,ne_b he,Qd,Qt]
   exact .inr ⟨k',e,q,_,he,rfl⟩
 ·simp only [e1,Q0a,Q1v he,X0c he,ne_b he,Qd,Qt]
  exact .inr ⟨k',e,q,_,he,rfl⟩
theorem X5v {X S R:Type} {f:S→Option (S ⊕ R)} (a:List Int) (enc:X→List Int) (l:List X) (mk:Nat→List X→DT→S) (ix:S→Int) (hix:∀ k o d,ix (mk k o d)=(k:Int)) (fin:List X→DT→R) (c:Nat) (t:List Int) (hc:c≤a.length)
  (hd:a.drop c=l.flatMap enc ++ t) (hf:l.length+1<fu)
  (hg:∀ k (hk:k<l.length) c' t',c' ≤ a.length→a.drop c' = enc l[k] ++ t' → (c' + (enc l[k]).length≤a.length∧f (mk k (l.take k) (a,(c':Int),0,0,()))=some (.inl (mk (k+1) (l.take (k+1)) (a,((c' + (enc l[k]).length:Nat):Int),0,0,())))) ∨ ∃ o k2 e q,e ≠ 0∧f (mk k (l.take k) (a,(c':Int),0,0,()))=some (.inl (mk (k+1) o (a,k2,e,q,()))))
  (hb:∀ k o k2 e q,e ≠ 0→f (mk k o (a,k2,e,q,()))=some (.inr (fin o (a,k2,e,q,()))))
  (he:∀ c':Nat,f (mk l.length l (a,(c':Int),0,0,()))=some (.inr (fin l (a,(c':Int),0,0,())))) :
  (c+(l.flatMap enc).length≤a.length∧loopO fu f (mk 0 [] (a,(c:Int),0,0,()))=some (fin l (a,((c+(l.flatMap enc).length:Nat):Int),0,0,()))) ∨ ∃ o k e q,e ≠ 0∧loopO fu f (mk 0 [] (a,(c:Int),0,0,()))=some (fin o (a,k,e,q,())) := by
 have hlen := K7d hd
 have hle:c+(l.flatMap enc).length≤a.length := by
  have := congrArg List.length hd
  simp only [List.length_drop,List.length_append] at this
  omega
 obtain ⟨r,h1,h2⟩ := Q5c (f := f)
  (I := fun s=>(∃ (k c':Nat),s=mk k (l.take k) (a,(c':Int),0,0,())∧k≤l.length∧c' ≤ a.length∧a.drop c' = (l.drop k).flatMap enc ++ t∧c' + ((l.drop k).flatMap enc).length=c+(l.flatMap enc).length) ∨ ∃ (k:Nat) (o:List X) (k2 e q:Int),e ≠ 0∧s=mk k o (a,k2,e,q,())∧k≤l.length)
  (m := fun s=>l.length-(ix s).toNat)
  (Q := fun r=>r=fin l (a,((c+(l.flatMap enc).length:Nat):Int),0,0,()) ∨ ∃ (o:List X) (k e q:Int),e ≠ 0∧r=fin o (a,k,e,q,()))
  (by
   rintro s (⟨k,c',rfl,q1,q2,q3,q4⟩ | ⟨k,o,k2,e,q,q1,rfl,q2⟩)
   ·rcases Nat.lt_or_ge k l.length with g | g
    ·have hdk:l.drop k=l[k] :: l.drop (k+1) := List.drop_eq_getElem_cons g
     have q3':a.drop c' = enc l[k] ++ ((l.drop (k+1)).flatMap enc ++ t) := by
      rw [q3,hdk,List.flatMap_cons,List.append_assoc]
     have q4':c' + (enc l[k]).length+((l.drop (k+1)).flatMap enc).length=c+(l.flatMap enc).length := by
      rw [← q4,hdk,List.flatMap_cons,List.length_append]; omega
     rcases hg k g c' _ q2 q3' with ⟨w1,w2⟩ | ⟨o,k2,e,q,w1,w2⟩
     ·refine ⟨_,w2,.inl ⟨k+1,_,rfl,g,w1,Q0s q3',q4'⟩,?_⟩
      dsimp only
      rw [hix,hix]; omega
     ·refine ⟨_,w2,.inr ⟨k+1,o,k2,e,q,w1,rfl,g⟩,?_⟩
      dsimp only
      rw [hix,hix]; omega
    ·obtain rfl:k=l.length := by omega
     rw [List.take_length]
     refine ⟨_,he c',.inl ?_⟩
     rw [List.drop_length] at q4
     simp only [List.flatMap_nil,List.length_nil,Nat.add_zero] at q4
     rw [q4]
   ·exact ⟨_,hb k o k2 e q q1,.inr ⟨o,k2,e,q,q1,rfl⟩⟩) fu (mk 0 [] (a,(c:Int),0,0,())) (.inl ⟨0,c,rfl,Nat.zero_le _,hc,hd,rfl⟩) (by show l.length-(ix (mk 0 [] (a,(c:Int),0,0,()))).toNat<fu; rw [hix]; omega)
 rcases h2 with rfl | ⟨o,k,e,q,g1,rfl⟩
 ·exact .inl ⟨hle,h1⟩
 ·exact .inr ⟨o,k,e,q,g1,h1⟩
theorem K7h {X S R:Type} {f:S→Option (S ⊕ R)} (G:Option R→Prop) (a:List Int) (enc:X→List Int) (l:List X) (mk:Nat→List X→DT→S) (ix:S→Int) (hix:∀ k o d,ix (mk k o d)=(k:Int)) (fin:List X→DT→R) (c:Nat) (t:List Int) (hc:c≤a.length)
  (hd:a.drop c=l.flatMap enc ++ t) (hf:l.length+1<fu) (s0:S) (hs0:mk 0 [] (a,(c:Int),0,0,())=s0)
  (hg:∀ k (hk:k<l.length) c' t',c' ≤ a.length→a.drop c' = enc l[k] ++ t' → (c' + (enc l[k]).length≤a.length∧f (mk k (l.take k) (a,(c':Int),0,0,()))=some (.inl (mk (k+1) (l.take (k+1)) (a,((c' + (enc l[k]).length:Nat):Int),0,0,())))) ∨ ∃ o k2 e q,e ≠ 0∧f (mk k (l.take k) (a,(c':Int),0,0,()))=some (.inl (mk (k+1) o (a,k2,e,q,()))))
  (hb:∀ k o k2 e q,e ≠ 0→f (mk k o (a,k2,e,q,()))=some (.inr (fin o (a,k2,e,q,()))))
  (he:∀ c':Nat,f (mk l.length l (a,(c':Int),0,0,()))=some (.inr (fin l (a,(c':Int),0,0,()))))
  (h1:c+(l.flatMap enc).length≤a.length→G (some (fin l (a,((c+(l.flatMap enc).length:Nat):Int),0,0,()))))
  (h2:∀ o k e q,e ≠ 0→G (some (fin o (a,k,e,q,())))):G (loopO fu f s0) := by
 subst hs0
 rcases X5v (fu := fu) a enc l mk ix hix fin c t hc hd hf hg hb he with ⟨g1,g2⟩ | ⟨o,k,e,q,g1,g2⟩
 ·rw [g2]; exact h1 g1
 ·rw [g2]; exact h2 o k e q g1
theorem X0j {S R:Type} {f:S→Option (S ⊕ R)} {s:S} {r:R} (hf:0<fu) (h:f s=some (.inr r)):loopO fu f s=some r := by
 obtain ⟨n,rfl⟩:∃ n,fu=n+1 := ⟨fu-1,by omega⟩
 simp only [loopO,h]
theorem X0k {a:List Int} {c e q m:Int} (he:e ≠ 0) (hf:4194304<fu):p32 fu ((a,c,e,q,()),m,())=some (((a,c,e,q,()),()),[]) := by
 unfold p32
 simp only [Q1q he,Q0a]
 exact X0j (by omega) (by simp only [Int.lt_irrefl,decide_false,Qf,Qd,Qt,Q0f])
theorem g64 {X:Type} {l:List X} {x:X} (h:l.length≤2097152) (n:Nat) (hn:n≤64):decide (List.length l+List.length [x]≤maxLen∧(List.length l+List.length [x]) * n≤140737488355328)=true := by
 have:(l.length+1) * n≤2097153 * 64 := Nat.mul_le_mul (by omega) hn
 exact decide_eq_true ⟨by unfold maxLen; simp only [List.length_singleton]; omega,by simp only [List.length_singleton]; omega⟩
theorem X0l {X:Type} {l:List X} {k:Nat} (h:k<l.length):l.take k ++ [l[k]]=l.take (k+1) := (List.take_succ_eq_append_getElem h).symm
theorem rL {a t:List Int} {l:List Rd} {c:Nat} {m:Int} (hA:okA fu a) (hc:c≤a.length) (hm:isI m) (h:a.drop c=lB recB l ++ t) (hl:l.length≤1048576) (hx:∀ x ∈ l,fitR x) (hf:4194304<fu) :
  RP a (c+(lB recB l).length) l (p32 fu ((a,(c:Int),0,0,()),m,())) := by
 unfold lB at h ⊢
 rw [List.append_assoc] at h
 have f1 := Q0s h
 unfold p32
 rcases rC hA hc hm h (by omega) with ⟨g1,e1⟩ | ⟨k',e,q,d,he,e1⟩
 ·simp only [e1,Q0a]
  refine K7h (RP a _ l) a recB l (fun k o d=>((o,(k:Int),()),(d,()))) (fun s=>s.1.2.1) (fun k o d=>rfl) (fun o d=>((d,()),o)) (c+(uB (l.length:Int)).length) t g1 f1 (by omega) _ rfl (fun k hk c' t' hc' hd' => ?_) (fun k o k2 e q he => ?_) (fun c' => ?_) (fun g2 => ?_) (fun o k e q he => .inr ⟨k,e,q,o,he,rfl⟩)
  ·have hkl:(l.take k).length≤2097152 := by rw [List.length_take]; omega
   simp only [Int.ofNat_lt,hk,Qd,Qt,z_eq]
   rcases rRc hA hc' hd' (hx _ (List.getElem_mem hk)) with ⟨g2,e2⟩ | ⟨k2,e,q,⟨d1,d2,d3,d4,d5,⟨⟩⟩,he,e2⟩
   ·refine .inl ⟨g2,?_⟩
    simp only [e2,Q0a,Qt,g64 hkl 64 (Nat.le_refl _),Q0i hk (show l.length≤9223372036854775807 by omega)]
    rw [← X0l hk]
   ·refine .inr ⟨(l.take k ++ [(d1,d2,d3,d4,d5)]),k2,e,q,he,?_⟩
    simp only [e2,Q0a,Qt,g64 hkl 64 (Nat.le_refl _),Q0i hk (show l.length≤9223372036854775807 by omega)]
  ·simp only [eq_b he,Qf,Qd,Qt,Q0f]
   cases decide ((k:Int)<(l.length:Int)) <;> rfl
  ·simp only [Int.lt_irrefl,decide_false,Qf,Qd,Qt,Q0f]
  ·rw [List.length_append,← Nat.add_assoc]
   exact .inl ⟨g2,rfl⟩
 ·simp only [e1,Q0a]
  refine .inr ⟨k',e,q,[],he,X0j (by omega) ?_⟩
  simp only [eq_b he,Qf,Qd,Qt,Q0f]
  cases decide ((0:Int)<d) <;> rfl
end Go.Proofs.YtdkdhcakoccpfaaGreatDoor.Dr
namespace Go.Proofs.YtdkdhcakoccpfaaGreatDoor.Dr
open Go.RowKit
variable {fu:Nat}
theorem rC0 {a t:List Int} {c n:Nat} {m:Int} (hA:okA fu a) (hc:c≤a.length) (hm:isI m) (h:a.drop c=uB (n:Int) ++ t) (hn:n≤140737488355328) :
  (c+(uB (n:Int)).length≤a.length∧p33 fu ((a,(c:Int),0,0,()),m,())=some (((a,((c+(uB (n:Int)).length:Nat):Int),0,0,()),()),(n:Int))) ∨ ∃ k e q,e ≠ 0∧p33 fu ((a,(c:Int),0,0,()),m,())=some (((a,k,e,q,()),()),0) := by
 have hD := p33D hA hc hm
 rcases X0i (m := m) h hn with hr | ⟨e,q,hr⟩
 ·rw [hr] at hD
  exact .inl ⟨hD.1,hD.2.2⟩
 ·rw [hr] at hD
  obtain ⟨he,k,hk⟩ := hD
  exact .inr ⟨k,e,q,he,hk⟩
theorem Q1r {S E R:Type} {f:S→Option (S ⊕ (E ⊕ R))} {s:S} {e:E} {k:E→Option R} (P:Option R→Prop) (hf:0<fu) (h:f s=some (.inr (.inl e))) (hk:P (k e)):P (orK (loopO fu f s) k) := by
 rw [X0j hf h]
 exact hk
theorem X5w {X S E R:Type} {f:S→Option (S ⊕ (E ⊕ R))} {kk:E→Option R} (P:Option R→Prop) (a:List Int) (enc:X→List Int) (l:List X) (mk:Nat→List X→DT→S) (ix:S→Int) (hix:∀ k o d,ix (mk k o d)=(k:Int)) (fin:List X→DT→E) (c:Nat) (t:List Int) (hc:c≤a.length)
  (hd:a.drop c=l.flatMap enc ++ t) (hf:l.length+1<fu) (s0:S) (hs0:mk 0 [] (a,(c:Int),0,0,())=s0)
  (hg:∀ k (hk:k<l.length) c' t',c' ≤ a.length→a.drop c' = enc l[k] ++ t' → (c' + (enc l[k]).length≤a.length∧f (mk k (l.take k) (a,(c':Int),0,0,()))=some (.inl (mk (k+1) (l.take (k+1)) (a,((c' + (enc l[k]).length:Nat):Int),0,0,())))) ∨ ∃ o k2 e q,e ≠ 0∧f (mk k (l.take k) (a,(c':Int),0,0,()))=some (.inl (mk (k+1) o (a,k2,e,q,()))))
  (hb:∀ k o k2 e q,e ≠ 0→f (mk k o (a,k2,e,q,()))=some (.inr (.inl (fin o (a,k2,e,q,())))))
  (he:∀ c':Nat,f (mk l.length l (a,(c':Int),0,0,()))=some (.inr (.inl (fin l (a,(c':Int),0,0,())))))
  (h1:c+(l.flatMap enc).length≤a.length→P (kk (fin l (a,((c+(l.flatMap enc).length:Nat):Int),0,0,()))))
  (h2:∀ o k e q,e ≠ 0→P (kk (fin o (a,k,e,q,())))):P (orK (loopO fu f s0) kk) := by
 subst hs0
 rcases X5v (fu := fu) a enc l mk ix hix (fun o d => .inl (fin o d)) c t hc hd hf hg hb he with ⟨g1,g2⟩ | ⟨o,k,e,q,g1,g2⟩
 ·rw [g2]; exact h1 g1
 ·rw [g2]; exact h2 o k e q g1
theorem K7i (s:ByteArray):byt (numsOf s) := fun x hx=>by
 simp only [numsOf,List.mem_map] at hx
 obtain ⟨b,_,rfl⟩ := hx
 have := b.toNat_lt
 omega
theorem X0m {X:Type} {enc:X→List Int} {l:List X} (h:∀ x ∈ l,byt (enc x)):byt (l.flatMap enc) := fun y hy=>by
 obtain ⟨x,hx,hy⟩ := List.mem_flatMap.1 hy
 exact h x hx y hy
theorem Q7m (s:ByteArray):byt (sB s) := X5p (K7i s)
theorem K7j (b:Bool):byt (bB b) := fun x hx=>by
 simp only [bB,List.mem_singleton] at hx
 subst hx
 cases b <;> decide
theorem K7k {p:St16} (h:fitS p):byt (stB p) := by
 obtain ⟨lo,hi,e,z,l,ps,cs,⟨⟩⟩ := p
 obtain ⟨b1,b2,b3,b4,⟨b5,b6⟩,⟨b7,b8⟩,b9,b10⟩ := h
 refine Q1a (Q7m _) (Q1a (Q7m _) (Q1a (Q1n _) (Q1a (Q1n _) (Q1a (Q1a (Q1n _) (X0m fun x hx => ?_)) (Q1a (Q1a (Q1n _) (X0m fun x hx => ?_)) (Q1a (Q1n _) (X0m fun x hx => ?_)))))))
 ·exact Q1a (Q1n _) (Q1a (Q7m _) (Q1a (X5p (b6 x hx).2.2.1.2) (Q1a (Q1n _) (Q1n _))))
 ·exact Q1a (Q1n _) (Q1a (Q1n _) (Q1a (K7j _) (Q1n _)))
 ·exact Q1a (Q7m _) (Q1n _)
theorem K7l {p:St16} (h:fitS p):(stB p).length≤10000000000000 := by
 obtain ⟨lo,hi,e,z,l,ps,cs,⟨⟩⟩ := p
 obtain ⟨b1,b2,b3,b4,⟨b5,b6⟩,⟨b7,b8⟩,b9,b10⟩ := h
 have l1 := Q2a b1
 have l2 := Q2a b2
 have l3 := Q0n b3
 have l4 := Q0n b4
 have l5 := X5t b5 b6
 have l6 := Q0n (Q1w (n := ps.length) (by omega))
 have l7 := Q0n (Q1w (n := cs.length) (by omega))
 have k1 := Q4c (l := ps) (enc := prodB) (K := 31) (fun x hx=>X0h (b8 x hx))
 have k2 := Q4c (l := cs) (enc := conB) (K := 1048596) (fun x hx=>X5s (b10 x hx))
 have m2:cs.length * 1048596≤1048576 * 1048596 := Nat.mul_le_mul_right _ (by omega)
 simp only [stB,List.length_append]
 unfold lB at l5 ⊢
 simp only [List.length_append] at l5 ⊢
 omega
theorem Q5m {p:St16} (h:fitS p):bndS p := by
 obtain ⟨lo,hi,e,z,l,ps,cs,⟨⟩⟩ := p
 obtain ⟨b1,b2,b3,b4,⟨b5,b6⟩,⟨b7,b8⟩,b9,b10⟩ := h
 exact ⟨by omega,by omega,⟨by omega,fun x hx=>⟨(b10 x hx).1,(b10 x hx).2.1,by have := (b10 x hx).2.2; omega⟩⟩,fun y hy=>(b8 y hy).2.2.1⟩
set_option maxRecDepth 4000 in
theorem K7m {p:St16} (h:fitS p) (hf:4194304<fu):∃ q e,p7 fu (stB p,())=some ((),q,e,())∧(e=0→q=p) := by
 have hbd := Q5m h
 have hA:okA fu (stB p) := ⟨K7k h,Nat.le_trans (K7l h) (by decide),by omega⟩
 have h6 := X0b (fu := fu) p hbd hf
 obtain ⟨lo,hi,e,z,l,ps,cs,⟨⟩⟩ := p
 obtain ⟨b1,b2,b3,b4,⟨b5,b6⟩,⟨b7,b8⟩,b9,b10⟩ := h
 have f0:(stB (lo,hi,e,z,l,ps,cs,())).drop 0=sB lo ++ (sB hi ++ (uB e ++ (uB z ++ (lB recB l ++ (lB prodB ps ++ lB conB cs))))) := rfl
 generalize stB (lo,hi,e,z,l,ps,cs,())=a at hA f0 ⊢
 have f1:a.drop (0+(sB lo).length+(sB hi).length)=uB e ++ (uB z ++ (lB recB l ++ (lB prodB ps ++ lB conB cs))) := Q0s (Q0s f0)
 have f2 := Q0s f1
 have f3 := Q0s f2
 have f4 := (Q0s f3).trans (show lB prodB ps ++ lB conB cs=uB (ps.length:Int) ++ (ps.flatMap prodB ++ lB conB cs) from List.append_assoc ..)
 have f5 := Q0s f4
 unfold p7
 let PQ:Option (Unit×(St16×(Int×Unit)))→Prop := fun o => ∃ q er,o=some ((),q,er,())∧(er=0→q=(lo,hi,e,z,l,ps,cs,()))
 show PQ _
 have r1 := rRg (c := 0) hA (Nat.zero_le _) f0 b1 b2
 change RP a _ _ (p30 fu ((a,(0:Int),0,0,()),())) at r1
 rcases r1 with ⟨g1,e1⟩ | ⟨k,e,q,d,he,e1⟩
 ·simp only [e1,Q0a]
  rcases rU hA g1 b3 f1 with ⟨g2,e2⟩ | ⟨k,e,q,d,he,e2⟩
  ·simp only [e2,Q0a]
   rcases rU hA g2 b4 f2 with ⟨g3,e3⟩ | ⟨k,e,q,d,he,e3⟩
   ·simp only [e3,Q0a]
    rcases rL hA g3 K7g f3 b5 b6 hf with ⟨g4,e4⟩ | ⟨k,e,q,d,he,e4⟩
    ·simp only [e4,Q0a]
     rcases rC0 hA g4 i256 f4 (by omega) with ⟨g5,e5⟩ | ⟨k,e,q,he,e5⟩
     ·simp only [e5,Q0a,Qd,Qt]
      refine X5w PQ a prodB ps (fun k o d=>(((k:Int),()),(d,(lo,hi,e,z,l,o,(),()),()))) (fun s=>s.1.1) (fun k o d=>rfl) (fun o d=>((),(d,(lo,hi,e,z,l,o,(),()),()))) _ _ g5 f5 (by omega) _ rfl (fun k hk c' t' hc' hd' => ?_) (fun k o k2 er q he => ?_) (fun c' => ?_) (fun g6 => ?_) (fun o k er q he => ?_)
      ·have hkl:(ps.take k).length≤2097152 := by rw [List.length_take]; omega
       obtain ⟨q1,q2,q3⟩ := b8 _ (List.getElem_mem hk)
       have hlen:(prodB ps[k]).length=(uB ps[k].1).length+(uB ps[k].2.1).length+1+(uB ps[k].2.2.2).length := by
        simp only [prodB,bB,List.length_append,List.length_singleton]; omega
       simp only [prodB,List.append_assoc] at hd'
       have w1 := Q0s hd'
       have w2 := Q0s w1
       have w3:a.drop (c' + (uB ps[k].1).length+(uB ps[k].2.1).length+1)=_ := Q0s w2
       simp only [Int.ofNat_lt,hk,Qd,Qt,z_eq]
       rcases rU hA hc' q1 hd' with ⟨g7,e7⟩ | ⟨k2,er,q,d,he,e7⟩
       ·simp only [e7,Q0a]
        rcases rU hA g7 q2 w1 with ⟨g8,e8⟩ | ⟨k2,er,q,d,he,e8⟩
        ·simp only [e8,Q0a]
         rcases rB hA g8 w2 with ⟨g9,e9⟩ | ⟨k2,er,q,d,he,e9⟩
         ·simp only [e9,Q0a]
          rcases rU hA g9 q3 w3 with ⟨g10,e10⟩ | ⟨k2,er,q,d,he,e10⟩
          ·refine .inl ⟨by rw [hlen]; omega,?_⟩
           simp only [e10,Q0a,Qt,g64 hkl 32 (by omega),Q0i hk (show ps.length≤9223372036854775807 by omega)]
           rw [← X0l hk,hlen,← Nat.add_assoc,← Nat.add_assoc,← Nat.add_assoc]
          ·refine .inr ⟨ps.take k ++ [(ps[k].1,ps[k].2.1,ps[k].2.2.1,d)],k2,er,q,he,?_⟩
           simp only [e10,Q0a,Qt,g64 hkl 32 (by omega),Q0i hk (show ps.length≤9223372036854775807 by omega)]
         ·refine .inr ⟨ps.take k ++ [(ps[k].1,ps[k].2.1,d,0)],k2,er,q,he,?_⟩
          simp only [e9,Q1v he,Q0a,Qt,g64 hkl 32 (by omega),Q0i hk (show ps.length≤9223372036854775807 by omega)]
        ·refine .inr ⟨ps.take k ++ [(ps[k].1,d,false,0)],k2,er,q,he,?_⟩
         simp only [e8,X5r he,Q1v he,Q0a,Qt,g64 hkl 32 (by omega),Q0i hk (show ps.length≤9223372036854775807 by omega)]
       ·refine .inr ⟨ps.take k ++ [(d,0,false,0)],k2,er,q,he,?_⟩
        simp only [e7,X5r he,Q1v he,Q0a,Qt,g64 hkl 32 (by omega),Q0i hk (show ps.length≤9223372036854775807 by omega)]
      ·simp only [eq_b he,Qf,Q0f]
       cases decide ((k:Int)<(ps.length:Int)) <;> rfl
      ·simp only [Int.lt_irrefl,decide_false,Qf,Q0f]
      ·have f6:a.drop (0+(sB lo).length+(sB hi).length+(uB e).length+(uB z).length+(lB recB l).length+(uB (ps.length:Int)).length+(ps.flatMap prodB).length)=uB (cs.length:Int) ++ (cs.flatMap conB ++ []) := by
        rw [Q0s f5,List.append_nil]; rfl
       have f7 := Q0s f6
       rcases rC0 hA g6 i64' f6 (by omega) with ⟨g7,e7⟩ | ⟨k,er,q,he,e7⟩
       ·simp only [e7,Q0a]
        refine X5w PQ a conB cs (fun k o d=>(((k:Int),()),(d,(lo,hi,e,z,l,ps,o,()),()))) (fun s=>s.1.1) (fun k o d=>rfl) (fun o d=>((),(d,(lo,hi,e,z,l,ps,o,()),()))) _ _ g7 f7 (by omega) _ rfl (fun k hk c' t' hc' hd' => ?_) (fun k o k2 er q he => ?_) (fun c' => ?_) (fun g8 => ?_) (fun o k er q he => ?_)
        ·have hkl:(cs.take k).length≤2097152 := by rw [List.length_take]; omega
         obtain ⟨q1,q2⟩ := b10 _ (List.getElem_mem hk)
         have hlen:(conB cs[k]).length=(sB cs[k].1).length+(uB cs[k].2).length := by
          simp only [conB,List.length_append]
         simp only [conB,List.append_assoc] at hd'
         have w1 := Q0s hd'
         unfold sB at hd' w1 hlen
         simp only [Int.ofNat_lt,hk,Qd,Qt,z_eq]
         rcases rT hA hc' i32 hd' (by rw [Q1t]; omega) with ⟨g9,e9⟩ | ⟨k2,er,q,d,he,e9⟩
         ·simp only [e9,Q0a]
          rcases rU hA g9 q2 w1 with ⟨g10,e10⟩ | ⟨k2,er,q,d,he,e10⟩
          ·refine .inl ⟨by rw [hlen]; omega,?_⟩
           simp only [e10,Q0a,Qt,g64 hkl 24 (by omega),Q0i hk (show cs.length≤9223372036854775807 by omega),Q7l]
           rw [← X0l hk,hlen,← Nat.add_assoc]
          ·refine .inr ⟨cs.take k ++ [(cs[k].1,d)],k2,er,q,he,?_⟩
           simp only [e10,Q0a,Qt,g64 hkl 24 (by omega),Q0i hk (show cs.length≤9223372036854775807 by omega),Q7l]
         ·refine .inr ⟨cs.take k ++ [(strOfNums d,0)],k2,er,q,he,?_⟩
          simp only [e9,Q1v he,Q0a,Qt,g64 hkl 24 (by omega),Q0i hk (show cs.length≤9223372036854775807 by omega)]
        ·simp only [eq_b he,Qf,Q0f]
         cases decide ((k:Int)<(cs.length:Int)) <;> rfl
        ·simp only [Int.lt_irrefl,decide_false,Qf,Q0f]
        ·simp only [K6w,Q0a]
         generalize hX:(if ((_:Nat):Int)<(a.length:Int) then (15:Int) else 0)=X
         by_cases h0:X=0
         ·subst h0
          simp only [z_ne,Qf,h6,Q0a,Q0e]
          cases chkS (lo,hi,e,z,l,ps,cs,()) with
          | true=>exact ⟨_,_,rfl,fun _=>rfl⟩
          | false=>exact ⟨_,_,rfl,fun h=>absurd h (by decide)⟩
         ·simp only [ne_b h0,Qt,Q0e]
          exact ⟨_,_,rfl,fun h=>absurd h (by decide)⟩
        ·simp only [Q3a he,Q0a,ne_b he,Qt,Q0e]
         exact ⟨_,_,rfl,fun h=>absurd h (by decide)⟩
       ·simp only [e7,Q0a]
        refine Q1r PQ (by omega) (by simp only [eq_b he,Int.lt_irrefl,decide_false,Qf,Q0f]; rfl) ?_
        simp only [Q3a he,Q0a,ne_b he,Qt,Q0e]
        exact ⟨_,_,rfl,fun h=>absurd h (by decide)⟩
      ·simp only [Q1q he,Q0a]
       refine Q1r PQ (by omega) (by simp only [eq_b he,Int.lt_irrefl,decide_false,Qf,Q0f]; rfl) ?_
       simp only [Q3a he,Q0a,ne_b he,Qt,Q0e]
       exact ⟨_,_,rfl,fun h=>absurd h (by decide)⟩
     ·simp only [e5,Q0a,Qd,Qt]
      refine Q1r PQ (by omega) (by simp only [eq_b he,Int.lt_irrefl,decide_false,Qf,Q0f]; rfl) ?_
      simp only [Q1q he,Q0a]
      refine Q1r PQ (by omega) (by simp only [eq_b he,Int.lt_irrefl,decide_false,Qf,Q0f]; rfl) ?_
      simp only [Q3a he,Q0a,ne_b he,Qt,Q0e]
      exact ⟨_,_,rfl,fun h=>absurd h (by decide)⟩
    ·simp only [e4,Q0a,Q1q he,Qd,Qt]
     refine Q1r PQ (by omega) (by simp only [eq_b he,Int.lt_irrefl,decide_false,Qf,Q0f]; rfl) ?_
     simp only [Q1q he,Q0a]
     refine Q1r PQ (by omega) (by simp only [eq_b he,Int.lt_irrefl,decide_false,Qf,Q0f]; rfl) ?_
     simp only [Q3a he,Q0a,ne_b he,Qt,Q0e]
     exact ⟨_,_,rfl,fun h=>absurd h (by decide)⟩
   ·simp only [e3,Q0a,X0k he hf,Q1q he,Qd,Qt]
    refine Q1r PQ (by omega) (by simp only [eq_b he,Int.lt_irrefl,decide_false,Qf,Q0f]; rfl) ?_
    simp only [Q1q he,Q0a]
    refine Q1r PQ (by omega) (by simp only [eq_b he,Int.lt_irrefl,decide_false,Qf,Q0f]; rfl) ?_
    simp only [Q3a he,Q0a,ne_b he,Qt,Q0e]
    exact ⟨_,_,rfl,fun h=>absurd h (by decide)⟩
  ·simp only [e2,Q0a,Q1v he,X0k he hf,Q1q he,Qd,Qt]
   refine Q1r PQ (by omega) (by simp only [eq_b he,Int.lt_irrefl,decide_false,Qf,Q0f]; rfl) ?_
   simp only [Q1q he,Q0a]
   refine Q1r PQ (by omega) (by simp only [eq_b he,Int.lt_irrefl,decide_false,Qf,Q0f]; rfl) ?_
   simp only [Q3a he,Q0a,ne_b he,Qt,Q0e]
   exact ⟨_,_,rfl,fun h=>absurd h (by decide)⟩
 ·obtain ⟨d1,d2,⟨⟩⟩ := d
  simp only [e1,Q0a,Q1v he,X0k he hf,Q1q he,Qd,Qt]
  refine Q1r PQ (by omega) (by simp only [eq_b he,Int.lt_irrefl,decide_false,Qf,Q0f]; rfl) ?_
  simp only [Q1q he,Q0a]
  refine Q1r PQ (by omega) (by simp only [eq_b he,Int.lt_irrefl,decide_false,Qf,Q0f]; rfl) ?_
  simp only [Q3a he,Q0a,ne_b he,Qt,Q0e]
  exact ⟨_,_,rfl,fun h=>absurd h (by decide)⟩
end Go.Proofs.YtdkdhcakoccpfaaGreatDoor.Dr
namespace Go.Proofs.YtdkdhcakoccpfaaGreatDoor
open Go.RowKit
variable {fu:Nat}
abbrev Cd := D_api_PartCommand
def cmdOf (x:Cd):Cm16 := (x.1,x.2.1,x.2.2.1,x.2.2.2.1,x.2.2.2.2.1,x.2.2.2.2.2.1,x.2.2.2.2.2.2.1,x.2.2.2.2.2.2.2.1,x.2.2.2.2.2.2.2.2.1,x.2.2.2.2.2.2.2.2.2,())
def live0:St16 := (⟨#[]⟩,⟨#[]⟩,1,0,[],[],[],())
def liveC:Cm16 := (1,1,7,1,⟨#[107]⟩,[118],0,0,⟨#[]⟩,0,())
def live1:St16 := (⟨#[]⟩,⟨#[]⟩,1,0,[(0,⟨#[107]⟩,[118],7,1)],[(7,1,true,0)],[],())
theorem X5x:chkS live0=true := by decide +kernel
theorem X5y:doS live0 liveC=(live1,(0,0,false,[],())) := by kernel_rfl
theorem K7n:doS live1 liveC=(live1,(0,0,true,[],())) := by kernel_rfl
theorem X0n:InvP live0 := ⟨X5x,fun y hy=>(by cases hy),fun y hy=>(by cases hy)⟩
theorem X0o:bndC liveC := ⟨by decide +kernel,by decide⟩
theorem K7o:p16 fu ((1:Int),(⟨#[107]⟩:ByteArray),())=some ((),liveC) := rfl
theorem K7p (hf:4194304<fu):p4 fu ()=some ((),true) := by
 have h10 := Q7e (fu := fu) live0 (Q9w X0n) hf
 rw [X5x] at h10
 have e19:p14 fu (((⟨#[]⟩:ByteArray),(⟨#[]⟩:ByteArray),()),(1:Int),())=some ((),(live0,(0,()))) := by
  unfold p14
  simp only [live0] at h10
  simp only [h10,Q0a,Qt]
  rfl
 have h1 := Q9t (fu := fu) live0 liveC (Q9w X0n) X0o hf
 rw [X5y] at h1
 have hI1:InvP live1 := by
  have := (K5z live0 liveC X0n X0o).inv
  rw [X5y] at this
  exact this
 have h2 := Q9t (fu := fu) live1 liveC (Q9w hI1) X0o hf
 rw [K7n] at h2
 unfold p4
 simp only [e19,Q0a,K7o]
 simp only [live0,liveC,live1] at h1 h2 ⊢
 simp only [h1,h2,Q0a,Qd,Qt]
 rfl
end Go.Proofs.YtdkdhcakoccpfaaGreatDoor
namespace Go.Proofs.YtdkdhcakoccpfaaGreatDoor.Dr
open Go.RowKit
variable {fu:Nat}
def cmdF:Cm16→Prop
 | (_,_,pr,sq,key,v,off,_,name,plan,_)=>isU pr∧isU sq∧key.size≤1048576∧(v.length≤1048576∧byt v)∧isU off∧name.size≤1048576∧isU plan
theorem X5z {c:Cm16} (h:cmdF c):bndC c := by
 obtain ⟨k,ep,pr,sq,key,v,off,most,name,plan,⟨⟩⟩ := c
 obtain ⟨h1,h2,h3,h4,h5,h6,h7⟩ := h
 exact ⟨h6,h5.1⟩
theorem u0:isU 0 := by unfold isU; omega
theorem X6a:fitS zeroP := ⟨by decide,by decide,u0,u0,⟨by decide,fun x hx=>by cases hx⟩,⟨by decide,fun x hx=>by cases hx⟩,by decide,fun x hx=>by cases hx⟩
theorem K7q {ps:List Pr} {x:Pr} (_:ps.length≤256) (h:∀ y ∈ ps,fitP y) (hx:fitP x):(putS ps x).1.length≤1048576 ∧ ∀ y ∈ (putS ps x).1,fitP y := by
 have hn:∀ n:Int,((([]:List Pr),n)).1.length≤1048576 ∧ ∀ y ∈ ((([]:List Pr),n)).1,fitP y := fun n=>⟨Nat.zero_le _,fun y hy=>by cases hy⟩
 unfold putS
 split
 ·exact hn _
 split
 ·exact hn _
 split
 ·exact hn _
 split
 ·exact hn _
 split
 ·exact hn _
 have := Q7c x ps
 refine ⟨by dsimp only; omega,fun y hy => ?_⟩
 rcases Q2x hy with rfl | hy
 ·exact hx
 ·exact h y hy
theorem K7r {cs:List Cn} {c:ByteArray} {f h:Int} (hl:cs.length≤64) (hc:∀ y ∈ cs,fitC y) (hs:c.size≤1048576) (hf:isU f):(commitS cs c f h).1.length≤1048576 ∧ ∀ y ∈ (commitS cs c f h).1,fitC y := by
 have hn:∀ n:Int,((([]:List Cn),n)).1.length≤1048576 ∧ ∀ y ∈ ((([]:List Cn),n)).1,fitC y := fun n=>⟨Nat.zero_le _,fun y hy=>by cases hy⟩
 unfold commitS
 cases okC cs with
 | false=>exact hn _
 | true =>
  cases nameB c with
  | false=>exact hn _
  | true =>
   cases decide (f>h) with
   | true=>exact hn _
   | false =>
    cases decide ((insS cs (c,f)).length≤64) with
    | false=>exact hn _
    | true =>
     have := X3o (c,f) cs
     refine ⟨by show (insS cs (c,f)).length≤_; omega,fun y hy => ?_⟩
     rcases Q3z hy with rfl | hy
     ·exact ⟨hs,hf⟩
     ·exact hc y hy
theorem K7s {p:St16} {c:Cm16} (hp:fitS p) (hk:chkS p=true) (hc:cmdF c):fitS (actS p c).1∧(actS p c).2.1.2.2.2.1.length≤64 := by
 obtain ⟨lo,hi,e,z,l,ps,cs,⟨⟩⟩ := p
 obtain ⟨k,ep,pr,sq,key,v,off,most,name,plan,⟨⟩⟩ := c
 obtain ⟨c1,c2,c3,⟨c4,c4'⟩,c5,c6,c7⟩ := hc
 obtain ⟨b1,b2,b3,b4,⟨b5,b6⟩,⟨b7,b8⟩,b9,b10⟩ := hp
 obtain ⟨a1,a2,a3,a4,a5,a6,a7,a8⟩ := (Q1j lo hi e z l ps cs).1 hk
 have hll := (Q0v a3).1
 have hpl := ((Q2l ps).1 a4).2.2
 have hcl := (Q3k a5).2
 have hp1 := fun (b:Bool) (o:Int) (ho:isU o)=>K7q (x := (pr,sq,b,o)) hpl b8 ⟨c1,c2,ho⟩
 have hc1 := fun (h:Int)=>K7r (c := name) (f := off) (h := h) hcl b10 c6 c5
 unfold actS
 dsimp only
 by_cases k1:k=1
 ·rw [if_pos k1]
  refine ⟨?_,Nat.zero_le _⟩
  unfold prodS
  by_cases g:l.length<4096
  ·rw [if_pos g]
   have hu:isU (l.length:Int) := X5l (by omega)
   by_cases g2:(putS ps (pr,sq,true,(l.length:Int))).2=0
   ·rw [if_pos g2]
    refine ⟨b1,b2,b3,b4,⟨by dsimp only; rw [List.length_append,List.length_singleton]; omega,fun x hx => ?_⟩,hp1 true _ hu,b9,b10⟩
    rcases List.mem_append.1 hx with hx | hx
    ·exact b6 x hx
    ·rw [List.mem_singleton.1 hx]
     exact ⟨hu,c3,⟨c4,c4'⟩,c1,c2⟩
   ·rw [if_neg g2]
    exact ⟨b1,b2,b3,b4,⟨b5,b6⟩,⟨b7,b8⟩,b9,b10⟩
  ·rw [if_neg g]
   exact ⟨b1,b2,b3,b4,⟨b5,b6⟩,⟨b7,b8⟩,b9,b10⟩
 ·rw [if_neg k1]
  by_cases k2:k=2
  ·rw [if_pos k2]
   refine ⟨⟨b1,b2,b3,b4,⟨b5,b6⟩,⟨b7,b8⟩,b9,b10⟩,?_⟩
   dsimp only
   unfold fetchS
   by_cases g:off≤(l.length:Int)
   ·rw [if_pos g]
    dsimp only
    rw [List.length_take]
    omega
   ·rw [if_neg g]
    exact Nat.zero_le _
  ·rw [if_neg k2]
   by_cases k3:k=3
   ·rw [if_pos k3]
    refine ⟨?_,Nat.zero_le _⟩
    dsimp only
    unfold comS
    by_cases g:(commitS cs name off (l.length:Int)).2=0
    ·rw [if_pos g]
     by_cases g2:(putS ps (pr,sq,false,0)).2=0
     ·rw [if_pos g2]
      exact ⟨b1,b2,b3,b4,⟨b5,b6⟩,hp1 false 0 u0,hc1 _⟩
     ·rw [if_neg g2]
      exact ⟨b1,b2,b3,b4,⟨b5,b6⟩,⟨b7,b8⟩,b9,b10⟩
    ·rw [if_neg g]
     exact ⟨b1,b2,b3,b4,⟨b5,b6⟩,⟨b7,b8⟩,b9,b10⟩
   ·rw [if_neg k3]
    by_cases k4:k=4
    ·rw [if_pos k4]
     exact ⟨⟨b1,b2,b3,b4,⟨b5,b6⟩,⟨b7,b8⟩,b9,b10⟩,Nat.zero_le _⟩
    ·rw [if_neg k4]
     by_cases k5:k=5
     ·rw [if_pos k5]
      exact ⟨⟨b1,b2,b3,c7,⟨b5,b6⟩,⟨b7,b8⟩,b9,b10⟩,Nat.zero_le _⟩
     ·rw [if_neg k5]
      exact ⟨⟨b1,b2,b3,u0,⟨b5,b6⟩,⟨b7,b8⟩,b9,b10⟩,Nat.zero_le _⟩
theorem K7t {p:St16} {c:Cm16} (hp:fitS p) (hc:cmdF c):fitS (doS p c).1∧(doS p c).2.2.2.2.1.length≤64 := by
 unfold doS
 cases hk:chkS p with
 | false=>exact ⟨X6a,Nat.zero_le _⟩
 | true =>
  have hA := K7s hp hk hc
  simp only [Bool.true_eq_false,if_false]
  have hW:fitS (wkS p c).1∧(wkS p c).2.1.2.2.2.1.length≤64 := by
   unfold wkS
   split
   ·exact ⟨hp,Nat.zero_le _⟩
   ·split
    ·split
     ·exact ⟨hp,Nat.zero_le _⟩
     ·exact ⟨hp,Nat.zero_le _⟩
     ·exact hA
    ·exact ⟨hp,Nat.zero_le _⟩
  split
  ·exact ⟨hp,Nat.zero_le _⟩
  ·exact hW
theorem Q7n {X:Type} (l:List X):l.any (fun _=>false)=false := by
 induction l with
 | nil=>rfl
 | cons a l ih=>simp only [List.any_cons,ih,Bool.false_or]
theorem K7u {p:St16} (h:fitS p) (hf:4194304<fu):p13 fu (p,())=some ((),()) := by
 obtain ⟨lo,hi,e,z,l,ps,cs,⟨⟩⟩ := p
 obtain ⟨b1,b2,b3,b4,⟨b5,b6⟩,⟨b7,b8⟩,b9,b10⟩ := h
 unfold p13
 refine Q0z l (fun i:Nat=>(((i:Int),()),())) (fun _=>false) ((),()) ((),()) (show l.length<fu by omega) (fun i hi => ?_) ?_ (by rw [Q7n])
 ·have hg:∀ d,l.getD i d=l[i] := fun d=>Q0k hi
  have hv := (b6 _ (List.getElem_mem hi)).2.2.1.1
  simp only [Int.ofNat_lt,Int.natCast_nonneg,hi,Qd,Qt,Qf,and_self,Int.toNat_natCast,hg]
  refine Q0z l[i].2.2.1 (fun i:Nat=>(((i:Int),()),())) (fun _=>false) (.inl ((((i+1:Nat):Int),()),())) (.inl ((((i+1:Nat):Int),()),())) (show l[i].2.2.1.length<fu by omega) (fun k hk => ?_) ?_ (by rw [Q7n]; rfl)
  ·simp only [Int.ofNat_lt,Int.natCast_nonneg,hk,Qd,Qt,Qf,and_self,Int.toNat_natCast,Q0i hk (by omega)]
  ·simp only [Int.lt_irrefl,decide_false,Qf,Q0i hi (by omega),Q0f]
 ·simp only [Int.lt_irrefl,decide_false,Qf]
  refine congrArg inrO ?_ |>.trans (Q0f)
  refine Q0z ps (fun i:Nat=>(((i:Int),()),())) (fun _=>false) ((),()) ((),()) (show ps.length<fu by omega) (fun i hi => ?_) ?_ (by rw [Q7n])
  ·simp only [Int.ofNat_lt,Int.natCast_nonneg,hi,Qd,Qt,Qf,and_self,Int.toNat_natCast,Q0i hi (by omega)]
  ·simp only [Int.lt_irrefl,decide_false,Qf]
   refine congrArg inrO ?_ |>.trans (Q0f)
   refine Q0z cs (fun i:Nat=>(((i:Int),()),())) (fun _=>false) ((),()) ((),()) (show cs.length<fu by omega) (fun i hi => ?_) ?_ (by rw [Q7n])
   ·simp only [Int.ofNat_lt,Int.natCast_nonneg,hi,Qd,Qt,Qf,and_self,Int.toNat_natCast,Q0i hi (by omega)]
   ·simp only [Int.lt_irrefl,decide_false,Qf,Q0f]
theorem Q7o {p:St16} (h:fitS p) (hf:4194304<fu):p11 fu (p,p,())=some ((),true) := by
 have hb := Q5m h
 obtain ⟨lo,hi,e,z,l,ps,cs,⟨⟩⟩ := p
 obtain ⟨b,h1,h2⟩ := K5r (fu := fu) (lo,hi,e,z,l,ps,cs,()) (lo,hi,e,z,l,ps,cs,()) hb.1 hb.2.1 hb.2.2.1.1 hf
 rw [h1,h2 rfl]
theorem K7v (a c:Int) (f:Bool) (l:List Rd) (hl:l.length≤2097152) (hf:4194304<fu):p12 fu ((a,c,f,l,()),(a,c,f,l,()),())=some ((),true) := by
 unfold p12
 simp only [X3v l hl hf,Q0a,Qt,beq_self_eq_true]
theorem p3_is {p:St16} {l:List Cd} (h:fitS p) (hl:l.length≤2097152) (hc:∀ x ∈ l,cmdF (cmdOf x)) (hf:4194304<fu):p3 fu (p,l,())=some ((),true) := by
 have hb := Q5m h
 have h5 := Q7e (fu := fu) p hb hf
 have h6 := X0b (fu := fu) p hb hf
 obtain ⟨lo,hi,e,z,r,ps,cs,⟨⟩⟩ := p
 unfold p3
 simp only [K7p hf,h5,h6,Q0a,bne_self_eq_false,Qf]
 refine Q9h (I := fun s => ∃ (i:Nat) (q:St16),s=((l,(),true,(i:Int),()),(q,()))∧i≤l.length∧fitS q) (m := fun s=>l.length-Int.toNat s.1.2.2.2.1) ⟨0,_,rfl,Nat.zero_le _,h⟩ (by simp only [Int.toNat_zero]; omega) fun s hs => ?_
 obtain ⟨i,q,rfl,h1,hI⟩ := hs
 by_cases hi:i<l.length
 ·have hg:∀ d,l.getD i d=l[i] := fun d=>Q0k hi
  have hcm := hc l[i] (List.getElem_mem hi)
  have hbq := Q5m hI
  have e8 := K7c (fu := fu) hI hf
  obtain ⟨w,er,e7,hw⟩ := K7m (fu := fu) hI hf
  have e9 := Q9t (fu := fu) q (cmdOf l[i]) hbq (X5z hcm) hf
  have e10 := K6p (fu := fu) q (cmdOf l[i]) hbq (X5z hcm) hf
  obtain ⟨hfd,hrl⟩ := K7t (c := cmdOf l[i]) hI hcm
  have eq0 := Q7o (fu := fu) hI hf
  generalize doS q (cmdOf l[i])=D at e9 e10 hfd hrl
  obtain ⟨D1,d1,d2,d3,d4,⟨⟩⟩ := D
  have e11 := Q7o (fu := fu) hfd hf
  have e13 := K7u (fu := fu) hfd hf
  have e12 := K7v (fu := fu) d1 d2 d3 d4 (by dsimp only at hrl; omega) hf
  dsimp only at e9 e10 hfd hrl e11 e13
  obtain ⟨t1,t2,t3,t4,t5,t6,t7,⟨⟩⟩ := D1
  obtain ⟨q1,q2,q3,q4,q5,q6,q7,⟨⟩⟩ := q
  obtain ⟨w1,w2,w3,w4,w5,w6,w7,⟨⟩⟩ := w
  simp only [cmdOf] at e9 e10
  simp only [Int.ofNat_lt,hi,Qd,Qt,Int.natCast_nonneg,and_self,Int.toNat_natCast,hg,e8,e7,e9,e10,e11,e12,e13,Q0a,Q0e,Bool.not_true,Qf,Option.isSome_some]
  refine ⟨.inl ((l,(),true,((i+1:Nat):Int),()),((t1,t2,t3,t4,t5,t6,t7,()),())),?_,⟨i+1,_,rfl,hi,hfd⟩,?_⟩
  ·refine Q1i (I := fun s => ∃ (k:Nat) (o:List Rd),s=(((k:Int),()),((d1,d2,d3,o,()),()))∧k≤o.length∧o.length≤64) (m := fun s=>s.2.1.2.2.2.1.length-Int.toNat s.1.1) (g := fun _=>Sum.inl (β := Unit×Bool) ((l,(),true,((i+1:Nat):Int),()),((t1,t2,t3,t4,t5,t6,t7,()),()))) ?_ fu _ ⟨0,d4,rfl,Nat.zero_le _,hrl⟩ (by show d4.length-0<fu; omega)
   rintro s ⟨k,o,rfl,k1,k2⟩
   by_cases hk:k<o.length
   ·left
    simp only [Int.ofNat_lt,hk,Qd,Qt,Int.natCast_nonneg,and_self,Int.toNat_natCast,Q0i hk (show o.length≤9223372036854775807 by omega),List.length_set]
    exact ⟨_,rfl,⟨k+1,_,rfl,by rw [List.length_set]; exact hk,by rw [List.length_set]; exact k2⟩,by simp only [List.length_set]; omega,trivial⟩
   ·right
    have hkn:¬ ((k:Int)<(o.length:Int)) := by omega
    simp only [hkn,decide_false,Qf]
    by_cases h0:er=0
    ·cases hw h0
     subst h0
     simp only [z_ne,Qf,eq0,Q0a,Q0e,Bool.not_true,Q0i hi (show l.length≤9223372036854775807 by omega),Q0f]
    ·simp only [ne_b h0,Qt,Q0e,Bool.not_true,Qf,Q0i hi (show l.length≤9223372036854775807 by omega),Q0f]
  ·show l.length-Int.toNat ((i+1:Nat):Int)<l.length-Int.toNat (i:Int)
   simp only [Int.toNat_natCast]; omega
 ·have hin:¬ ((i:Int)<(l.length:Int)) := by omega
  obtain ⟨q1,q2,q3,q4,q5,q6,q7,⟨⟩⟩ := q
  obtain ⟨b1,b2,b3,b4,-,-,-⟩ := hI
  have hfn:fitS (q1,q2,q3,0,[],[],[],()) := ⟨b1,b2,b3,u0,⟨by decide,fun x hx=>by cases hx⟩,⟨by decide,fun x hx=>by cases hx⟩,by decide,fun x hx=>by cases hx⟩
  have e5 := Q7e (fu := fu) (q1,q2,q3,0,[],[],[],()) (Q5m hfn) hf
  have hck:chkS (q1,q2,q3,0,[],[],[],())=((chkB q1 q2==0) && (q3 != 0)) := by
   have:(logOk ([]:List Rd) && (tabI ([]:List Pr) && (okC ([]:List Cn) && ((List.range ([]:List Rd).length).all (recOk q1 q2 [] []) && (([]:List Pr).all (proOk []) && ([]:List Cn).all (conOk []))))))=true := by rfl
   show ((chkB q1 q2==0) && ((q3 != 0) && (logOk ([]:List Rd) && (tabI ([]:List Pr) && (okC ([]:List Cn) && ((List.range ([]:List Rd).length).all (recOk q1 q2 [] []) && (([]:List Pr).all (proOk []) && ([]:List Cn).all (conOk []))))))))=_
   rw [this,Bool.and_true]
  have sz := Q7o (fu := fu) X6a hf
  have sn := Q7o (fu := fu) hfn hf
  rw [hck] at e5
  refine ⟨.inr ((),true),?_,rfl⟩
  simp only [hin,decide_false,Qf]
  unfold p14 p15
  simp only [e5,Q9z,Q0a]
  cases hx:(chkB q1 q2==0) with
  | false =>
   have hx':(chkB q1 q2 != 0)=true := by simp only [bne,hx,Bool.not_false]
   simp only [hx',Bool.false_and,Qf,Qt,Q0e,show ((165:Int) != 0)=true from rfl,Q0a]
   simp only [zeroP] at sz
   simp only [sz,Q0a,Qt,beq_self_eq_true,Q0f]
  | true =>
   have hx':(chkB q1 q2 != 0)=false := by simp only [bne,hx,Bool.not_true]
   by_cases h3:q3=0
   ·subst h3
    simp only [hx',bne_self_eq_false,beq_self_eq_true,Bool.and_false,Qf,Qt,Q0e,show ((165:Int) != 0)=true from rfl,Q0a]
    simp only [zeroP] at sz
    simp only [sz,Q0a,Qt,Q0f]
   ·simp only [hx',ne_b h3,eq_b h3,Bool.and_self,z_ne,Qf,Qt,Q0e,Q0a,sn,beq_self_eq_true,Q0f]
end Go.Proofs.YtdkdhcakoccpfaaGreatDoor.Dr
