/-
  Layer 16, from layer 14: names, consumers, records, ranges.
-/
import Derived.Test.YthlgaodaofpgoaaGreatDoorPtM
import Derived.Test.YthlgaodaofpgoaaGreatDoorDaP
namespace Go.Proofs.YthlgaodaofpgoaaGreatDoor
open Go.RowKit
section
variable {fu:Nat}
abbrev Cn := D_runtime_errorAddressString
theorem X8n {X S R:Type} {f:S→Option (S ⊕ R)}:∀ (l:List X) (mk:Nat→S) (q:X→Bool) (r fin:R),l.length<fu →
  (∀ i (h:i<l.length),f (mk i)=some (bif q l[i] then .inr r else .inl (mk (i+1))))→f (mk l.length)=some (.inr fin)→loopO fu f (mk 0)=some (bif l.any q then r else fin) := by
 intro l mk q r fin hf hs he
 have key:∀ k i n,i+k=l.length→k<n→loopO n f (mk i)=some (bif (l.drop i).any q then r else fin) := by
  intro k
  induction k with
  | zero =>
   intro i n hi hn
   obtain ⟨m,rfl⟩:∃ m,n=m+1 := ⟨n-1,by omega⟩
   obtain rfl:i=l.length := by omega
   simp only [loopO,he,List.drop_length,List.any_nil,Qf]
  | succ k ih =>
   intro i n hi hn
   obtain ⟨m,rfl⟩:∃ m,n=m+1 := ⟨n-1,by omega⟩
   have hlt:i<l.length := by omega
   rw [List.drop_eq_getElem_cons hlt]
   simp only [loopO,hs i hlt,List.any_cons]
   cases q l[i] with
   | true=>rfl
   | false=>exact ih (i+1) m (by omega) (by omega)
 exact key l.length 0 fu (by omega) hf
theorem Q2p {X S R:Type} {f:S→Option (S ⊕ R)} {res:R} (l:List X) (mk:Nat→S) (q:X→Bool) (r fin:R) (hf:l.length<fu)
  (hs:∀ i (h:i<l.length),f (mk i)=some (bif q l[i] then .inr r else .inl (mk (i+1)))) (he:f (mk l.length)=some (.inr fin)) (hr:(bif l.any q then r else fin)=res):loopO fu f (mk 0)=some res :=
 hr ▸ X8n l mk q r fin hf hs he
abbrev ky (s:ByteArray):List UInt8 := s.data.toList
theorem Q5k {a b:ByteArray} (h:ky a=ky b):a=b := by
 cases a; cases b
 simp only [ky] at h
 congr 1
 exact Array.toList_inj.1 h
theorem Q5l (s:ByteArray):s.toList=ky s := Lib.toList_data s
theorem X0a:∀ x y:List UInt8,Op.bytesLess x y=decide (x<y)
 | [],[]=>by simp [Op.bytesLess]
 | [],_ :: _=>by simp [Op.bytesLess]
 | _ :: _,[]=>by simp [Op.bytesLess]
 | a :: xs,b :: ys=>by
  rw [Op.bytesLess,X0a xs ys,Bool.eq_iff_iff]
  by_cases h:a<b
  ·simp [h,List.cons_lt_cons_iff]
  ·by_cases h':b<a
   ·have:a ≠ b := fun e=>by subst e; exact h h'
    simp [h,this,List.cons_lt_cons_iff]
   ·have:a=b := UInt8.le_antisymm (UInt8.not_lt.1 h') (UInt8.not_lt.1 h)
    subst this
    simp [h]
theorem Q5m (a b:ByteArray):Op.bytesLess a.toList b.toList=decide (ky a<ky b) := by
 rw [Q5l,Q5l,X0a]
theorem X8o (a b:ByteArray):(a.toList==b.toList)=decide (a=b) := by
 rw [Q5l,Q5l,Bool.eq_iff_iff]; simp only [beq_iff_eq,decide_eq_true_eq]
 exact ⟨Q5k,fun h=>h ▸ rfl⟩
theorem X0b:∀ a b:List UInt8,Lib.compareBytes a b=if a<b then -1 else if b<a then 1 else 0
 | [],[]=>by simp [Lib.compareBytes]
 | [],_ :: _=>by simp [Lib.compareBytes]
 | _ :: _,[]=>by simp [Lib.compareBytes]
 | a :: xs,b :: ys=>by
  rw [Lib.compareBytes,X0b xs ys]
  simp only [List.cons_lt_cons_iff]
  by_cases h:a<b
  ·simp [h]
  ·by_cases h':b<a
   ·have:a ≠ b := fun e=>by subst e; exact h h'
    simp [h,h',this]
   ·have:a=b := UInt8.le_antisymm (UInt8.not_lt.1 h') (UInt8.not_lt.1 h)
    subst this
    simp [h]
theorem X0c (a b:ByteArray):cmpI a b=if ky a<ky b then -1 else if ky b<ky a then 1 else 0 := X0b _ _
theorem X0d (x:List UInt8):¬ x<x := List.lt_irrefl x
theorem Q5n {x y z:List UInt8} (h:x<y) (h':y<z):x<z := List.lt_trans h h'
theorem Q7k {x y:List UInt8} (h:¬ x<y) (h':¬ y<x):x=y := List.le_antisymm h' h
/-! ### Names -/
def sq (x:Int):Bool := bif x != 45 then bif x != 95 then bif x != 46 then true else false else false else false
def qb (x:Int):Bool := bif decide (x<97) then (bif decide (x<48) then sq x else bif decide (x>57) then sq x else false) else bif decide (x>122) then (bif decide (x<48) then sq x else bif decide (x>57) then sq x else false) else false
def nameB (a:ByteArray):Bool := bif (numsOf a).any qb then false else decide (1≤a.size∧a.size≤32)
theorem X8p {S R:Type} {r:R} {s:S} (x:Int):(bif decide (x<97) then
  bif decide (x<48) then
   bif x != 45 then bif x != 95 then bif x != 46 then some (.inr r) else some (.inl s) else some (.inl s) else some (.inl s)
  else bif decide (x>57) then
   bif x != 45 then bif x != 95 then bif x != 46 then some (.inr r) else some (.inl s) else some (.inl s) else some (.inl s)
  else some (.inl s)
 else bif decide (x>122) then
  bif decide (x<48) then
   bif x != 45 then bif x != 95 then bif x != 46 then some (.inr r) else some (.inl s) else some (.inl s) else some (.inl s)
  else bif decide (x>57) then
   bif x != 45 then bif x != 95 then bif x != 46 then some (.inr r) else some (.inl s) else some (.inl s) else some (.inl s)
  else some (.inl s)
 else some (.inl s):Option (S ⊕ R))=some (bif qb x then .inr r else .inl s) := by
 unfold qb sq
 generalize decide (x<97)=b1; generalize decide (x<48)=b2; generalize decide (x>57)=b3; generalize decide (x>122)=b4
 generalize (x != 45)=b5; generalize (x != 95)=b6; generalize (x != 46)=b7
 cases b1 <;> cases b2 <;> cases b3 <;> cases b4 <;> cases b5 <;> cases b6 <;> cases b7 <;> rfl
theorem Q7l (a:ByteArray) (ha:a.size≤1048576) (hf:a.size<fu):p102 fu (a,())=some ((),nameB a) := by
 unfold p102 nameB
 have hl := Q3u a
 refine Q2p (numsOf a) (fun i=>(((i:Int),()),())) qb ((),false) ((),decide (1≤a.size∧a.size≤32)) (by omega) (fun i h => ?_) ?_ (by cases (numsOf a).any qb <;> rfl)
 ·simp only [Int.ofNat_lt,Int.natCast_nonneg,h,Qd,Qt,and_self,Int.toNat_natCast,Q0k h,Q0x h (by omega)]
  exact X8p _
 ·simp only [Int.ofNat_lt,Nat.lt_irrefl,decide_false,Qf]
  by_cases h1:1≤a.size
  ·have h2:(a.size:Int)≥1 := by omega
   have h3:decide ((a.size:Int)≤32)=decide (a.size≤32) := decide_eq_decide.2 (by omega)
   simp only [h1,h2,h3,Qd,Qt,true_and]; rfl
  ·have h2:¬ (a.size:Int)≥1 := by omega
   simp only [h1,h2,decide_false,Qf,false_and]; rfl
theorem X8q {X S R:Type} {f:S→Option (S ⊕ R)} {res:R} (l:List X) (mk:Nat→S) (q:X→Bool) (g:Option X→R) (hf:l.length<fu)
  (hs:∀ i (h:i<l.length),f (mk i)=some (bif q l[i] then .inr (g (some l[i])) else .inl (mk (i+1)))) (he:f (mk l.length)=some (.inr (g none))) (hr:g (l.find? q)=res):loopO fu f (mk 0)=some res := by
 subst hr
 have key:∀ k i n,i+k=l.length→k<n→loopO n f (mk i)=some (g ((l.drop i).find? q)) := by
  intro k
  induction k with
  | zero =>
   intro i n hi hn
   obtain ⟨m,rfl⟩:∃ m,n=m+1 := ⟨n-1,by omega⟩
   obtain rfl:i=l.length := by omega
   simp only [loopO,he,List.drop_length,List.find?_nil]
  | succ k ih =>
   intro i n hi hn
   obtain ⟨m,rfl⟩:∃ m,n=m+1 := ⟨n-1,by omega⟩
   have hlt:i<l.length := by omega
   rw [List.drop_eq_getElem_cons hlt]
   simp only [loopO,hs i hlt,List.find?_cons]
   cases q l[i] with
   | true=>rfl
   | false=>exact ih (i+1) m (by omega) (by omega)
 exact key l.length 0 fu (by omega) hf
def okL (l:List Cn):Prop := l.length≤2097152 ∧ ∀ x ∈ l,x.1.size≤1048576∧0≤x.2∧x.2<18446744073709551616
theorem X8r {l:List Cn} (h:okL l) {i:Nat} (hi:i<l.length):l[i].1.size≤1048576 := (h.2 _ (List.getElem_mem hi)).1
def bad (l:List Cn) (i:Nat):Bool := bif !nameB (l.getD i (⟨#[]⟩,0)).1 then true else bif decide (0<i) then !Op.bytesLess (l.getD (i-1) (⟨#[]⟩,0)).1.toList (l.getD i (⟨#[]⟩,0)).1.toList else false
def okC (l:List Cn):Bool := bif (List.range l.length).any (bad l) then false else decide (l.length≤64)
theorem X0e (l:List Cn) (hl:okL l) (hf:4194304<fu):p39 fu (l,())=some ((),okC l) := by
 unfold p39 okC
 have hn:l.length≤2097152 := hl.1
 refine Q2p (List.range l.length) (fun i=>(((i:Int),()),())) (bad l) ((),false) ((),decide (l.length≤64)) (by simp only [List.length_range]; omega) (fun i h => ?_) ?_ (by cases (List.range l.length).any (bad l) <;> rfl)
 ·simp only [List.length_range] at h
  have hs := X8r hl h
  have hg:∀ d,l.getD i d=l[i] := fun d=>Q0k h
  simp only [List.getElem_range,Int.ofNat_lt,Int.natCast_nonneg,h,Qd,Qt,and_self,Int.toNat_natCast,hg,Q7l _ hs (fu := fu) (by omega),Q0f,Q0x h (by omega),bad]
  cases nameB l[i].1
  ·rfl
  simp only [Bool.not_true,Qf]
  by_cases h0:0<i
  ·have h1:(i:Int)>0 := by omega
   have h2:i-1<l.length := by omega
   have h3:∀ d,l.getD (i-1) d=l[i-1] := fun d=>Q0k h2
   simp only [h0,h1,Qd,Qt,X4y h0 (by omega),Int.natCast_nonneg,Int.ofNat_lt,h2,and_self,Int.toNat_natCast,h3]
   cases Op.bytesLess l[i-1].1.toList l[i].1.toList <;> rfl
  ·have h1:¬ (i:Int)>0 := by omega
   simp only [h0,h1,decide_false,Qf]
 ·simp only [List.length_range,Int.ofNat_lt,Nat.lt_irrefl,decide_false,Qf]
  have h3:decide ((l.length:Int)≤64)=decide (l.length≤64) := decide_eq_decide.2 (by omega)
  rw [h3]; rfl
def readO (o:Option Cn):Int×Bool := match o with | some x=>(x.2,true) | none=>(0,false)
def readC (l:List Cn) (c:ByteArray):Int×Bool := readO (l.find? fun x=>x.1.toList==c.toList)
theorem X8s (l:List Cn) (c:ByteArray) (hl:l.length≤2097152) (hf:4194304<fu):p118 fu (l,c,())=some ((),(readC l c).1,(readC l c).2,()) := by
 unfold p118
 refine X8q l (fun i=>(((i:Int),()),())) (fun x=>x.1.toList==c.toList) (fun o=>((),(readO o).1,(readO o).2,())) (by omega) (fun i h => ?_) ?_ rfl
 ·have hg:∀ d,l.getD i d=l[i] := fun d=>Q0k h
  simp only [Int.ofNat_lt,Int.natCast_nonneg,h,Qd,Qt,and_self,Int.toNat_natCast,hg,Q0x h (by omega)]
  cases l[i].1.toList==c.toList <;> rfl
 ·simp only [Int.ofNat_lt,Nat.lt_irrefl,decide_false,Qf]; rfl
theorem X0f {α:Type} (l:List α):l.any (fun _=>false)=false := by induction l <;> simp_all
theorem Q7m (s:ByteArray):(s==s)=true := by
 cases s with
 | mk d=>show (d==d)=true; exact beq_self_eq_true d
theorem X8t (l:List Cn) (hl:l.length≤2097152) (hf:4194304<fu):p72 fu (l,l,())=some ((),true) := by
 unfold p72
 simp only [bne_self_eq_false,Qf]
 refine Q2p l (fun i=>(((i:Int),()),())) (fun _=>false) ((),false) ((),true) (by omega) (fun i h => ?_) ?_ (by rw [X0f]; rfl)
 ·simp only [Int.ofNat_lt,Int.natCast_nonneg,h,Qd,Qt,and_self,Int.toNat_natCast,Q0x h (by omega),beq_self_eq_true,Bool.and_true]
  generalize (l.getD i (dflt T_runtime_errorAddressString)).fst=s
  have:(s==s)=true := Q7m s
  simp only [this,Bool.not_true,Qf]
 ·simp only [Int.ofNat_lt,Nat.lt_irrefl,decide_false,Qf]; rfl
theorem Q7n {S R:Type} {f:S→Option (S ⊕ R)} (I:S→Prop) (m:S→Nat) {n:Nat} {s:S} {r:R} (hI:I s) (hm:m s<n) (h:∀ s,I s → ∃ o,f s=some o∧LStep I m (fun q=>q=r) s o):loopO n f s=some r := by
 obtain ⟨q,e,rfl⟩ := Q9d I m (fun q=>q=r) h n s hI hm
 exact e
theorem X0g {lo hi:Nat} (h:lo+hi≤9223372036854775807):IntKind.wrap .i64 (Int.fdiv (IntKind.wrap .u64 (IntKind.wrap .i64 ((lo:Int)+(hi:Int)))) (2 ^ (min (Int.toNat (1:Int)) (IntKind.bits .u64))))=(((lo+hi) / 2:Nat):Int) := by
 have e1:IntKind.wrap .i64 ((lo:Int)+(hi:Int))=((lo+hi:Nat):Int) := by rw [Q4v (by omega) (by omega)]; omega
 have e2:IntKind.wrap .u64 ((lo+hi:Nat):Int)=((lo+hi:Nat):Int) := J2l (by omega) (by omega)
 have e3:(2:Int) ^ (min (Int.toNat (1:Int)) (IntKind.bits .u64))=2 := rfl
 have e4:Int.fdiv ((lo+hi:Nat):Int) 2=(((lo+hi) / 2:Nat):Int) := by
  rw [Int.fdiv_eq_ediv_of_nonneg _ (by omega)]; omega
 rw [e1,e2,e3,e4,Q4v (by omega) (by omega)]
def Rises (l:List Cn):Prop := l.Pairwise fun x y=>ky x.1<ky y.1
def isB (e:Cn) (x:Cn):Bool := !(x.1.toList==e.1.toList)
def insS:List Cn→Cn→List Cn
 | [],e=>[e]
 | x :: l,e=>bif Op.bytesLess x.1.toList e.1.toList then x :: insS l e else e :: (x :: l).filter (isB e)
theorem X0h {p:Prop} [Decidable p] {α:Type} {a:α} (h:p):(bif decide p then some a else none)=some a := by rw [decide_eq_true h]; rfl
theorem Q5o (e x:Cn):isB e x=true ↔ x.1 ≠ e.1 := by
 unfold isB; rw [X8o]; simp
theorem Q7o {α:Type} (l:List α) (d:α):copyL (List.replicate l.length d) 0 l.length l=l := by
 simp [copyL]
theorem X0i (l:List Cn) (hl:l.length≤2097152):p112 fu (l,())=some ((),l) := by
 unfold p112
 cases l with
 | nil=>rfl
 | cons a l =>
  have h0:(((a :: l).length:Int)==0)=false := by simp; omega
  have h1:(0:Int)≤((a :: l).length:Int)∧((a :: l).length:Int)≤((a :: l).length:Int)∧((a :: l).length:Int)≤9223372036854775807∧(24:Int) * ((a :: l).length:Int)≤140737488355328 := by omega
  simp only [h0,Qf,h1,and_self,Qd,Qt,Int.toNat_natCast,List.length_replicate,Q7o]
theorem X0j (a c:ByteArray) (x y:Int):p162 fu ((a,x,()),(c,y,()),())=some ((),cmpI a c) := rfl
def At (l:List Cn) (c:ByteArray) (n:Nat):Prop := n≤l.length∧(∀ k (h:k<l.length),k<n→ky l[k].1<ky c) ∧ ∀ k (h:k<l.length),n≤k → ¬ ky l[k].1<ky c
theorem X0k (c:ByteArray):∀ l:List Cn,Rises l → ∃ n,At l c n
 | [],_=>⟨0,Nat.le_refl _,fun k h=>absurd h (Nat.not_lt_zero _),fun k h=>absurd h (Nat.not_lt_zero _)⟩
 | x :: l,hr=>by
  obtain ⟨hx,hr'⟩ := List.pairwise_cons.1 hr
  by_cases h:ky x.1<ky c
  ·obtain ⟨n,h1,h2,h3⟩ := X0k c l hr'
   refine ⟨n+1,Nat.succ_le_succ h1,fun k hk hn => ?_,fun k hk hn => ?_⟩
   ·cases k with
    | zero=>exact h
    | succ k=>exact h2 k (Nat.lt_of_succ_lt_succ hk) (by omega)
   ·cases k with
    | zero=>omega
    | succ k=>exact h3 k (Nat.lt_of_succ_lt_succ hk) (by omega)
  ·refine ⟨0,Nat.zero_le _,fun k hk hn=>absurd hn (Nat.not_lt_zero _),fun k hk _ => ?_⟩
   cases k with
   | zero=>exact h
   | succ k=>exact fun g=>h (Q5n (hx _ (List.getElem_mem (Nat.lt_of_succ_lt_succ hk))) g)
theorem X8u (l:List Cn) (c:ByteArray) (f:Int) (n:Nat) (hl:l.length≤2097152) (hf:4194304<fu) (ha:At l c n) :
  p169 fu (l,(c,f,()),((),()),())=some ((),(n:Int),(if h:n<l.length then decide (l[n].1=c) else false),()) := by
 obtain ⟨hn,ha1,ha2⟩ := ha
 unfold p169
 refine Q7n (I := fun s => ∃ h i:Nat,s=(((h:Int),(i:Int),()),())∧h≤n∧n≤i∧i≤l.length) (m := fun s=>Int.toNat s.1.2.1-Int.toNat s.1.1) ⟨0,l.length,rfl,Nat.zero_le _,hn,Nat.le_refl _⟩ (by simp only [Int.toNat_natCast]; omega) fun s hs => ?_
 obtain ⟨h,i,rfl,h1,h2,h3⟩ := hs
 by_cases hlt:h<i
 ·have hm:(h+i) / 2<l.length := by omega
  have hg:∀ d,l.getD ((h+i) / 2) d=l[(h+i) / 2] := fun d=>Q0k hm
  simp only [X0g (lo := h) (hi := i) (by omega),Int.ofNat_lt,hlt,Int.natCast_nonneg,hm,Qd,Qt,and_self,Int.toNat_natCast,hg,X0j,Q0f,X0c]
  by_cases hc:ky l[(h+i) / 2].1<ky c
  ·simp only [hc,if_true,show decide ((-1:Int)<0)=true from rfl,Qt,Q0x hm (by omega)]
   refine ⟨_,rfl,⟨_,_,rfl,?_,h2,h3⟩,by simp only [Int.toNat_natCast]; omega⟩
   rcases Nat.lt_or_ge ((h+i) / 2) n with g | g
   ·exact g
   ·exact absurd hc (ha2 _ hm g)
  ·have hz:decide ((if ky c<ky l[(h+i) / 2].1 then (1:Int) else 0)<0)=false := by split <;> rfl
   simp only [hc,if_false,hz,Qf]
   refine ⟨_,rfl,⟨_,_,rfl,h1,?_,by omega⟩,by simp only [Int.toNat_natCast]; omega⟩
   rcases Nat.lt_or_ge ((h+i) / 2) n with g | g
   ·exact absurd (ha1 _ hm g) hc
   ·exact g
 ·obtain rfl:h=n := by omega
  simp only [Int.ofNat_lt,hlt,decide_false,Qf]
  by_cases hm:h<l.length
  ·have hg:∀ d,l.getD h d=l[h] := fun d=>Q0k hm
   simp only [hm,Int.natCast_nonneg,Qd,Qt,and_self,Int.toNat_natCast,hg,X0j,Q0f,X0c,ha2 _ hm (Nat.le_refl _),if_false,dite_true]
   refine ⟨_,rfl,?_⟩
   have:((if ky c<ky l[h].1 then (1:Int) else 0)==0)=decide (l[h].1=c) := by
    by_cases hx:ky c<ky l[h].1
    ·have:¬ l[h].1=c := fun e=>X0d _ (e ▸ hx)
     simp [hx,this]
    ·have:l[h].1=c := Q5k (Q7k (ha2 _ hm (Nat.le_refl _)) hx)
     simp [this]
   rw [this]
  ·simp only [hm,decide_false,Qf,dite_false]
   exact ⟨_,rfl,rfl⟩
theorem X0l {l:List Cn} {e:Cn} (h:∀ y ∈ l,y.1 ≠ e.1):l.filter (isB e)=l := List.filter_eq_self.2 fun y hy=>(Q5o e y).2 (h y hy)
theorem X0m {a b:ByteArray} (h:ky a<ky b):a ≠ b := fun e=>X0d _ (e ▸ h)
theorem X0n {x e:Cn} (h:¬ ky x.1<ky e.1):Op.bytesLess x.1.toList e.1.toList=false := by rw [Q5m,decide_eq_false h]
theorem X0o {x e:Cn} (h:ky x.1<ky e.1):Op.bytesLess x.1.toList e.1.toList=true := by rw [Q5m,decide_eq_true h]
theorem X0p (e:Cn):∀ (l:List Cn) (n:Nat),Rises l→At l e.1 n→insS l e=if h:n<l.length then (if l[n].1=e.1 then l.set n e else l.take n ++ [e] ++ l.drop n) else l.take n ++ [e] ++ l.drop n
 | [],n,_,h=>by
  obtain rfl:n=0 := Nat.le_zero.1 h.1
  rfl
 | x :: l,0,hr,h=>by
  obtain ⟨hx,hr'⟩ := List.pairwise_cons.1 hr
  have h0:¬ ky x.1<ky e.1 := h.2.2 0 (Nat.succ_pos _) (Nat.le_refl _)
  simp only [insS,X0n h0,Qf,List.length_cons,Nat.succ_pos,dite_true,List.getElem_cons_zero,List.set_cons_zero,List.take_zero,List.nil_append,List.drop_zero,List.filter_cons]
  by_cases hq:x.1=e.1
  ·have hk:isB e x=false := by rw [← Bool.not_eq_true,Q5o]; exact fun g=>g hq
   simp only [hq,if_true,hk,Bool.false_eq_true,if_false]
   rw [X0l fun y hy g=>X0m (hx y hy) (hq.trans g.symm)]
  ·have hk:isB e x=true := (Q5o e x).2 hq
   have hlt:ky e.1<ky x.1 := by
    rcases Classical.em (ky e.1<ky x.1) with g | g
    ·exact g
    ·exact absurd (Q5k (Q7k h0 g)) hq
   simp only [hq,if_false,hk,if_true]
   rw [X0l fun y hy g=>X0m (Q5n hlt (hx y hy)) g.symm]
   rfl
 | x :: l,n+1,hr,h=>by
  obtain ⟨hx,hr'⟩ := List.pairwise_cons.1 hr
  have h0:ky x.1<ky e.1 := h.2.1 0 (Nat.succ_pos _) (Nat.succ_pos _)
  have ha:At l e.1 n := ⟨Nat.le_of_succ_le_succ h.1,fun k hk hn=>h.2.1 (k+1) (Nat.succ_lt_succ hk) (Nat.succ_lt_succ hn),fun k hk hn=>h.2.2 (k+1) (Nat.succ_lt_succ hk) (Nat.succ_le_succ hn)⟩
  simp only [insS,X0o h0,Qt,X0p e l n hr' ha,List.length_cons,Nat.add_lt_add_iff_right,List.getElem_cons_succ,List.set_cons_succ,List.take_succ_cons,List.drop_succ_cons,List.cons_append]
  split
  ·split <;> rfl
  ·rfl
theorem Q4j {e y:Cn}:∀ {l:List Cn},y ∈ insS l e→y=e ∨ y ∈ l
 | [],h => .inl (List.mem_singleton.1 h)
 | x :: l,h=>by
  unfold insS at h
  cases hb:Op.bytesLess x.1.toList e.1.toList with
  | true =>
   rw [hb,Qt] at h
   rcases List.mem_cons.1 h with h | h
   ·exact .inr (h ▸ List.mem_cons_self)
   ·exact (Q4j h).imp id (List.mem_cons_of_mem _)
  | false =>
   rw [hb,Qf] at h
   exact (List.mem_cons.1 h).imp id fun h=>(List.mem_filter.1 h).1
theorem X0q {e:Cn}:∀ {l:List Cn},Rises l→Rises (insS l e)
 | [],_=>List.pairwise_singleton _ _
 | x :: l,hr=>by
  obtain ⟨hx,hr'⟩ := List.pairwise_cons.1 hr
  unfold insS
  by_cases h0:ky x.1<ky e.1
  ·rw [X0o h0,Qt]
   refine List.pairwise_cons.2 ⟨fun y hy => ?_,X0q hr'⟩
   rcases Q4j hy with rfl | hy
   ·exact h0
   ·exact hx y hy
  ·rw [X0n h0,Qf]
   refine List.pairwise_cons.2 ⟨fun y hy => ?_,hr.sublist (List.filter_sublist)⟩
   obtain ⟨hm,hb⟩ := List.mem_filter.1 hy
   have hne := (Q5o e y).1 hb
   have key:∀ z:Cn,¬ ky z.1<ky e.1→z.1 ≠ e.1→ky e.1<ky z.1 := fun z hz hn=>by
    rcases Classical.em (ky e.1<ky z.1) with g | g
    ·exact g
    ·exact absurd (Q5k (Q7k hz g)) hn
   refine key y (fun g => ?_) hne
   rcases List.mem_cons.1 hm with rfl | hm
   ·exact h0 g
   ·exact h0 (Q5n (hx y hm) g)
theorem X8v (l:List Cn) (c:ByteArray) (f:Int) (hr:Rises l) (hl:l.length≤2097151) (hf:4194304<fu):p161 fu (l,(c,f,()),((),()),())=some ((),insS l (c,f)) := by
 obtain ⟨n,ha⟩ := X0k c l hr
 rw [X0p (c,f) l n hr ha]
 have hn := ha.1
 unfold p161
 simp only [X8u l c f n (by omega) hf ha,X0i l (by omega),Q0f]
 have hins:pInsertC fu (l,(n:Int),[(c,f)],())=some (((),(),()),l.take n ++ [(c,f)] ++ l.drop n) := by
  unfold pInsertC
  exact X0h ⟨Int.natCast_nonneg _,by simpa using hn,by simp,by simp only [List.length_singleton]; omega⟩
 by_cases h:n<l.length
 ·by_cases hq:l[n].1=c
  ·simp only [h,hq,dite_true,Qd,Q0a,Qt,if_true,Int.natCast_nonneg,Int.ofNat_lt,and_self,Int.toNat_natCast,List.length_set]
  ·simp only [h,hq,dite_true,decide_false,Qf,if_false,hins,Q0f,Q0a,Qt]
 ·simp only [h,dite_false,Qf,hins,Q0f,Q0a,Qt]
/-! ### Commit -/
theorem X0r:∀ l:List Cn,(∀ i (h:i+1<l.length),ky (l[i]'(Nat.lt_of_succ_lt h)).1<ky l[i+1].1)→Rises l
 | [],_=>List.Pairwise.nil
 | [x],_=>List.pairwise_singleton _ _
 | x :: y :: l,h=>by
  have h1:Rises (y :: l) := X0r (y :: l) fun i hi=>h (i+1) (Nat.succ_lt_succ hi)
  have h2:ky x.1<ky y.1 := h 0 (Nat.succ_lt_succ (Nat.succ_pos _))
  refine List.pairwise_cons.2 ⟨fun z hz => ?_,h1⟩
  rcases List.mem_cons.1 hz with rfl | hz
  ·exact h2
  ·exact Q5n h2 ((List.pairwise_cons.1 h1).1 z hz)
theorem Q5p {l:List Cn} (h:okC l=true):Rises l∧l.length≤64 := by
 unfold okC at h
 cases hb:(List.range l.length).any (bad l) with
 | true=>rw [hb] at h; exact absurd h Bool.false_ne_true
 | false =>
  rw [hb,Qf] at h
  refine ⟨X0r l fun i hi => ?_,of_decide_eq_true h⟩
  have := List.any_eq_false.1 hb (i+1) (List.mem_range.2 hi)
  unfold bad at this
  have g1:∀ d,l.getD (i+1) d=l[i+1] := fun d=>Q0k hi
  have g2:∀ d,l.getD i d=l[i]'(Nat.lt_of_succ_lt hi) := fun d=>Q0k _
  simp only [g1,g2,Nat.succ_pos,Qd,Qt,Nat.add_sub_cancel,Q5m] at this
  cases hn:nameB l[i+1].1 with
  | false=>rw [hn] at this; exact absurd rfl this
  | true =>
   rw [hn] at this
   simpa using this
def commitS (l:List Cn) (c:ByteArray) (f h:Int):List Cn×Int :=
 bif !okC l then ([],1) else bif !nameB c then ([],142) else bif decide (f>h) then ([],141) else bif decide ((insS l (c,f)).length≤64) then (insS l (c,f),0) else ([],143)
theorem X8w (l:List Cn) (c:ByteArray) (f h:Int) (hl:okL l) (hc:c.size≤1048576) (hf:4194304<fu):p150 fu (l,(c,f,()),h,())=some ((),(commitS l c f h).1,(commitS l c f h).2,()) := by
 unfold p150 commitS
 simp only [X0e l hl hf,Q7l c hc (fu := fu) (by omega),Q0f]
 cases ho:okC l
 ·rfl
 cases nameB c
 ·rfl
 simp only [Bool.not_true,Qf]
 by_cases hh:f>h
 ·simp only [hh,Qd,Q0a,Qt]
 simp only [hh,decide_false,Qf,X8v l c f (Q5p ho).1 (by have := (Q5p ho).2; omega) hf,Q0f]
 by_cases h6:(insS l (c,f)).length≤64
 ·have h7:((insS l (c,f)).length:Int)≤64 := by omega
  simp only [h6,h7,Qd,Q0a,Qt]
 ·have h7:¬ ((insS l (c,f)).length:Int)≤64 := by omega
  simp only [h6,h7,decide_false,Qf]
abbrev Rd := D_api_Record
theorem Q2a {x:Int} (h1:0≤x) (h2:x<18446744073709551616):IntKind.wrap .u64 x=x := by
 show x % 18446744073709551616=x
 omega
/-! ### Logs -/
def noRec:Rd := (0,⟨#[]⟩,[],0,0)
def wrong (l:List Rd) (i:Nat):Bool := bif ((l.getD i noRec).1 != (i:Int)) then true else bif decide ((l.getD i noRec).2.1.size>32) then true else decide ((l.getD i noRec).2.2.1.length>256)
def logOk (l:List Rd):Bool := bif (List.range l.length).any (wrong l) then false else decide (l.length≤4096)
theorem X0s (a:Int) (c:ByteArray) (l:List Int) (x y:Int):p99 fu ((a,c,l,x,y,()),())=some ((),bif decide (c.size>32) then 131 else bif decide (l.length>256) then 144 else 0) := by
 unfold p99
 have h1:decide ((c.size:Int)>32)=decide (c.size>32) := decide_eq_decide.2 (by omega)
 have h2:decide ((l.length:Int)>256)=decide (l.length>256) := decide_eq_decide.2 (by omega)
 simp only [h1,h2]
 cases decide (c.size>32) <;> cases decide (l.length>256) <;> rfl
theorem Q7p (l:List Rd) (hl:l.length≤2097152) (hf:4194304<fu):p37 fu (l,())=some ((),logOk l) := by
 unfold p37 logOk
 refine Q2p (List.range l.length) (fun i=>(((i:Int),()),())) (wrong l) ((),false) ((),decide (l.length≤4096)) (by simp only [List.length_range]; omega) (fun i h => ?_) ?_ (by cases (List.range l.length).any (wrong l) <;> rfl)
 ·simp only [List.length_range] at h
  have hg:∀ d,l.getD i d=l[i] := fun d=>Q0k h
  have hw:IntKind.wrap .u64 (i:Int)=(i:Int) := Q2a (by omega) (by omega)
  simp only [List.getElem_range,Int.ofNat_lt,Int.natCast_nonneg,h,Qd,Qt,and_self,Int.toNat_natCast,hg,hw,X0s,Q0f,Q0x h (by omega),wrong]
  cases (l[i].1 != (i:Int))
  ·simp only [Qf]
   cases decide (l[i].2.1.size>32) <;> cases decide (l[i].2.2.1.length>256) <;> rfl
  ·rfl
 ·simp only [List.length_range,Int.ofNat_lt,Nat.lt_irrefl,decide_false,Qf]
  have h3:decide ((l.length:Int)≤4096)=decide (l.length≤4096) := decide_eq_decide.2 (by omega)
  rw [h3]; rfl
theorem X8x (l:List Int) (h:l.length≤140737488355328):p172 fu (l,())=some ((),l) := by
 unfold p172
 cases l with
 | nil=>rfl
 | cons a l =>
  have h0:(((a :: l).length:Int)==0)=false := beq_eq_false_iff_ne.2 (by simp only [List.length_cons]; omega)
  have h1:(0:Int)≤((a :: l).length:Int)∧((a :: l).length:Int)≤((a :: l).length:Int)∧((a :: l).length:Int)≤9223372036854775807∧(1:Int) * ((a :: l).length:Int)≤140737488355328 := by omega
  simp only [h0,Qf,h1,and_self,Qd,Qt,Int.toNat_natCast,List.length_replicate,Q7o]
def numR (n:List Rd) (x:Rd):Rd := ((n.length:Int),x.2.1,x.2.2.1,x.2.2.2.1,x.2.2.2.2)
theorem X8y (n:List Rd) (x:Rd) (hn:n.length≤2097152) (hx:x.2.2.1.length≤140737488355328):p159 fu (n,(x.1,x.2.1,x.2.2.1,x.2.2.2.1,x.2.2.2.2,()),())=some (((),()),n ++ [numR n x]) := by
 unfold p159 p165
 have hw:IntKind.wrap .u64 (n.length:Int)=(n.length:Int) := Q2a (by omega) (by omega)
 simp only [X8x _ hx,Q0f,Q0a,Qt,hw]
 exact X0h ⟨by unfold maxLen; simp only [List.length_singleton]; omega,by simp only [List.length_singleton]; omega⟩
def befB (c f:ByteArray):Bool := bif (ByteArray.toList c==ByteArray.toList (⟨#[]⟩:ByteArray)) then true else !(Op.bytesLess (ByteArray.toList c) (ByteArray.toList f)||ByteArray.toList c==ByteArray.toList f)
def chkB (a c:ByteArray):Int := bif !decide ((a.size:Int)≤32) then 131 else bif !decide ((c.size:Int)≤32) then 131 else bif !befB c a then 132 else 0
def hasB (a c f:ByteArray):Bool := bif (chkB a c==0) then (bif decide ((f.size:Int)≤32) then (bif !Op.bytesLess f.toList a.toList then befB c f else false) else false) else false
theorem X0t (c f:ByteArray):p98 fu ((c,ByteArray.toList c==ByteArray.toList (⟨#[]⟩:ByteArray),()),f,())=some ((),befB c f) := by
 unfold p98 befB
 cases (ByteArray.toList c==ByteArray.toList (⟨#[]⟩:ByteArray)) <;> rfl
theorem X0u (a c:ByteArray):p36 fu ((a,c,()),())=some ((),chkB a c) := by
 unfold p36 chkB
 simp only [p96,p97,Q0f,X0t]
 cases decide ((a.size:Int)≤32)
 ·rfl
 cases decide ((c.size:Int)≤32)
 ·rfl
 cases befB c a <;> rfl
theorem X0v (a c f:ByteArray):p106 fu ((a,c,()),f,())=some ((),hasB a c f) := by
 unfold p106 hasB
 simp only [X0u,p96,p97,Q0f,X0t]
 cases (chkB a c==0)
 ·rfl
 cases decide ((f.size:Int)≤32)
 ·rfl
 cases Op.bytesLess f.toList a.toList <;> rfl
theorem X0w (l:List Rd) (hl:l.length≤2097152) (hf:4194304<fu):p70 fu (l,l,())=some ((),true) := by
 unfold p70
 simp only [bne_self_eq_false,Qf]
 refine Q2p l (fun i=>(((i:Int),()),())) (fun _=>false) ((),false) ((),true) (by omega) (fun i h => ?_) ?_ (by rw [X0f]; rfl)
 ·simp only [Int.ofNat_lt,Int.natCast_nonneg,h,Qd,Qt,and_self,Int.toNat_natCast,Q0x h (by omega),Qf,beq_self_eq_true,Bool.not_true]
 ·simp only [Int.ofNat_lt,Nat.lt_irrefl,decide_false,Qf]; rfl
end
section
variable {fu:Nat}
abbrev Pr := Int×Int×Bool×Int
def seqB (s:Int):Bool := decide (1≤s) && decide (s≤9223372036854775807)
def cmpZ (a b:Int):Int := if a<b then -1 else if a>b then 1 else 0
theorem X0x (s:Int):p101 fu (s,())=some ((),seqB s) := by
 unfold p101 seqB
 by_cases h:1≤s
 ·simp [h]
 ·simp [h]
theorem X8z (a:Int):p140 fu (a,())=some ((),false) := by simp [p140]
theorem X0y (a b:Int):p105 fu (a,b,())=some ((),cmpZ a b) := by
 simp only [p105,X8z,Q0f,Qf]
 unfold cmpZ
 by_cases h:a<b
 ·simp [h]
 ·by_cases h2:a>b
  ·simp [h,h2]
  ·simp [h,h2]
theorem X0z (x y:Pr):p100 fu ((x.1,x.2.1,x.2.2.1,x.2.2.2,()),(y.1,y.2.1,y.2.2.1,y.2.2.2,()),())=some ((),cmpZ x.1 y.1) := by
 simp only [p100,X0y,Q0f]
def findI (l:List Pr) (id:Int):Nat := l.findIdx fun x=>x.1==id
theorem X9a {l:List Pr} {id:Int} {i:Nat} (h:i≤findI l id) (hi:i<l.length) (hx:(l[i].1==id)=true):findI l id=i := by
 rcases Nat.lt_or_ge i (findI l id) with h1 | h1
 ·have := List.not_of_lt_findIdx h1
  rw [hx] at this; simp at this
 ·omega
theorem X9b {l:List Pr} {id:Int} {i:Nat} (h:i≤findI l id) (hi:i<l.length) (hx:(l[i].1==id)=false):i+1≤findI l id := by
 rcases Nat.lt_or_ge i (findI l id) with h1 | h1
 ·exact h1
 ·exfalso
  have e:findI l id=i := by omega
  have hw:findI l id<l.length := by omega
  have := List.findIdx_getElem (w := hw)
  simp only [show l.findIdx (fun x=>x.1==id)=i from e] at this
  rw [hx] at this; cases this
theorem X1a (l:List Pr) (id:Int):findI l id≤l.length := List.findIdx_le_length
theorem X9c (l:List Pr) (id:Int) (hl:l.length≤9223372036854775806) (hf:l.length<fu) :
  p163 fu (l,((),((id,()),())),())=some (((id,()),()),(((findI l id:Nat):Int),decide (findI l id<l.length),())) := by
 unfold p163
 refine Q2g (I := fun s => ∃ i:Nat,s=(((i:Int),()),())∧i≤l.length∧i≤findI l id) (m := fun s=>l.length-s.1.1.toNat)
  (g := fun _=>(((id,()),()),(((findI l id:Nat):Int),decide (findI l id<l.length),()))) ?_ fu _ ⟨0,rfl,Nat.zero_le _,Nat.zero_le _⟩ (by simpa using hf)
 rintro s ⟨i,rfl,h1,h2⟩
 by_cases hi:i<l.length
 ·cases hx:(l[i].1==id) with
  | true =>
   right
   have e := X9a h2 hi hx
   simp [hi,p164,inrO,hx,e]
  | false =>
   left
   refine ⟨((((i+1:Nat):Int),()),()),?_,⟨i+1,rfl,hi,X9b h2 hi hx⟩,?_,rfl⟩
   ·simp [hi,p164,hx,Q0x hi (by omega)]
   ·simp; omega
 ·right
  have e:i=l.length := by omega
  have e2:findI l id=l.length := by have := X1a l id; omega
  subst e
  simp [inrO,e2]
def find (l:List Pr) (id:Int):Option Pr := l.find? fun x=>x.1==id
theorem X1b (l:List Pr) (id:Int) (d:Pr):find l id=if findI l id<l.length then some (l.getD (findI l id) d) else none := by
 unfold find findI
 induction l with
 | nil=>rfl
 | cons x l ih =>
  rw [List.find?_cons,List.findIdx_cons]
  cases hx:(x.1==id) with
  | true=>simp
  | false =>
   simp only [Qf,List.length_cons,Nat.add_lt_add_iff_right,List.getD_cons_succ]
   exact ih
def judge (l:List Pr) (id seq:Int):Int×Int :=
 if id=0 then (4,0) else if seqB seq=false then (4,0) else match find l id with
  | none=>(1,0)
  | some x=>if seq>x.2.1 then (1,0) else if seq=x.2.1∧x.2.2.1=true then (2,x.2.2.2) else (3,0)
theorem Q7q (l:List Pr) (id seq:Int) (hl:l.length≤9223372036854775806) (hf:l.length<fu):p157 fu (l,id,seq,())=some ((),((judge l id seq).1,(judge l id seq).2,())) := by
 unfold p157 judge
 by_cases h0:id=0
 ·simp [h0]
 ·simp only [h0,if_false,show (id==(0:Int))=false by simpa using h0,Qf,X0x,Q0f]
  cases hs:seqB seq with
  | false=>simp
  | true =>
   simp only [Bool.not_true,Qf,X9c l id hl hf,Q0f,Bool.true_eq_false,if_false,X1b l id (dflt T_api_Producer)]
   by_cases hk:findI l id<l.length
   ·simp only [hk,Qd,Bool.not_true,Qf,if_true,Int.toNat_natCast,Int.natCast_nonneg,true_and,Int.ofNat_lt,Qt,Q0e]
    by_cases h1:seq>(l.getD (findI l id) (dflt T_api_Producer)).2.1
    ·simp only [h1,Qd,Qt,if_true]
    ·by_cases h2:seq=(l.getD (findI l id) (dflt T_api_Producer)).2.1
     ·have h3:(seq==(l.getD (findI l id) (dflt T_api_Producer)).2.1)=true := by rw [← h2]; exact beq_self_eq_true _
      simp only [h1,h3,decide_false,Qf,Qt,if_false,Q0e,eq_true h2,true_and]
      cases (l.getD (findI l id) (dflt T_api_Producer)).2.2.1 <;> simp
     ·have h3:(seq==(l.getD (findI l id) (dflt T_api_Producer)).2.1)=false := by simpa using h2
      simp only [h1,h2,h3,decide_false,Qf,if_false,Q0e,false_and]
   ·simp [hk,orK]
def okP (x:Pr):Bool := !(x.1==0) && (seqB x.2.1 && (x.2.2.1||x.2.2.2==0))
def rowOK (l:List Pr) (i:Nat):Bool := (i==0||decide ((l.getD (i-1) (dflt T_api_Producer)).1<(l.getD i (dflt T_api_Producer)).1)) && okP (l.getD i (dflt T_api_Producer))
def tabI (l:List Pr):Bool := (List.range l.length).all (rowOK l) && decide (l.length≤256)
theorem X9d {l:List Pr} {i:Nat} (hi:i<l.length) (h:rowOK l i=false):tabI l=false := by
 unfold tabI
 have:(List.range l.length).all (rowOK l)=false := by
  rw [List.all_eq_false]
  exact ⟨i,List.mem_range.2 hi,by simp [h]⟩
 rw [this]; rfl
theorem X1c (a b:Int):decide (cmpZ a b<0)=decide (a<b) := by
 unfold cmpZ
 by_cases h:a<b
 ·simp [h]
 ·by_cases h2:a>b
  ·simp [h,h2]
  ·simp [h,h2]
theorem X1d (l:List Pr) (hl:l.length≤9223372036854775806) (hf:l.length<fu):p38 fu (l,())=some ((),tabI l) := by
 unfold p38
 refine Q2g (I := fun s => ∃ i:Nat,s=(((i:Int),()),())∧i≤l.length ∧ ∀ j,j<i→rowOK l j=true) (m := fun s=>l.length-s.1.1.toNat)
  (g := fun _=>((),tabI l)) ?_ fu _ ⟨0,rfl,Nat.zero_le _,fun j hj=>absurd hj (Nat.not_lt_zero _)⟩ (by simpa using hf)
 rintro s ⟨i,rfl,h1,h2⟩
 by_cases hi:i<l.length
 ·-- what stands ahead of it
  have hd:∀ {R:Type} (k:(Bool×Unit)×Unit→Option R),orK (E := (Bool×Unit)×Unit)
    (bif ((i:Int)==(0:Int)) then some (.inl ((true,()),())) else
     bif decide ((0:Int)≤IntKind.wrap .i64 ((i:Int)-(1:Int))∧IntKind.wrap .i64 ((i:Int)-(1:Int))<(List.length l:Int)) then
      bif decide (Int.toNat (IntKind.wrap .i64 ((i:Int)-(1:Int)))<List.length l) then
       Option.bind (p100 fu (((List.getD l (Int.toNat (IntKind.wrap .i64 ((i:Int)-(1:Int)))) (dflt T_api_Producer)).1,((List.getD l (Int.toNat (IntKind.wrap .i64 ((i:Int)-(1:Int)))) (dflt T_api_Producer)).2).1,(((List.getD l (Int.toNat (IntKind.wrap .i64 ((i:Int)-(1:Int)))) (dflt T_api_Producer)).2).2).1,(((List.getD l (Int.toNat (IntKind.wrap .i64 ((i:Int)-(1:Int)))) (dflt T_api_Producer)).2).2).2,()),((List.getD l i (dflt T_api_Producer)).1,((List.getD l i (dflt T_api_Producer)).2).1,(((List.getD l i (dflt T_api_Producer)).2).2).1,(((List.getD l i (dflt T_api_Producer)).2).2).2,()),())) fun ⟨_,r33⟩ =>
       some (.inl ((decide (r33<(0:Int)),()),()))
      else none
     else none) k=k ((i==0||decide ((l.getD (i-1) (dflt T_api_Producer)).1<(l.getD i (dflt T_api_Producer)).1),()),()) := by
   intro R k
   by_cases h0:i=0
   ·subst h0; simp [orK]
   ·have hw := X4y (i := i) (by omega) (by omega)
    have hlt:i-1<l.length := by omega
    have h0':((i:Int)==0)=false := by simpa using h0
    have h0'':(i==0)=false := by simpa using h0
    simp only [h0',h0'',Qf,hw,Int.natCast_nonneg,Int.ofNat_lt,hlt,true_and,Qd,Qt,Int.toNat_natCast,X0z,Q0f,Q0e,X1c,Bool.false_or]
  simp only [Int.ofNat_lt,hi,Qd,Qt,Int.natCast_nonneg,true_and,Int.toNat_natCast,hd]
  generalize hb:(i==0||decide ((l.getD (i-1) (dflt T_api_Producer)).1<(l.getD i (dflt T_api_Producer)).1))=b
  generalize hx:l.getD i (dflt T_api_Producer)=x
  obtain ⟨x1,x2,x3,x4⟩ := x
  have hrow:rowOK l i=(b && okP (x1,x2,x3,x4)) := by unfold rowOK; rw [hb,hx]
  have bad:rowOK l i=false→((),tabI l)=((),false) := fun h=>by rw [X9d hi h]
  have good:rowOK l i=true→(∃ s':((Int×Unit)×Unit),(some (.inl ((IntKind.wrap .i64 ((i:Int)+(1:Int)),()),())):Option (((Int×Unit)×Unit) ⊕ (Unit×Bool)))=some (.inl s') ∧
    (∃ i:Nat,s' = (((i:Int),()),())∧i≤l.length ∧ ∀ j,j<i→rowOK l j=true)∧l.length-s'.1.1.toNat<l.length-i∧((),tabI l)=((),tabI l)) := fun h =>
   ⟨((((i+1:Nat):Int),()),()),by rw [Q0x hi (by omega)],⟨i+1,rfl,hi,fun j hj=>by
     rcases Nat.lt_succ_iff_lt_or_eq.1 hj with h' | rfl
     ·exact h2 j h'
     ·exact h⟩,by simp; omega,rfl⟩
  simp only [okP] at hrow
  by_cases hz:x1=0
  ·right; rw [bad (by rw [hrow]; simp [hz])]; simp [hz,inrO]
  ·have hz':(x1==(0:Int))=false := by simpa using hz
   simp only [hz',Qf,X0x,Q0f,Bool.not_false,Bool.true_and] at hrow ⊢
   cases hs:seqB x2 with
   | false=>right; rw [bad (by rw [hrow,hs]; simp)]; simp [inrO]
   | true =>
    cases b with
    | false=>right; rw [bad (by rw [hrow]; simp)]; simp [inrO]
    | true =>
     cases x3 with
     | true =>
      have hr:rowOK l i=true := by rw [hrow,hs]; rfl
      left; simpa using good hr
     | false =>
      by_cases h4:x4=0
      ·have hr:rowOK l i=true := by rw [hrow,hs]; simp [h4]
       left; simpa [h4] using good hr
      ·right; rw [bad (by rw [hrow,hs]; simp [h4])]
       have h4':(x4 != (0:Int))=true := by simpa using h4
       simp [h4',inrO]
 ·right
  have e:i=l.length := by omega
  subst e
  have:(List.range l.length).all (rowOK l)=true := List.all_eq_true.2 fun j hj=>h2 j (List.mem_range.1 hj)
  simp [inrO,tabI,this]
  omega
def mrg (both:Pr→Pr→Pr):Nat→List Pr→List Pr→List Pr
 | 0,a,b=>a ++ b
 | _+1,[],b=>b
 | _+1,x :: a,[]=>x :: a
 | n+1,x :: a,y :: b=>if x.1<y.1 then x :: mrg both n a (y :: b) else if x.1>y.1 then y :: mrg both n (x :: a) b else both x y :: mrg both n a b
def newest (_ y:Pr):Pr := y
theorem X9e (x y:Pr):p166 fu ((x.1,x.2.1,x.2.2.1,x.2.2.2,()),(y.1,y.2.1,y.2.2.1,y.2.2.2,()),())=some ((),((newest x y).1,(newest x y).2.1,(newest x y).2.2.1,(newest x y).2.2.2,())) := rfl
theorem Q3o (both:Pr→Pr→Pr):∀ (n m:Nat) (a b:List Pr),a.length+b.length≤n→a.length+b.length≤m→mrg both n a b=mrg both m a b
 | 0,m,a,b,h,_=>by
  have ha:a=[] := List.eq_nil_of_length_eq_zero (by omega)
  have hb:b=[] := List.eq_nil_of_length_eq_zero (by omega)
  subst ha hb
  cases m <;> rfl
 | n+1,0,a,b,_,h=>by
  have ha:a=[] := List.eq_nil_of_length_eq_zero (by omega)
  have hb:b=[] := List.eq_nil_of_length_eq_zero (by omega)
  subst ha hb
  rfl
 | n+1,m+1,[],b,_,_=>rfl
 | n+1,m+1,x :: a,[],_,_=>rfl
 | n+1,m+1,x :: a,y :: b,h1,h2=>by
  simp only [List.length_cons] at h1 h2
  simp only [mrg]
  rw [Q3o both n m a (y :: b) (by simp; omega) (by simp; omega),Q3o both n m (x :: a) b (by simp; omega) (by simp; omega),Q3o both n m a b (by omega) (by omega)]
def merge (both:Pr→Pr→Pr) (a b:List Pr):List Pr := mrg both (a.length+b.length) a b
theorem X1e (both:Pr→Pr→Pr) (b:List Pr):merge both [] b=b := by
 unfold merge
 cases b <;> rfl
theorem Q7r (both:Pr→Pr→Pr) (a:List Pr):merge both a []=a := by
 unfold merge
 cases a <;> rfl
theorem X1f (both:Pr→Pr→Pr) (x y:Pr) (a b:List Pr):merge both (x :: a) (y :: b)=if x.1<y.1 then x :: merge both a (y :: b) else if x.1>y.1 then y :: merge both (x :: a) b else both x y :: merge both a b := by
 unfold merge
 have e:(x :: a).length+(y :: b).length=(a.length+b.length+1)+1 := by simp; omega
 rw [e]
 simp only [mrg]
 rw [Q3o both (a.length+b.length+1) (a.length+(y :: b).length) a (y :: b) (by simp; omega) (by omega),
  Q3o both (a.length+b.length+1) ((x :: a).length+b.length) (x :: a) b (by simp; omega) (by omega),
  Q3o both (a.length+b.length+1) (a.length+b.length) a b (by omega) (by omega)]
theorem X9f (l r:List Pr) (hb:(l.length+r.length) * 32≤140737488355328) (hf:l.length+r.length<fu) :
  p168 fu (l,r,((),()),((),()),())=some ((),merge newest l r) := by
 unfold p168
 refine K7l (I := fun s => ∃ v0 v1 v9:List Pr,s=((v0,v1,v9,()),())∧v9 ++ merge newest v0 v1=merge newest l r∧v9.length+v0.length+v1.length≤l.length+r.length)
   (m := fun s=>s.1.1.length+s.1.2.1.length)
   (Q := fun z => ∃ v0 v1 v9:List Pr,z = .inl ((v0,v1,v9,()),())∧(v0=[] ∨ v1=[])∧v9 ++ merge newest v0 v1=merge newest l r∧v9.length+v0.length+v1.length≤l.length+r.length)
   ⟨l,r,[],rfl,rfl,by simp⟩ (by simpa using hf) ?_ ?_
 ·rintro s ⟨v0,v1,v9,rfl,h1,h2⟩
  cases v0 with
  | nil=>exact ⟨.inr (.inl (([],v1,v9,()),())),by simp [inrO,Q0a],[],v1,v9,rfl,.inl rfl,h1,h2⟩
  | cons x a =>
   cases v1 with
   | nil=>exact ⟨.inr (.inl ((x :: a,[],v9,()),())),by simp [inrO,Q0a],x :: a,[],v9,rfl,.inr rfl,h1,h2⟩
   | cons y b =>
    rw [X1f] at h1
    simp only [List.length_cons] at h2
    have hp := X0z (fu := fu) x y
    have hm:v9.length+1≤maxLen∧(v9.length+1) * 32≤140737488355328 := by unfold maxLen; omega
    by_cases c1:x.1<y.1
    ·rw [if_pos c1] at h1
     have hc:cmpZ x.1 y.1 = -1 := by simp [cmpZ,c1]
     refine ⟨.inl ((a,y :: b,v9 ++ [x],()),()),?_,⟨a,y :: b,v9 ++ [x],rfl,by simpa using h1,by simp; omega⟩,by simp⟩
     simp [hp,hc,hm,Q0a]
    ·rw [if_neg c1] at h1
     by_cases c2:x.1>y.1
     ·rw [if_pos c2] at h1
      have hc:cmpZ x.1 y.1=1 := by simp [cmpZ,c1,c2]
      refine ⟨.inl ((x :: a,b,v9 ++ [y],()),()),?_,⟨x :: a,b,v9 ++ [y],rfl,by simpa using h1,by simp; omega⟩,by simp⟩
      simp [hp,hc,hm,Q0a]
     ·rw [if_neg c2] at h1
      have hc:cmpZ x.1 y.1=0 := by simp [cmpZ,c1,c2]
      refine ⟨.inl ((a,b,v9 ++ [newest x y],()),()),?_,⟨a,b,v9 ++ [newest x y],rfl,by simpa using h1,by simp; omega⟩,by simp; omega⟩
      simp [hp,hc,hm,X9e,newest,Q0a]
 rintro z ⟨v0,v1,v9,rfl,h1,h2,h3⟩
 simp only [Q0e,Q0a,Qt]
 have b1:v9.length+v0.length≤maxLen∧(v9.length+v0.length) * 32≤140737488355328 := by unfold maxLen; omega
 have b2:(v9 ++ v0).length+v1.length≤maxLen∧((v9 ++ v0).length+v1.length) * 32≤140737488355328 := by unfold maxLen; simp; omega
 simp only [b1,b2,and_self,Qd,Qt]
 rcases h1 with rfl | rfl
 ·rw [X1e] at h2; simp [h2]
 ·rw [Q7r] at h2; simp [h2]
def SP (l:List Pr):Prop := l.Pairwise fun a b=>a.1<b.1
theorem Q4k (l:List Pr):tabI l=true ↔ (∀ x ∈ l,okP x=true)∧SP l∧l.length≤256 := by
 unfold tabI
 simp only [Bool.and_eq_true,List.all_eq_true,List.mem_range,decide_eq_true_eq]
 constructor
 ·rintro ⟨h1,h2⟩
  refine ⟨fun x hx => ?_,?_,h2⟩
  ·obtain ⟨i,hi,rfl⟩ := List.getElem_of_mem hx
   have := h1 i hi
   unfold rowOK at this
   rw [Q0k hi] at this
   simp only [Bool.and_eq_true] at this
   exact this.2
  ·have step:∀ i (hi:i+1<l.length),(l[i]'(by omega)).1<l[i+1].1 := fun i hi=>by
    have := h1 (i+1) hi
    unfold rowOK at this
    simp only [Bool.and_eq_true] at this
    have h3 := this.1
    rw [show i+1-1=i by omega,Q0k hi,Q0k (show i<l.length by omega)] at h3
    simpa using h3
   unfold SP
   rw [List.pairwise_iff_getElem]
   have key:∀ d i (hi:i+d+1<l.length),(l[i]'(by omega)).1<(l[i+d+1]'hi).1 := by
    intro d
    induction d with
    | zero=>intro i hi; exact step i hi
    | succ d ih =>
     intro i hi
     have h1 := ih i (by omega)
     have h2 := step (i+d+1) (by omega)
     have e:i+(d+1)+1=i+d+1+1 := by omega
     simp only [e]
     omega
   intro i j hi hj hij
   have := key (j-i-1) i (by omega)
   have e:i+(j-i-1)+1=j := by omega
   simp only [e] at this
   exact this
 ·rintro ⟨h1,h2,h3⟩
  refine ⟨fun i hi => ?_,h3⟩
  unfold rowOK
  rw [Q0k hi]
  simp only [Bool.and_eq_true]
  refine ⟨?_,h1 _ (List.getElem_mem _)⟩
  cases i with
  | zero=>rfl
  | succ i =>
   have := (List.pairwise_iff_getElem.1 h2) i (i+1) (by omega) hi (by omega)
   rw [show i+1-1=i by omega,Q0k (show i<l.length by omega)]
   simp [this]
def ins (l:List Pr) (x:Pr):List Pr := merge newest l [x]
theorem Q7s (x:Pr):ins [] x=[x] := X1e _ _
theorem Q7t (y x:Pr) (l:List Pr):ins (y :: l) x=if y.1<x.1 then y :: ins l x else if y.1>x.1 then x :: y :: l else x :: l := by
 unfold ins
 rw [X1f,Q7r,Q7r]; rfl
theorem Q3e {x z:Pr}:∀ {l:List Pr},z ∈ ins l x→z=x ∨ z ∈ l
 | [],h=>by rw [Q7s] at h; exact .inl (by simpa using h)
 | y :: l,h=>by
  rw [Q7t] at h
  split at h
  ·rcases List.mem_cons.1 h with rfl | h
   ·exact .inr (List.mem_cons_self ..)
   ·rcases Q3e h with h | h
    ·exact .inl h
    ·exact .inr (List.mem_cons_of_mem _ h)
  ·split at h
   ·rcases List.mem_cons.1 h with h | h
    ·exact .inl h
    ·exact .inr h
   ·rcases List.mem_cons.1 h with h | h
    ·exact .inl h
    ·exact .inr (List.mem_cons_of_mem _ h)
theorem X1g {x:Pr}:∀ {l:List Pr},SP l→SP (ins l x)
 | [],_=>by rw [Q7s]; exact List.pairwise_singleton ..
 | y :: l,h=>by
  rw [Q7t]
  have h' := List.pairwise_cons.1 h
  split
  ·rename_i c
   refine List.pairwise_cons.2 ⟨fun z hz => ?_,X1g h'.2⟩
   rcases Q3e hz with rfl | hz
   ·exact c
   ·exact h'.1 z hz
  ·split
   ·rename_i c1 c2
    refine List.pairwise_cons.2 ⟨fun z hz => ?_,h⟩
    rcases List.mem_cons.1 hz with rfl | hz
    ·exact c2
    ·have := h'.1 z hz; omega
   ·rename_i c1 c2
    refine List.pairwise_cons.2 ⟨fun z hz => ?_,h'.2⟩
    have := h'.1 z hz; omega
theorem Q3p (y:Pr) (l:List Pr) (id:Int):find (y :: l) id=if y.1=id then some y else find l id := by
 unfold find
 rw [List.find?_cons]
 by_cases h:y.1=id
 ·simp [h]
 ·have:(y.1==id)=false := by simpa using h
  simp [h,this]
theorem Q5q (x:Pr) (id:Int):∀ l:List Pr,find (ins l x) id=if x.1=id then some x else find l id
 | []=>by rw [Q7s,Q3p]
 | y :: l=>by
  rw [Q7t,Q3p]
  split
  ·rename_i c
   rw [Q3p,Q5q x id l]
   by_cases h:y.1=id
   ·rw [if_pos h,if_neg (by omega),if_pos h]
   ·rw [if_neg h]
    by_cases h2:x.1=id
    ·rw [if_pos h2,if_pos h2]
    ·rw [if_neg h2,if_neg h2,if_neg h]
  ·split
   ·rw [Q3p,Q3p]
   ·rename_i c1 c2
    rw [Q3p]
    by_cases h2:x.1=id
    ·rw [if_pos h2,if_pos h2]
    ·rw [if_neg h2,if_neg h2,if_neg (by omega)]
theorem X9g {l:List Pr} {x:Pr} (h:tabI l=true) (hx:okP x=true) (hl:(ins l x).length≤256):tabI (ins l x)=true := by
 rw [Q4k] at h ⊢
 refine ⟨fun z hz => ?_,X1g h.2.1,hl⟩
 rcases Q3e hz with rfl | hz
 ·exact hx
 ·exact h.1 z hz
def putS (l:List Pr) (x:Pr):List Pr×Int :=
 if tabI l=false then ([],1) else if (judge l x.1 x.2.1).1=4 then ([],151) else if (judge l x.1 x.2.1).1=2 then ([],152) else if (judge l x.1 x.2.1).1=3 then ([],152)
 else if (ins l x).length>256 then ([],153) else (ins l x,0)
theorem X1h (l:List Pr) (x:Pr) (hl:l.length≤9223372036854775806) (hf:l.length+1<fu):p160 fu (l,(x.1,x.2.1,x.2.2.1,x.2.2.2,()),())=some ((),((putS l x).1,(putS l x).2,())) := by
 unfold p160 putS
 have e16 := X1d (fu := fu) l hl (by omega)
 have e11 := Q7q (fu := fu) l x.1 x.2.1 hl (by omega)
 simp only [e16,Q0f]
 cases ht:tabI l with
 | false=>simp
 | true =>
  have h256:l.length≤256 := ((Q4k l).1 ht).2.2
  simp only [Bool.not_true,Qf,e11,Q0f,Bool.true_eq_false,if_false]
  by_cases h4:(judge l x.1 x.2.1).1=4
  ·simp [h4]
  ·by_cases h2:(judge l x.1 x.2.1).1=2
   ·simp [h2]
   ·by_cases h3:(judge l x.1 x.2.1).1=3
    ·simp [h3]
    ·have e4:((judge l x.1 x.2.1).1==(4:Int))=false := by simpa using h4
     have e2:((judge l x.1 x.2.1).1==(2:Int))=false := by simpa using h2
     have e3:((judge l x.1 x.2.1).1==(3:Int))=false := by simpa using h3
     have hm := X9f (fu := fu) l [x] (by simp; omega) (by simpa using hf)
     simp only [e4,e2,e3,h4,h2,h3,Qf,if_false]
     have hm':p168 fu (l,[(x.1,x.2.1,x.2.2.1,x.2.2.2)],((),()),((),()),())=some ((),ins l x) := hm
     simp only [hm',Q0f,Q0a,Qt,p167_1]
     by_cases h5:(ins l x).length>256
     ·have h5':((ins l x).length:Int)>256 := by omega
      simp [h5,h5']
     ·have h5':¬ ((ins l x).length:Int)>256 := by omega
      simp [h5,h5']
theorem X9h (l:List Pr) (id seq off:Int) (hl:l.length≤9223372036854775806) (hf:l.length+1<fu):p148 fu (l,id,seq,off,())=some ((),((putS l (id,seq,true,off)).1,(putS l (id,seq,true,off)).2,())) := by
 unfold p148
 have := X1h (fu := fu) l (id,seq,true,off) hl hf
 simp only at this
 simp only [this,Q0f,Q0a,Qt]
theorem X9i (l:List Pr) (hl:l.length≤9223372036854775806) (hf:l.length<fu):p71 fu (l,l,())=some ((),true) := by
 unfold p71
 simp only [bne_self_eq_false,Qf]
 refine Q2g (I := fun s => ∃ i:Nat,s=(((i:Int),()),())∧i≤l.length) (m := fun s=>l.length-s.1.1.toNat) (g := fun _=>((),true)) ?_ fu _ ⟨0,rfl,Nat.zero_le _⟩ (by simpa using hf)
 rintro s ⟨i,rfl,h1⟩
 by_cases hi:i<l.length
 ·left
  refine ⟨((((i+1:Nat):Int),()),()),?_,⟨i+1,rfl,hi⟩,by simp only [Int.toNat_natCast]; omega,rfl⟩
  simp only [Int.ofNat_lt,hi,Qd,Qt,Int.natCast_nonneg,true_and,Int.toNat_natCast,beq_self_eq_true,Bool.and_self,Bool.not_true,Qf,Q0x hi (by omega)]
 ·right
  obtain rfl:i=l.length := by omega
  simp [inrO]
theorem X9j (l:List Pr) (id seq:Int) (hl:l.length≤9223372036854775806) (hf:l.length+1<fu):p151 fu (l,id,seq,())=some ((),((putS l (id,seq,false,0)).1,(putS l (id,seq,false,0)).2,())) := by
 unfold p151
 have := X1h (fu := fu) l (id,seq,false,0) hl hf
 simp only at this
 simp only [this,Q0f,Q0a,Qt]
end
section
variable {fu:Nat}
theorem X9k (a b:List Int) (h:a.length+b.length≤140737488355328):p144 fu ((a,()),b,())=some (((a ++ b,()),(),()),b) := by
 unfold p144
 cases b with
 | nil=>simp [Q0a]
 | cons c b =>
  have h0:(((c :: b).length:Int)==0)=false := by simp; omega
  have h1:a.length+(c :: b).length≤maxLen∧(a.length+(c :: b).length) * 1≤140737488355328 := ⟨by unfold maxLen; omega,by omega⟩
  have h2:slice' (a ++ c :: b) a.length (some (a ++ c :: b).length)=c :: b := by
   cases a with
   | nil=>simp [slice']
   | cons x a=>simp [slice']
  have h3:a.length≤(a ++ c :: b).length∧(a ++ c :: b).length≤(a ++ c :: b).length∧(a ++ c :: b).length≤(a ++ c :: b).length∧0+(a ++ c :: b).length≤(a ++ c :: b).length := by simp
  simp only [h0,Qf,h1,and_self,Qd,Q0a,Qt,Int.natCast_nonneg,Int.toNat_natCast,h3,h2]
theorem X9l (x:Rd) (r:List Int) (hd:r.length+x.2.2.1.length≤140737488355328) :
  p143 fu ((x.1,x.2.1,x.2.2.1,x.2.2.2.1,x.2.2.2.2,()),((r,()),()),())=some ((((),()),(r ++ x.2.2.1,()),(),()),(x.1,x.2.1,x.2.2.1,x.2.2.2.1,x.2.2.2.2,())) := by
 unfold p143
 simp only [X9k _ _ hd,Q0f,Q0a,Qt]
def valsR (l:List Rd):List Int := l.flatMap fun x=>x.2.2.1
theorem X9m (a b:List Rd):valsR (a ++ b)=valsR a ++ valsR b := List.flatMap_append
theorem Q7u (l:List Rd) (x:Rd):valsR (l ++ [x])=valsR l ++ x.2.2.1 := by simp [valsR]
def fitsR (l:List Rd):Prop := l.length * 64≤140737488355328∧(valsR l).length≤140737488355328
theorem Q3f {α:Type} {l:List α} {i:Nat} (h:i<l.length) (d:α):l.take (i+1)=l.take i ++ [l.getD i d] := by
 rw [List.take_add_one,List.getD_eq_getElem?_getD,List.getElem?_eq_getElem h]; rfl
theorem X1i {l:List Rd} {i:Nat} (h:i<l.length):(valsR (l.take i)).length+(l.getD i (dflt T_api_Record)).2.2.1.length≤(valsR l).length := by
 have h1 := congrArg valsR (Q3f h (dflt T_api_Record))
 rw [Q7u] at h1
 have h2:valsR l=valsR (l.take (i+1)) ++ valsR (l.drop (i+1)) := by rw [← X9m,List.take_append_drop]
 rw [h2,h1]
 simp only [List.length_append]
 omega
theorem X9n (l:List Rd) (h:fitsR l) (hf:l.length<fu):p142 fu (l,((),(((([]:List Int),()),()),())),())=some ((((),()),(valsR l,()),(),()),l) := by
 unfold p142
 obtain ⟨h1,h2⟩ := h
 cases hl0:l with
 | nil=>rfl
 | cons a0 l0 =>
  rw [← hl0]
  have h0:((l.length:Int)==0)=false := by rw [hl0]; simp; omega
  have h4:(0:Int)≤(l.length:Int)∧(l.length:Int)≤(l.length:Int)∧(l.length:Int)≤9223372036854775807∧(64:Int) * (l.length:Int)≤140737488355328 := by omega
  simp only [h0,Qf,h4,and_self,Qd,Q0a,Qt,Int.toNat_natCast,List.length_replicate]
  refine Q2g (I := fun s => ∃ i:Nat,s=((l.take i ++ List.replicate (l.length-i) (dflt T_api_Record),(i:Int),()),(((),()),(valsR (l.take i),()),()))∧i≤l.length)
   (m := fun s=>l.length-s.1.2.1.toNat) (g := fun _=>((((),()),(valsR l,()),(),()),l)) ?_ fu _ ⟨0,by simp only [List.take_zero,List.nil_append,Nat.sub_zero,valsR,List.flatMap_nil]; rfl,Nat.zero_le _⟩ (by simpa using hf)
  rintro s ⟨i,rfl,hi⟩
  by_cases hi':i<l.length
  ·left
   have hx := X1i hi'
   have e52 := X9l (fu := fu) (l.getD i (dflt T_api_Record)) (valsR (l.take i)) (by omega)
   have hlen:(l.take i ++ List.replicate (l.length-i) (dflt T_api_Record)).length=l.length := by simp; omega
   refine ⟨((l.take (i+1) ++ List.replicate (l.length-(i+1)) (dflt T_api_Record),((i+1:Nat):Int),()),(((),()),(valsR (l.take (i+1)),()),())),?_,⟨i+1,rfl,hi'⟩,by simp only [Int.toNat_natCast]; omega,rfl⟩
   have hs:(l.take i ++ List.replicate (l.length-i) (dflt T_api_Record)).set i (l.getD i (dflt T_api_Record))=l.take (i+1) ++ List.replicate (l.length-(i+1)) (dflt T_api_Record) := by
    have ht:(l.take i).length=i := by simp; omega
    rw [List.set_append_right _ _ (by omega),ht,Nat.sub_self,show l.length-i=(l.length-(i+1))+1 by omega,List.replicate_succ,List.set_cons_zero,Q3f hi' (dflt T_api_Record)]
    simp
   rw [Q3f hi' (dflt T_api_Record),Q7u,← Q3f hi' (dflt T_api_Record),← hs]
   simp only [Int.ofNat_lt,hi',Qd,Qt,Int.natCast_nonneg,and_self,Int.toNat_natCast,e52,Q0f,hlen,List.length_set,Q0x hi' (show l.length≤9223372036854775807 by omega)]
  ·right
   obtain rfl:i=l.length := by omega
   simp [inrO]
theorem X9o (n:Nat) (h:n≤140737488355328):p141 fu ((n:Int),())=some ((),([],())) := by
 unfold p141
 have h1:(0:Int)≤0∧(0:Int)≤(n:Int)∧(n:Int)≤9223372036854775807∧(1:Int) * (n:Int)≤140737488355328 := by omega
 simp only [h1,and_self,Qd,Qt]; rfl
theorem Q7v (l:List Rd) (h:fitsR l) (hf:l.length<fu):p110 fu (l,())=some ((),l) := by
 unfold p110
 refine Q2g (I := fun s => ∃ i:Nat,s=((((valsR (l.take i)).length:Int),(i:Int),()),())∧i≤l.length) (m := fun s=>l.length-s.1.2.1.toNat) (g := fun _=>((),l)) ?_ fu _ ⟨0,by simp [valsR],Nat.zero_le _⟩ (by simpa using hf)
 rintro s ⟨i,rfl,hi⟩
 have h1 := h.1
 have h2 := h.2
 by_cases hi':i<l.length
 ·left
  have hx := X1i hi'
  refine ⟨((((valsR (l.take (i+1))).length:Int),((i+1:Nat):Int),()),()),?_,⟨i+1,rfl,hi'⟩,by simp only [Int.toNat_natCast]; omega,rfl⟩
  have hw:IntKind.wrap .i64 (((valsR (l.take i)).length:Int)+((l.getD i (dflt T_api_Record)).2.2.1.length:Int))=((valsR (l.take (i+1))).length:Int) := by
   rw [Q3f hi' (dflt T_api_Record),Q7u,Q4v (by omega) (by omega),List.length_append]; omega
  simp only [Int.ofNat_lt,hi',Qd,Q0a,Qt,Int.natCast_nonneg,and_self,Int.toNat_natCast,hw,Q0x hi' (show l.length≤9223372036854775807 by omega)]
 ·right
  obtain rfl:i=l.length := by omega
  rw [List.take_length]
  simp only [Int.lt_irrefl,decide_false,Qf,X9o (fu := fu) _ h2,Q0f,Q0a,Qt,X9n l h hf,Q0o]
theorem X9p (l:List Pr) (h:l.length≤2097152):p111 fu (l,())=some ((),l) := by
 unfold p111
 cases l with
 | nil=>rfl
 | cons a l =>
  have h0:(((a :: l).length:Int)==0)=false := by simp; omega
  have h1:(0:Int)≤((a :: l).length:Int)∧((a :: l).length:Int)≤((a :: l).length:Int)∧((a :: l).length:Int)≤9223372036854775807∧(32:Int) * ((a :: l).length:Int)≤140737488355328 := by omega
  simp only [h0,Qf,h1,and_self,Qd,Qt,Int.toNat_natCast,List.length_replicate,Q7o]
theorem Q0y {l:List Rd} (h:logOk l=true):l.length≤4096 ∧ ∀ i (hi:i<l.length),l[i].1=(i:Int)∧l[i].2.1.size≤32∧l[i].2.2.1.length≤256 := by
 unfold logOk at h
 cases ha:(List.range l.length).any (wrong l) with
 | true=>rw [ha] at h; cases h
 | false =>
  rw [ha] at h
  refine ⟨by simpa using h,fun i hi => ?_⟩
  rw [List.any_eq_false] at ha
  have hw := ha i (List.mem_range.2 hi)
  unfold wrong at hw
  rw [Q0k hi] at hw
  by_cases h1:l[i].1=(i:Int)
  ·by_cases h2:l[i].2.1.size≤32
   ·refine ⟨h1,h2,?_⟩
    have g2:¬ l[i].2.1.size>32 := by omega
    simpa [h1,g2] using hw
   ·have g2:l[i].2.1.size>32 := by omega
    simp [h1,g2] at hw
  ·have g1:(l[i].1 != (i:Int))=true := by simpa using h1
   simp [g1] at hw
theorem X1j {l:List Rd} (h:∀ x ∈ l,x.2.2.1.length≤256):(valsR l).length≤l.length * 256 := by
 induction l with
 | nil=>simp [valsR]
 | cons x l ih =>
  have h1 := h x (List.mem_cons_self ..)
  have h2 := ih fun y hy=>h y (List.mem_cons_of_mem _ hy)
  have e:(valsR (x :: l)).length=x.2.2.1.length+(valsR l).length := by simp [valsR]
  rw [e,List.length_cons]
  omega
theorem X1k {l:List Rd} (h:logOk l=true):fitsR l := by
 obtain ⟨h1,h2⟩ := Q0y h
 have h3 := X1j (l := l) fun x hx=>by
  obtain ⟨i,hi,rfl⟩ := List.getElem_of_mem hx
  exact (h2 i hi).2.2
 exact ⟨by omega,by omega⟩
theorem X9q {l m:List Rd} (h:logOk l=true) (hm:∀ x ∈ m,x ∈ l) (hn:m.length≤4096):fitsR m := by
 obtain ⟨h1,h2⟩ := Q0y h
 have h3 := X1j (l := m) fun x hx=>by
  obtain ⟨i,hi,rfl⟩ := List.getElem_of_mem (hm x hx)
  exact (h2 i hi).2.2
 exact ⟨by omega,by omega⟩
theorem X9r (l:List Rd) (x:Rd) (hl:logOk l=true) (hk:x.2.1.size≤32) (hv:x.2.2.1.length≤256) (hf:4194304<fu) :
  p147 fu (l,(x.1,x.2.1,x.2.2.1,x.2.2.2.1,x.2.2.2.2,()),())=some ((),if l.length<4096 then (l ++ [numR l x],(l.length:Int),0,()) else ([],0,143,())) := by
 have hn := (Q0y hl).1
 have g1:¬ x.2.1.size>32 := by omega
 have g2:¬ x.2.2.1.length>256 := by omega
 unfold p147
 simp only [Q7p l (by omega) hf,Q0f,hl,Bool.not_true,Qf,X0s,g1,g2,decide_false,show ((0:Int) != 0)=false from rfl]
 by_cases h:l.length<4096
 ·have h':¬ (l.length:Int)≥4096 := by omega
  simp only [h,h',if_true,decide_false,Qf,Q7v l (X1k hl) (show l.length<fu by omega),Q0f,Q0a,Qt,X8y l x (by omega) (by omega),Q2a (x := (l.length:Int)) (by omega) (by omega)]
 ·have h':(l.length:Int)≥4096 := by omega
  simp only [h,h',if_false,Qd,Q0a,Qt]
theorem X1l {α:Type} (l:List α) (n:Nat):slice' l n none=l.drop n := by
 cases n with
 | zero=>rfl
 | succ n=>rfl
theorem X9s (l:List Rd) (c f:Int) (hl:logOk l=true) (h0:0≤c) (hf:4194304<fu) :
  p149 fu (l,c,f,())=some ((),if c≤(l.length:Int) then ((l.drop c.toNat).take (min (min f.toNat 64) (l.length-c.toNat)),0,()) else ([],141,())) := by
 have hn := (Q0y hl).1
 unfold p149
 simp only [Q7p l (by omega) hf,Q0f,hl,Bool.not_true,Qf,Q2a (x := (l.length:Int)) (by omega) (by omega)]
 by_cases h:c≤(l.length:Int)
 ·have h1:¬ c>(l.length:Int) := by omega
  have h2:c.toNat≤l.length := by omega
  have hs:(slice' l c.toNat none).length=l.length-c.toNat := by rw [X1l]; simp
  have hz:(if ((l.length-c.toNat:Nat):Int)<(if (64:Int)<(if (0:Int)>f then (0:Int) else f) then (64:Int) else (if (0:Int)>f then (0:Int) else f)) then ((l.length-c.toNat:Nat):Int) else (if (64:Int)<(if (0:Int)>f then (0:Int) else f) then (64:Int) else (if (0:Int)>f then (0:Int) else f)))=((min (min f.toNat 64) (l.length-c.toNat):Nat):Int) := by
   split <;> split <;> (try split) <;> (try split) <;> omega
  simp only [hs]
  simp only [h,h1,h0,h2,if_true,Qd,Q0a,decide_false,Qt,Qf,hz,Int.natCast_nonneg,Int.toNat_natCast,Nat.zero_le,true_and,Nat.min_le_right]
  rw [X1l,Q7v _ (X9q hl (fun x hx=>List.drop_subset _ _ (List.take_subset _ _ hx)) (by simp; omega)) (by simp; omega)]
  simp only [Q0f]
 ·have h1:c>(l.length:Int) := by omega
  simp only [h,h1,if_false,Qd,Q0a,Qt]
def AtP (l:List Pr) (c:Int) (n:Nat):Prop := n≤l.length∧(∀ k (h:k<l.length),k<n→l[k].1<c) ∧ ∀ k (h:k<l.length),n≤k → ¬ l[k].1<c
theorem X1m (c:Int):∀ l:List Pr,SP l → ∃ n,AtP l c n
 | [],_=>⟨0,Nat.le_refl _,fun k h=>absurd h (Nat.not_lt_zero _),fun k h=>absurd h (Nat.not_lt_zero _)⟩
 | x :: l,hr=>by
  obtain ⟨hx,hr'⟩ := List.pairwise_cons.1 hr
  by_cases h:x.1<c
  ·obtain ⟨n,h1,h2,h3⟩ := X1m c l hr'
   refine ⟨n+1,Nat.succ_le_succ h1,fun k hk hn => ?_,fun k hk hn => ?_⟩
   ·cases k with
    | zero=>exact h
    | succ k=>exact h2 k (Nat.lt_of_succ_lt_succ hk) (by omega)
   ·cases k with
    | zero=>omega
    | succ k=>exact h3 k (Nat.lt_of_succ_lt_succ hk) (by omega)
  ·refine ⟨0,Nat.zero_le _,fun k hk hn=>absurd hn (Nat.not_lt_zero _),fun k hk _ => ?_⟩
   cases k with
   | zero=>exact h
   | succ k =>
    have := hx _ (List.getElem_mem (Nat.lt_of_succ_lt_succ hk))
    simp only [List.getElem_cons_succ]
    omega
theorem X1n (x:Pr) (c:Int):p104 fu ((x.1,x.2.1,x.2.2.1,x.2.2.2,()),c,())=some ((),cmpZ x.1 c) := by
 unfold p104
 simp only [X0y,Q0f]
theorem X9t (l:List Pr) (c:Int) (n:Nat) (hl:l.length≤2097152) (hf:4194304<fu) (ha:AtP l c n) :
  p103 fu (l,c,((),()),())=some ((),(n:Int),(if h:n<l.length then decide (l[n].1=c) else false),()) := by
 obtain ⟨hn,ha1,ha2⟩ := ha
 unfold p103
 refine Q7n (I := fun s => ∃ h i:Nat,s=(((h:Int),(i:Int),()),())∧h≤n∧n≤i∧i≤l.length) (m := fun s=>Int.toNat s.1.2.1-Int.toNat s.1.1) ⟨0,l.length,rfl,Nat.zero_le _,hn,Nat.le_refl _⟩ (by simp only [Int.toNat_natCast]; omega) fun s hs => ?_
 obtain ⟨h,i,rfl,h1,h2,h3⟩ := hs
 by_cases hlt:h<i
 ·have hm:(h+i) / 2<l.length := by omega
  have hg:∀ d,l.getD ((h+i) / 2) d=l[(h+i) / 2] := fun d=>Q0k hm
  simp only [X0g (lo := h) (hi := i) (by omega),Int.ofNat_lt,hlt,Int.natCast_nonneg,hm,Qd,Qt,and_self,Int.toNat_natCast,hg,X1n,Q0f,X1c]
  by_cases hc:l[(h+i) / 2].1<c
  ·simp only [hc,Qd,Qt,Q0x hm (by omega)]
   refine ⟨_,rfl,⟨_,_,rfl,?_,h2,h3⟩,by simp only [Int.toNat_natCast]; omega⟩
   rcases Nat.lt_or_ge ((h+i) / 2) n with g | g
   ·exact g
   ·exact absurd hc (ha2 _ hm g)
  ·simp only [hc,decide_false,Qf]
   refine ⟨_,rfl,⟨_,_,rfl,h1,?_,by omega⟩,by simp only [Int.toNat_natCast]; omega⟩
   rcases Nat.lt_or_ge ((h+i) / 2) n with g | g
   ·exact absurd (ha1 _ hm g) hc
   ·exact g
 ·obtain rfl:h=n := by omega
  simp only [Int.ofNat_lt,hlt,decide_false,Qf]
  by_cases hm:h<l.length
  ·have hg:∀ d,l.getD h d=l[h] := fun d=>Q0k hm
   simp only [hm,Int.natCast_nonneg,Qd,Qt,and_self,Int.toNat_natCast,hg,X1n,Q0f,dite_true]
   refine ⟨_,rfl,?_⟩
   have:(cmpZ l[h].1 c==0)=decide (l[h].1=c) := by
    have h5 := ha2 _ hm (Nat.le_refl _)
    unfold cmpZ
    by_cases hx:l[h].1>c
    ·have:¬ l[h].1=c := by omega
     simp [h5,hx,this]
    ·have:l[h].1=c := by omega
     simp [this]
   rw [this]
  ·simp only [hm,decide_false,Qf,dite_false]
   exact ⟨_,rfl,rfl⟩
theorem X9u (l:List Pr) (c:Int) (hl:l.length≤2097152) (hf:4194304<fu) (hs:SP l) :
  ∃ n:Nat,p103 fu (l,c,((),()),())=some ((),(n:Int),decide (findI l c<l.length),())∧(findI l c<l.length→n=findI l c) := by
 obtain ⟨n,hn⟩ := X1m c l hs
 have key:(if h:n<l.length then decide (l[n].1=c) else false)=decide (findI l c<l.length)∧(findI l c<l.length→n=findI l c) := by
  by_cases hk:findI l c<l.length
  ·have e1:l[findI l c].1=c := by
    have hw:findI l c<l.length := hk
    have := List.findIdx_getElem (w := hw)
    have h2:l[List.findIdx (fun x=>x.1==c) l].1=c := by simpa using this
    exact h2
   have e2:n=findI l c := by
    rcases Nat.lt_trichotomy n (findI l c) with g | g | g
    ·have hnl:n<l.length := by omega
     have h1 := hn.2.2 n hnl (Nat.le_refl _)
     have h2 := List.pairwise_iff_getElem.1 hs n (findI l c) hnl hk g
     omega
    ·exact g
    ·have := hn.2.1 _ hk g
     omega
   subst e2
   simp [hk,e1]
  ·have hne:∀ h:n<l.length,¬ l[n].1=c := fun h e=>by
    have := X1a l c
    have h1:findI l c≤n := by
     rcases Nat.lt_or_ge n (findI l c) with g | g
     ·have := List.not_of_lt_findIdx g
      rw [e] at this
      simp at this
     ·exact g
    omega
   refine ⟨?_,fun h=>absurd h hk⟩
   by_cases h:n<l.length
   ·simp [h,hne h,hk]
   ·simp [h,hk]
 refine ⟨n,?_,key.2⟩
 rw [X9t l c n hl hf hn,key.1]
end
section
variable {fu:Nat}
def noPr:Pr := (0,0,false,0)
def lastS (rs:List Rd) (id:Int):Int := rs.foldl (fun a x=>if x.2.2.2.1=id then x.2.2.2.2 else a) 0
theorem X1o (rs:List Rd) (x:Rd) (id:Int):lastS (rs ++ [x]) id=if x.2.2.2.1=id then x.2.2.2.2 else lastS rs id := by
 unfold lastS
 rw [List.foldl_append]
 rfl
def recOk1 (lo hi:ByteArray) (ps:List Pr) (before:List Rd) (x:Rd):Bool :=
 decide (findI ps x.2.2.2.1<ps.length) && (hasB lo hi x.2.1 && (decide (lastS before x.2.2.2.1<x.2.2.2.2) && decide (x.2.2.2.2≤(ps.getD (findI ps x.2.2.2.1) noPr).2.1)))
def recOk (lo hi:ByteArray) (ps:List Pr) (l:List Rd) (j:Nat):Bool := recOk1 lo hi ps (l.take j) (l.getD j noRec)
def lastL (ps:List Pr) (l:List Rd) (i:Nat):List Int := ps.map fun y=>lastS (l.take i) y.1
theorem Q7w {ps:List Pr} {id:Int} (hk:findI ps id<ps.length):(ps[findI ps id]).1=id := by
 have hw:findI ps id<ps.length := hk
 have := List.findIdx_getElem (w := hw)
 have h2:ps[List.findIdx (fun x=>x.1==id) ps].1=id := by simpa using this
 exact h2
theorem X9v {ps:List Pr} (hs:SP ps) {i j:Nat} (hi:i<ps.length) (hj:j<ps.length) (h:ps[i].1=ps[j].1):i=j := by
 rcases Nat.lt_trichotomy i j with g | g | g
 ·have := List.pairwise_iff_getElem.1 hs i j hi hj g; omega
 ·exact g
 ·have := List.pairwise_iff_getElem.1 hs j i hj hi g; omega
theorem X9w {ps:List Pr} (hs:SP ps) {id s:Int} (F:Int→Int) (hk:findI ps id<ps.length) :
  (ps.map fun y=>F y.1).set (findI ps id) s=ps.map fun y=>if id=y.1 then s else F y.1 := by
 apply List.ext_getElem
 ·simp
 ·intro j h1 h2
  have hj:j<ps.length := by simpa using h2
  rw [List.getElem_set,List.getElem_map,List.getElem_map]
  by_cases e:findI ps id=j
  ·subst e
   simp [Q7w hk]
  ·have:¬ id=ps[j].1 := fun g=>e (X9v hs hk hj ((Q7w hk).trans g))
   simp [e,this]
theorem X9x {ps:List Pr} {l:List Rd} {i:Nat} {id:Int} (hk:findI ps id<ps.length) (d:Int):(lastL ps l i).getD (findI ps id) d=lastS (l.take i) id := by
 have hlen:findI ps id<(ps.map fun y=>lastS (l.take i) y.1).length := by simpa using hk
 show (ps.map fun y=>lastS (l.take i) y.1).getD _ d=_
 rw [Q0k hlen,List.getElem_map,Q7w hk]
theorem X9y {ps:List Pr} {l:List Rd} {i:Nat} (hs:SP ps) (hi:i<l.length) (hk:findI ps l[i].2.2.2.1<ps.length) :
  (lastL ps l i).set (findI ps l[i].2.2.2.1) l[i].2.2.2.2=lastL ps l (i+1) := by
 unfold lastL
 rw [X9w hs (fun id=>lastS (l.take i) id) hk]
 apply List.map_congr_left
 intro y _
 rw [Q3f hi noRec,Q0k hi,X1o]
theorem X9z (lo up:ByteArray) (e z:Int) (l:List Rd) (ps:List Pr) (cs:List Cn) (hl:l.length≤2097152) (hp:ps.length≤2097152) (hs:SP ps) (hf:4194304<fu) :
  p40 fu ((lo,up,e,z,l,ps,cs,()),())=some ((),(List.range l.length).all (recOk lo up ps l)) := by
 unfold p40
 have h1:(0:Int)≤(ps.length:Int)∧(ps.length:Int)≤(ps.length:Int)∧(ps.length:Int)≤9223372036854775807∧(8:Int) * (ps.length:Int)≤140737488355328 := by omega
 simp only [h1,and_self,Qd,Qt,Int.toNat_natCast,List.length_replicate]
 have e0:((List.replicate ps.length (0:Int),(0:Int),()),())=(fun i:Nat=>((lastL ps l i,(i:Int),()),())) 0 := by
  simp only [lastL,List.take_zero,lastS,List.foldl_nil,List.map_const']
  rfl
 rw [e0]
 refine Q2p (List.range l.length) (fun i:Nat=>((lastL ps l i,(i:Int),()),())) (fun j => !recOk lo up ps l j) ((),false) ((),true) (by simp; omega) (fun i h => ?_) ?_ ?_
 ·have hi:i<l.length := by simpa using h
  have hll:(lastL ps l i).length=ps.length := by simp [lastL]
  obtain ⟨n,e1,e2⟩ := X9u (fu := fu) ps l[i].2.2.2.1 hp hf hs
  have hg:∀ d,l.getD i d=l[i] := fun d=>Q0k hi
  simp only [Int.ofNat_lt,hi,Qd,Qt,Int.natCast_nonneg,true_and,Int.toNat_natCast,hg,e1,Q0f,List.getElem_range,X0v,recOk,recOk1]
  by_cases hk:findI ps l[i].2.2.2.1<ps.length
  ·obtain rfl := e2 hk
   have hgp:∀ d,ps.getD (findI ps l[i].2.2.2.1) d=ps[findI ps l[i].2.2.2.1] := fun d=>Q0k hk
   simp only [hk,Qd,Bool.not_true,Qf,Bool.true_and]
   cases hh:hasB lo up l[i].2.1 with
   | false=>simp only [Bool.not_false,Qt,Bool.false_and,Q0o]
   | true =>
    simp only [Bool.not_true,Qf,Bool.true_and,hll,hk,Qd,Qt,X9x hk,hgp,List.length_set]
    by_cases h3:lastS (l.take i) l[i].2.2.2.1<l[i].2.2.2.2
    ·have h3':¬ l[i].2.2.2.2≤lastS (l.take i) l[i].2.2.2.1 := by omega
     by_cases h4:l[i].2.2.2.2≤(ps[findI ps l[i].2.2.2.1]).2.1
     ·have h4':¬ l[i].2.2.2.2>(ps[findI ps l[i].2.2.2.1]).2.1 := by omega
      simp only [h3,h3',h4,h4',Qd,decide_false,Qf,Bool.and_self,Bool.not_true,X9y hs hi hk,Q0x hi (by omega)]
     ·have h4':l[i].2.2.2.2>(ps[findI ps l[i].2.2.2.1]).2.1 := by omega
      simp only [h3,h3',h4,h4',Qd,decide_false,Qf,Qt,Bool.and_false,Bool.not_false,Q0o]
    ·have h3':l[i].2.2.2.2≤lastS (l.take i) l[i].2.2.2.1 := by omega
     simp only [h3,h3',Qd,decide_false,Qt,Bool.false_and,Bool.not_false,Q0o]
  ·simp only [hk,decide_false,Bool.not_false,Qt,Bool.false_and,Q0o]
 ·simp only [List.length_range,Int.lt_irrefl,decide_false,Qf,Q0o]
 ·rw [← List.not_all_eq_any_not]
  cases (List.range l.length).all (recOk lo up ps l) <;> rfl
def proOk (l:List Rd) (y:Pr):Bool := !y.2.2.1||(decide (y.2.2.2<(l.length:Int)) && ((l.getD y.2.2.2.toNat noRec).2.2.2.1==y.1 && (l.getD y.2.2.2.toNat noRec).2.2.2.2==y.2.1))
theorem K0a (lo up:ByteArray) (e z:Int) (l:List Rd) (ps:List Pr) (cs:List Cn) (hl:l.length≤2097152) (hp:ps.length≤2097152) (h0:∀ y ∈ ps,0≤y.2.2.2) (hf:4194304<fu) :
  p41 fu ((lo,up,e,z,l,ps,cs,()),())=some ((),ps.all (proOk l)) := by
 unfold p41
 refine Q2p ps (fun i:Nat=>(((i:Int),()),())) (fun y => !proOk l y) ((),false) ((),true) (by omega) (fun i hi => ?_) ?_ ?_
 ·have hg:∀ d,ps.getD i d=ps[i] := fun d=>Q0k hi
  have hz := h0 _ (List.getElem_mem hi)
  simp only [Int.ofNat_lt,hi,Qd,Qt,Int.natCast_nonneg,true_and,Int.toNat_natCast,hg,proOk,Q2a (x := (l.length:Int)) (by omega) (by omega)]
  cases hh:ps[i].2.2.1 with
  | false=>simp only [Bool.not_false,Qt,Bool.true_or,Bool.not_true,Qf,Q0x hi (by omega)]
  | true =>
   simp only [Bool.not_true,Qf,Bool.false_or]
   by_cases h3:ps[i].2.2.2<(l.length:Int)
   ·have h3':¬ ps[i].2.2.2≥(l.length:Int) := by omega
    have h3n:ps[i].2.2.2.toNat<l.length := by omega
    have hgl:∀ d,l.getD ps[i].2.2.2.toNat d=l[ps[i].2.2.2.toNat] := fun d=>Q0k h3n
    simp only [h3,h3',h3n,hz,and_self,Qd,decide_false,Qt,Qf,hgl,Bool.true_and]
    cases h4:(l[ps[i].2.2.2.toNat].2.2.2.1==ps[i].1) with
    | false=>simp only [bne,h4,Bool.not_false,Qt,Bool.false_and,Q0o]
    | true =>
     simp only [bne,h4,Bool.not_true,Qf,Bool.true_and]
     cases h5:(l[ps[i].2.2.2.toNat].2.2.2.2==ps[i].2.1) with
     | false=>simp only [Bool.not_false,Qt,Q0o]
     | true=>simp only [Bool.not_true,Qf,Q0x hi (by omega)]
   ·have h3':ps[i].2.2.2≥(l.length:Int) := by omega
    simp only [h3,h3',Qd,decide_false,Qt,Bool.false_and,Bool.not_false,Q0o]
 ·simp only [Int.lt_irrefl,decide_false,Qf,Q0o]
 ·rw [← List.not_all_eq_any_not]
  cases ps.all (proOk l) <;> rfl
def conOk (l:List Rd) (y:Cn):Bool := decide (y.2≤(l.length:Int))
theorem K0b (lo up:ByteArray) (e z:Int) (l:List Rd) (ps:List Pr) (cs:List Cn) (hl:l.length≤2097152) (hp:cs.length≤2097152) (hf:4194304<fu) :
  p42 fu ((lo,up,e,z,l,ps,cs,()),())=some ((),cs.all (conOk l)) := by
 unfold p42
 refine Q2p cs (fun i:Nat=>(((i:Int),()),())) (fun y => !conOk l y) ((),false) ((),true) (by omega) (fun i hi => ?_) ?_ ?_
 ·have hg:∀ d,cs.getD i d=cs[i] := fun d=>Q0k hi
  simp only [Int.ofNat_lt,hi,Qd,Qt,Int.natCast_nonneg,true_and,Int.toNat_natCast,hg,conOk,Q2a (x := (l.length:Int)) (by omega) (by omega)]
  by_cases h3:cs[i].2≤(l.length:Int)
  ·have h3':¬ cs[i].2>(l.length:Int) := by omega
   simp only [h3,h3',Qd,decide_false,Qf,Bool.not_true,Q0x hi (by omega)]
  ·have h3':cs[i].2>(l.length:Int) := by omega
   simp only [h3,h3',Qd,decide_false,Qt,Bool.not_false,Q0o]
 ·simp only [Int.lt_irrefl,decide_false,Qf,Q0o]
 ·rw [← List.not_all_eq_any_not]
  cases cs.all (conOk l) <;> rfl
abbrev St16 := ByteArray×ByteArray×Int×Int×List Rd×List Pr×List Cn×Unit
def chkS:St16→Bool
 | (lo,hi,e,_,l,ps,cs,_)=>(chkB lo hi==0) && ((e != 0) && (logOk l && (tabI ps && (okC cs && ((List.range l.length).all (recOk lo hi ps l) && (ps.all (proOk l) && cs.all (conOk l)))))))
def bndS:St16→Prop
 | (_,_,_,_,l,ps,cs,_)=>l.length≤2097152∧ps.length≤2097152∧okL cs ∧ ∀ y ∈ ps,0≤y.2.2.2
theorem X1p (p:St16) (hb:bndS p) (hf:4194304<fu):p10 fu (p,())=some ((),bif chkS p then 0 else 165) := by
 obtain ⟨lo,hi,e,z,l,ps,cs,⟨⟩⟩ := p
 obtain ⟨h1,h2,h3,h4⟩ := hb
 unfold p10
 simp only [X0u,Q0f,Q7p l (by omega) hf,X1d ps (by omega) (show ps.length<fu by omega),X0e cs h3 hf,K0a lo hi e z l ps cs h1 h2 h4 hf,K0b lo hi e z l ps cs h1 h3.1 hf,chkS]
 cases (chkB lo hi==0)
 ·rfl
 cases (e != 0)
 ·rfl
 cases logOk l
 ·rfl
 cases ht:tabI ps
 ·rfl
 simp only [X9z lo hi e z l ps cs h1 h2 ((Q4k ps).1 ht).2.1 hf,Q0f]
 cases okC cs
 ·rfl
 cases (List.range l.length).all (recOk lo hi ps l)
 ·rfl
 cases ps.all (proOk l)
 ·rfl
 cases cs.all (conOk l) <;> rfl
end
section
variable {fu:Nat}
abbrev Cm16 := Int×Int×Int×Int×ByteArray×List Int×Int×Int×ByteArray×Int×Unit
abbrev Rs16 := Int×Int×Bool×List Rd×Unit
def wfS:Cm16→Bool
 | (k,_,pr,sq,key,v,_,most,name,plan,_) =>
  if k=1 then ((judge [] pr sq).1 != 4) && (decide (key.size≤32) && decide (v.length≤256))
  else if k=2 then decide (1≤most) && decide (most≤64)
  else if k=3 then ((judge [] pr sq).1 != 4) && nameB name
  else if k=4 then nameB name
  else if k=5 then plan != 0
  else if k=6 then plan != 0
  else false
theorem K0c (k ep pr sq:Int) (key:ByteArray) (v:List Int) (off most:Int) (name:ByteArray) (plan:Int) (hf:4194304<fu) :
  p134 fu ((k,ep,pr,sq,key,v,off,most,name,plan,()),())=some ((),(judge [] pr sq).1 != 4) := by
 unfold p134
 simp only [Q7q [] pr sq (by simp) (show ([]:List Pr).length<fu by simp only [List.length_nil]; omega),Q0f]
theorem Q1s (k ep pr sq:Int) (key:ByteArray) (v:List Int) (off most:Int) (name:ByteArray) (plan:Int) (hn:name.size≤1048576) (hf:4194304<fu) :
  p88 fu ((k,ep,pr,sq,key,v,off,most,name,plan,()),())=some ((),wfS (k,ep,pr,sq,key,v,off,most,name,plan,())) := by
 unfold p88 wfS
 simp only [K0c _ _ _ _ _ _ _ _ _ _ hf,Q7l name hn (show name.size<fu by omega),Q0f]
 by_cases h1:k=1
 ·subst h1
  have e1:decide ((ByteArray.size key:Int)≤32)=decide (key.size≤32) := by rw [decide_eq_decide]; omega
  have e2:decide ((List.length v:Int)≤256)=decide (v.length≤256) := by rw [decide_eq_decide]; omega
  simp only [beq_self_eq_true,Qt,if_true,e1,e2]
  cases ((judge [] pr sq).1 != 4)
  ·rfl
  cases decide (key.size≤32) <;> rfl
 have b1:(k==1)=false := by simpa using h1
 simp only [b1,h1,Qf,if_false]
 by_cases h2:k=2
 ·subst h2
  simp only [beq_self_eq_true,Qt,if_true]
  by_cases g:most≥1
  ·have g':1≤most := g
   simp only [g,Qd,Qt,Bool.true_and]
   rfl
  ·have g':¬ 1≤most := g
   simp only [g,decide_false,Qf,Bool.false_and]
   rfl
 have b2:(k==2)=false := by simpa using h2
 simp only [b2,h2,Qf,if_false]
 by_cases h3:k=3
 ·subst h3
  simp only [beq_self_eq_true,Qt,if_true]
  cases ((judge [] pr sq).1 != 4) <;> rfl
 have b3:(k==3)=false := by simpa using h3
 simp only [b3,h3,Qf,if_false]
 by_cases h4:k=4
 ·subst h4
  simp only [beq_self_eq_true,Qt,if_true]
  rfl
 have b4:(k==4)=false := by simpa using h4
 simp only [b4,h4,Qf,if_false]
 by_cases h5:k=5
 ·subst h5
  simp only [beq_self_eq_true,Qt,if_true]
  rfl
 have b5:(k==5)=false := by simpa using h5
 simp only [b5,h5,Qf,if_false]
 by_cases h6:k=6
 ·subst h6
  simp only [beq_self_eq_true,Qt,if_true]
  rfl
 have b6:(k==6)=false := by simpa using h6
 simp only [b6,h6,Qf,if_false]
 rfl
theorem Q4l {c:Cm16} (h:wfS c=true):c.1=1 ∨ c.1=2 ∨ c.1=3 ∨ c.1=4 ∨ c.1=5 ∨ c.1=6 := by
 obtain ⟨k,ep,pr,sq,key,v,off,most,name,plan,⟨⟩⟩ := c
 unfold wfS at h
 by_cases h1:k=1
 ·exact .inl h1
 by_cases h2:k=2
 ·exact .inr (.inl h2)
 by_cases h3:k=3
 ·exact .inr (.inr (.inl h3))
 by_cases h4:k=4
 ·exact .inr (.inr (.inr (.inl h4)))
 by_cases h5:k=5
 ·exact .inr (.inr (.inr (.inr (.inl h5))))
 by_cases h6:k=6
 ·exact .inr (.inr (.inr (.inr (.inr h6))))
 simp [h1,h2,h3,h4,h5,h6] at h
def mayS:St16→Cm16→Option (Int ⊕ (Int×Bool))
 | (lo,up,_,z,_,ps,_,_),(k,_,pr,sq,key,_,_,_,_,plan,_) =>
  let fz:Option (Int ⊕ (Int×Bool)) := if z=0 then none else some (.inl 164)
  let nw:Option (Int ⊕ (Int×Bool)) := if (judge ps pr sq).1=1 then fz else if k=3 then some (.inr (0,true)) else if (judge ps pr sq).1=2 then some (.inr ((judge ps pr sq).2,true)) else some (.inl 152)
  if k=1 then (if hasB lo up key=true then nw else some (.inl 163))
  else if k=3 then nw
  else if k=2 then fz
  else if k=4 then fz
  else if z=0 then none else if z=plan then none else some (.inl 164)
def mForm (s:ByteArray):Option (Int ⊕ (Int×Bool))→Bool×(ByteArray×Int×Unit)×(Bool×Unit×Unit)
 | none=>(false,dflt (.pair .str (.pair (.int .i64) .unit)),(true,(),()))
 | some (.inl e)=>(true,(s,e,()),dflt (.pair .bool (.pair .unit .unit)))
 | some (.inr _)=>(false,dflt (.pair .str (.pair (.int .i64) .unit)),(false,(),()))
def mRes:Option (Int ⊕ (Int×Bool))→Int×Bool
 | some (.inr r)=>r
 | _=>(0,false)
theorem K0d (lo up:ByteArray) (e z:Int) (l:List Rd) (ps:List Pr) (cs:List Cn) (k ep pr sq:Int) (key:ByteArray) (v:List Int) (off most:Int) (name:ByteArray) (plan:Int) :
  p145_1 fu ((lo,up,e,z,l,ps,cs,k,ep,pr,sq,key,v,off,most,name,plan,0,0,false,(),()),())=some (((lo,up,e,z,l,ps,cs,k,ep,pr,sq,key,v,off,most,name,plan,0,0,false,(),()),(),(),(),()),if hasB lo up key=true then (false,dflt (.pair .str (.pair (.int .i64) .unit)),()) else (true,(⟨#[97,32,107,101,121,32,111,102,32,97,110,111,116,104,101,114,32,114,97,110,103,101]⟩,163,()),())) := by
 unfold p145_1
 simp only [X0v,Q0f,Q0a,Qt]
 cases hasB lo up key <;> rfl
def nwS (ps:List Pr) (k pr sq:Int):Option (Int ⊕ (Int×Bool)) := if (judge ps pr sq).1=1 then none else if k=3 then some (.inr (0,true)) else if (judge ps pr sq).1=2 then some (.inr ((judge ps pr sq).2,true)) else some (.inl 152)
def nForm:Option (Int ⊕ (Int×Bool))→Bool×Unit×Bool×Unit×ByteArray×Int×Unit
 | none=>(true,(),dflt (.pair .bool (.pair .unit (.pair .str (.pair (.int .i64) .unit)))))
 | some (.inr _)=>(false,(),(true,(),dflt (.pair .str (.pair (.int .i64) .unit))))
 | some (.inl e)=>(false,(),(false,(),(⟨#[97,32,110,117,109,98,101,114,32,116,104,97,116,32,119,101,110,116,32,98,121]⟩,e,())))
theorem Q7x (lo up:ByteArray) (e z:Int) (l:List Rd) (ps:List Pr) (cs:List Cn) (k ep pr sq:Int) (key:ByteArray) (v:List Int) (off most:Int) (name:ByteArray) (plan:Int) (hp:ps.length≤2097152) (hf:4194304<fu) :
  p146 fu ((lo,up,e,z,l,ps,cs,k,ep,pr,sq,key,v,off,most,name,plan,0,0,false,(),()),())=some (((lo,up,e,z,l,ps,cs,k,ep,pr,sq,key,v,off,most,name,plan,0,(mRes (nwS ps k pr sq)).1,(mRes (nwS ps k pr sq)).2,(),()),(),(),(),()),nForm (nwS ps k pr sq)) := by
 unfold p146 nwS
 simp only [Q7q (fu := fu) ps pr sq (by omega) (by omega),Q0f,Q0a,Qt]
 by_cases j1:(judge ps pr sq).1=1
 ·have b1:((judge ps pr sq).1==1)=true := by simpa using j1
  simp only [if_pos j1,b1,Qt,mRes,nForm]
 have b1:((judge ps pr sq).1==1)=false := by simpa using j1
 simp only [if_neg j1,b1,Qf]
 by_cases k3:k=3
 ·have b3:(k==3)=true := by simpa using k3
  simp only [if_pos k3,b3,Qt,mRes,nForm]
 have b3:(k==3)=false := by simpa using k3
 simp only [if_neg k3,b3,Qf]
 by_cases j2:(judge ps pr sq).1=2
 ·have b2:((judge ps pr sq).1==2)=true := by simpa using j2
  simp only [if_pos j2,b2,Qt,mRes,nForm]
 have b2:((judge ps pr sq).1==2)=false := by simpa using j2
 simp only [if_neg j2,b2,Qf,mRes,nForm]
 rfl
theorem Q3g (lo up:ByteArray) (e z:Int) (l:List Rd) (ps:List Pr) (cs:List Cn) (k ep pr sq:Int) (key:ByteArray) (v:List Int) (off most:Int) (name:ByteArray) (plan:Int) :
  mayS (lo,up,e,z,l,ps,cs,()) (k,ep,pr,sq,key,v,off,most,name,plan,()) =
   if k=1 then (if hasB lo up key=true then ((nwS ps k pr sq).or (if z=0 then none else some (.inl 164))) else some (.inl 163))
   else if k=3 then ((nwS ps k pr sq).or (if z=0 then none else some (.inl 164)))
   else if k=2 then (if z=0 then none else some (.inl 164))
   else if k=4 then (if z=0 then none else some (.inl 164))
   else if z=0 then none else if z=plan then none else some (.inl 164) := by
 unfold mayS nwS
 by_cases k3:k=3 <;> by_cases j1:(judge ps pr sq).1=1 <;> by_cases j2:(judge ps pr sq).1=2 <;> simp only [k3,j1,j2,if_true,if_false,Option.none_or,Option.some_or] <;> rfl
theorem K0e (lo up:ByteArray) (e z:Int) (l:List Rd) (ps:List Pr) (cs:List Cn) (ep pr sq:Int) (key:ByteArray) (v:List Int) (off most:Int) (name:ByteArray) (plan:Int) (hp:ps.length≤2097152) (hf:4194304<fu) :
  ∃ s,p114 fu ((lo,up,e,z,l,ps,cs,1,ep,pr,sq,key,v,off,most,name,plan,0,0,false,(),()),())=some (((lo,up,e,z,l,ps,cs,1,ep,pr,sq,key,v,off,most,name,plan,0,(mRes (mayS (lo,up,e,z,l,ps,cs,()) (1,ep,pr,sq,key,v,off,most,name,plan,()))).1,(mRes (mayS (lo,up,e,z,l,ps,cs,()) (1,ep,pr,sq,key,v,off,most,name,plan,()))).2,(),()),(),(),(),()),mForm s (mayS (lo,up,e,z,l,ps,cs,()) (1,ep,pr,sq,key,v,off,most,name,plan,()))) := by
 rw [Q3g]
 unfold p114 p113
 simp only [Int.reduceBEq,Int.reduceEq,beq_self_eq_true,Qt,Qf,if_true,if_false,Q0a,Q0f,Q0e,Q0o,K0d]
 by_cases hh:hasB lo up key=true
 ·simp only [if_pos hh,Qf,Q0e,Q0f,Q7x _ _ _ _ _ _ _ _ _ _ _ _ _ _ _ _ _ hp hf]
  cases hn:nwS ps 1 pr sq with
  | some r =>
   cases r with
   | inl e=>exact ⟨_,rfl⟩
   | inr r=>exact ⟨⟨#[]⟩,rfl⟩
  | none =>
   by_cases h0:z=0
   ·have b0:(z != 0)=false := by simp [h0]
    simp only [if_pos h0,Option.none_or,nForm,mRes,Qt,Q0e,Q1p,b0,Qf]
    exact ⟨⟨#[]⟩,rfl⟩
   ·have b0:(z != 0)=true := by simpa using h0
    simp only [if_neg h0,Option.none_or,nForm,mRes,Qt,Q0e,Q1p,b0]
    exact ⟨_,rfl⟩
 ·simp only [if_neg hh,Qt,Q1p]
  exact ⟨_,rfl⟩
theorem K0f (lo up:ByteArray) (e z:Int) (l:List Rd) (ps:List Pr) (cs:List Cn) (ep pr sq:Int) (key:ByteArray) (v:List Int) (off most:Int) (name:ByteArray) (plan:Int) (_:ps.length≤2097152) (_:4194304<fu) :
  ∃ s,p114 fu ((lo,up,e,z,l,ps,cs,2,ep,pr,sq,key,v,off,most,name,plan,0,0,false,(),()),())=some (((lo,up,e,z,l,ps,cs,2,ep,pr,sq,key,v,off,most,name,plan,0,(mRes (mayS (lo,up,e,z,l,ps,cs,()) (2,ep,pr,sq,key,v,off,most,name,plan,()))).1,(mRes (mayS (lo,up,e,z,l,ps,cs,()) (2,ep,pr,sq,key,v,off,most,name,plan,()))).2,(),()),(),(),(),()),mForm s (mayS (lo,up,e,z,l,ps,cs,()) (2,ep,pr,sq,key,v,off,most,name,plan,()))) := by
 rw [Q3g]
 unfold p114 p113
 simp only [Int.reduceBEq,Int.reduceEq,beq_self_eq_true,Qt,Qf,if_true,if_false,Q0a,Q0f,Q0e,Q1p,Q0o]
 by_cases h0:z=0
 ·have b0:(z != 0)=false := by simp [h0]
  simp only [if_pos h0,b0,Qf,mRes,mForm]
  exact ⟨⟨#[]⟩,rfl⟩
 ·have b0:(z != 0)=true := by simpa using h0
  simp only [if_neg h0,b0,Qt,mRes,mForm]
  exact ⟨_,rfl⟩
theorem K0g (lo up:ByteArray) (e z:Int) (l:List Rd) (ps:List Pr) (cs:List Cn) (ep pr sq:Int) (key:ByteArray) (v:List Int) (off most:Int) (name:ByteArray) (plan:Int) (hp:ps.length≤2097152) (hf:4194304<fu) :
  ∃ s,p114 fu ((lo,up,e,z,l,ps,cs,3,ep,pr,sq,key,v,off,most,name,plan,0,0,false,(),()),())=some (((lo,up,e,z,l,ps,cs,3,ep,pr,sq,key,v,off,most,name,plan,0,(mRes (mayS (lo,up,e,z,l,ps,cs,()) (3,ep,pr,sq,key,v,off,most,name,plan,()))).1,(mRes (mayS (lo,up,e,z,l,ps,cs,()) (3,ep,pr,sq,key,v,off,most,name,plan,()))).2,(),()),(),(),(),()),mForm s (mayS (lo,up,e,z,l,ps,cs,()) (3,ep,pr,sq,key,v,off,most,name,plan,()))) := by
 rw [Q3g]
 unfold p114 p113
 simp only [Int.reduceBEq,Int.reduceEq,beq_self_eq_true,Qt,Qf,if_true,if_false,Q0a,Q0f,Q0e,Q0o,Q7x _ _ _ _ _ _ _ _ _ _ _ _ _ _ _ _ _ hp hf]
 cases hn:nwS ps 3 pr sq with
 | some r =>
  cases r with
  | inl e=>exact ⟨_,rfl⟩
  | inr r=>exact ⟨⟨#[]⟩,rfl⟩
 | none =>
  by_cases h0:z=0
  ·have b0:(z != 0)=false := by simp [h0]
   simp only [if_pos h0,Option.none_or,nForm,mRes,Qt,Q0e,Q1p,b0,Qf]
   exact ⟨⟨#[]⟩,rfl⟩
  ·have b0:(z != 0)=true := by simpa using h0
   simp only [if_neg h0,Option.none_or,nForm,mRes,Qt,Q0e,Q1p,b0]
   exact ⟨_,rfl⟩
theorem K0h (lo up:ByteArray) (e z:Int) (l:List Rd) (ps:List Pr) (cs:List Cn) (ep pr sq:Int) (key:ByteArray) (v:List Int) (off most:Int) (name:ByteArray) (plan:Int) (_:ps.length≤2097152) (_:4194304<fu) :
  ∃ s,p114 fu ((lo,up,e,z,l,ps,cs,4,ep,pr,sq,key,v,off,most,name,plan,0,0,false,(),()),())=some (((lo,up,e,z,l,ps,cs,4,ep,pr,sq,key,v,off,most,name,plan,0,(mRes (mayS (lo,up,e,z,l,ps,cs,()) (4,ep,pr,sq,key,v,off,most,name,plan,()))).1,(mRes (mayS (lo,up,e,z,l,ps,cs,()) (4,ep,pr,sq,key,v,off,most,name,plan,()))).2,(),()),(),(),(),()),mForm s (mayS (lo,up,e,z,l,ps,cs,()) (4,ep,pr,sq,key,v,off,most,name,plan,()))) := by
 rw [Q3g]
 unfold p114 p113
 simp only [Int.reduceBEq,Int.reduceEq,beq_self_eq_true,Qt,Qf,if_true,if_false,Q0a,Q0f,Q0e,Q1p,Q0o]
 by_cases h0:z=0
 ·have b0:(z != 0)=false := by simp [h0]
  simp only [if_pos h0,b0,Qf,mRes,mForm]
  exact ⟨⟨#[]⟩,rfl⟩
 ·have b0:(z != 0)=true := by simpa using h0
  simp only [if_neg h0,b0,Qt,mRes,mForm]
  exact ⟨_,rfl⟩
theorem K0i (lo up:ByteArray) (e z:Int) (l:List Rd) (ps:List Pr) (cs:List Cn) (ep pr sq:Int) (key:ByteArray) (v:List Int) (off most:Int) (name:ByteArray) (plan:Int) (_:ps.length≤2097152) (_:4194304<fu) :
  ∃ s,p114 fu ((lo,up,e,z,l,ps,cs,5,ep,pr,sq,key,v,off,most,name,plan,0,0,false,(),()),())=some (((lo,up,e,z,l,ps,cs,5,ep,pr,sq,key,v,off,most,name,plan,0,(mRes (mayS (lo,up,e,z,l,ps,cs,()) (5,ep,pr,sq,key,v,off,most,name,plan,()))).1,(mRes (mayS (lo,up,e,z,l,ps,cs,()) (5,ep,pr,sq,key,v,off,most,name,plan,()))).2,(),()),(),(),(),()),mForm s (mayS (lo,up,e,z,l,ps,cs,()) (5,ep,pr,sq,key,v,off,most,name,plan,()))) := by
 rw [Q3g]
 unfold p114 p113
 simp only [Int.reduceBEq,Int.reduceEq,beq_self_eq_true,Qt,Qf,if_false,Q0a,Q0f,Q0e,Q1p,Q0o]
 by_cases h0:z=0
 ·have b0:(z != 0)=false := by simp [h0]
  simp only [if_pos h0,b0,Qf,mRes,mForm]
  exact ⟨⟨#[]⟩,trivial⟩
 ·have b0:(z != 0)=true := by simpa using h0
  by_cases h1:z=plan
  ·have b1:(z != plan)=false := by simp [h1]
   simp only [if_neg h0,if_pos h1,b0,b1,Qt,Qf,mRes,mForm]
   exact ⟨⟨#[]⟩,trivial⟩
  ·have b1:(z != plan)=true := by simpa using h1
   simp only [if_neg h0,if_neg h1,b0,b1,Qt,mRes,mForm]
   exact ⟨_,rfl⟩
theorem K0j (lo up:ByteArray) (e z:Int) (l:List Rd) (ps:List Pr) (cs:List Cn) (ep pr sq:Int) (key:ByteArray) (v:List Int) (off most:Int) (name:ByteArray) (plan:Int) (_:ps.length≤2097152) (_:4194304<fu) :
  ∃ s,p114 fu ((lo,up,e,z,l,ps,cs,6,ep,pr,sq,key,v,off,most,name,plan,0,0,false,(),()),())=some (((lo,up,e,z,l,ps,cs,6,ep,pr,sq,key,v,off,most,name,plan,0,(mRes (mayS (lo,up,e,z,l,ps,cs,()) (6,ep,pr,sq,key,v,off,most,name,plan,()))).1,(mRes (mayS (lo,up,e,z,l,ps,cs,()) (6,ep,pr,sq,key,v,off,most,name,plan,()))).2,(),()),(),(),(),()),mForm s (mayS (lo,up,e,z,l,ps,cs,()) (6,ep,pr,sq,key,v,off,most,name,plan,()))) := by
 rw [Q3g]
 unfold p114 p113
 simp only [Int.reduceBEq,Int.reduceEq,beq_self_eq_true,Qt,Qf,if_false,Q0a,Q0f,Q0e,Q1p,Q0o]
 by_cases h0:z=0
 ·have b0:(z != 0)=false := by simp [h0]
  simp only [if_pos h0,b0,Qf,mRes,mForm]
  exact ⟨⟨#[]⟩,trivial⟩
 ·have b0:(z != 0)=true := by simpa using h0
  by_cases h1:z=plan
  ·have b1:(z != plan)=false := by simp [h1]
   simp only [if_neg h0,if_pos h1,b0,b1,Qt,Qf,mRes,mForm]
   exact ⟨⟨#[]⟩,trivial⟩
  ·have b1:(z != plan)=true := by simpa using h1
   simp only [if_neg h0,if_neg h1,b0,b1,Qt,mRes,mForm]
   exact ⟨_,rfl⟩
end
section
variable {fu:Nat}
def eForm (s:ByteArray) (e:Int):Bool×(ByteArray×Int×Unit)×Unit := if e=0 then (false,dflt (.pair .str (.pair (.int .i64) .unit)),()) else (true,(s,e,()),())
def prodS (l:List Rd) (ps:List Pr) (pr sq:Int) (key:ByteArray) (v:List Int):List Rd×List Pr×Int×Int :=
 if l.length<4096 then (if (putS ps (pr,sq,true,(l.length:Int))).2=0 then (l ++ [((l.length:Int),key,v,pr,sq)],(putS ps (pr,sq,true,(l.length:Int))).1,(l.length:Int),0) else (l,ps,0,(putS ps (pr,sq,true,(l.length:Int))).2)) else (l,ps,0,143)
theorem K0k (lo up:ByteArray) (e z:Int) (l:List Rd) (ps:List Pr) (cs:List Cn) (k ep pr sq:Int) (key:ByteArray) (v:List Int) (off most:Int) (name:ByteArray) (plan:Int) (hl:logOk l=true) (hk:key.size≤32) (hv:v.length≤256) (hp:ps.length≤2097152) (hf:4194304<fu) :
  ∃ s,p115 fu ((lo,up,e,z,l,ps,cs,k,ep,pr,sq,key,v,off,most,name,plan,0,0,false,(),()),())=some (((lo,up,e,z,(prodS l ps pr sq key v).1,(prodS l ps pr sq key v).2.1,cs,k,ep,pr,sq,key,v,off,most,name,plan,0,(prodS l ps pr sq key v).2.2.1,false,(),()),(),(),(),()),eForm s (prodS l ps pr sq key v).2.2.2) := by
 have hn := (Q0y hl).1
 have e1 := X9r (fu := fu) l (0,key,v,pr,sq) hl hk hv hf
 have e2 := fun o:Int=>X9h (fu := fu) ps pr sq o (by omega) (by omega)
 unfold p115 p113 prodS
 simp only [Q0a,Qt]
 simp only [] at e1
 rw [e1]
 by_cases h:l.length<4096
 ·simp only [if_pos h,Q0f,show ((0:Int) != 0)=false from rfl,Qf,e2]
  by_cases h0:(putS ps (pr,sq,true,(l.length:Int))).2=0
  ·have b0:((putS ps (pr,sq,true,(l.length:Int))).2 != 0)=false := by simp [h0]
   simp only [if_pos h0,b0,Qf]
   exact ⟨⟨#[]⟩,rfl⟩
  ·have b0:((putS ps (pr,sq,true,(l.length:Int))).2 != 0)=true := by simpa using h0
   have b1:((putS ps (pr,sq,true,(l.length:Int))).2==0)=false := by simpa using h0
   refine ⟨⟨#[97,32,112,114,111,100,117,99,101,114]⟩,?_⟩
   simp only [if_neg h0,b0,b1,Qt,Qf,Q0f,eForm]
 ·simp only [if_neg h,Q0f]
  exact ⟨_,rfl⟩
def fetchS (l:List Rd) (c f:Int):List Rd×Int×Int :=
 if c≤(l.length:Int) then ((l.drop c.toNat).take (min (min f.toNat 64) (l.length-c.toNat)),c+(((l.drop c.toNat).take (min (min f.toNat 64) (l.length-c.toNat))).length:Int),0) else ([],0,141)
theorem K0l (lo up:ByteArray) (e z:Int) (l:List Rd) (ps:List Pr) (cs:List Cn) (k ep pr sq:Int) (key:ByteArray) (v:List Int) (off most:Int) (name:ByteArray) (plan:Int) (hl:logOk l=true) (h0:0≤off) (hf:4194304<fu) :
  ∃ s,p116 fu ((lo,up,e,z,l,ps,cs,k,ep,pr,sq,key,v,off,most,name,plan,0,0,false,(),()),())=some (((lo,up,e,z,l,ps,cs,k,ep,pr,sq,key,v,off,most,name,plan,0,(fetchS l off most).2.1,false,(fetchS l off most).1,()),(),(),(),()),eForm s (fetchS l off most).2.2) := by
 have hn := (Q0y hl).1
 unfold p116 p113 fetchS
 simp only [Q0a,Qt,X9s l off most hl h0 hf]
 by_cases h:off≤(l.length:Int)
 ·simp only [if_pos h,Q0f,show ((0:Int) != 0)=false from rfl,Qf]
  have hm:((l.drop off.toNat).take (min (min most.toNat 64) (l.length-off.toNat))).length≤4096 := by simp; omega
  generalize hg:(l.drop off.toNat).take (min (min most.toNat 64) (l.length-off.toNat))=m at hm ⊢
  have hw:IntKind.wrap .u64 (off+(IntKind.wrap .u64 (m.length:Int)))=off+(m.length:Int) := by
   rw [Q2a (x := (m.length:Int)) (by omega) (by omega),Q2a (by omega) (by omega)]
  simp only [hw]
  exact ⟨⟨#[]⟩,rfl⟩
 ·simp only [if_neg h,Q0f]
  exact ⟨_,rfl⟩
def comS (cs:List Cn) (ps:List Pr) (pr sq:Int) (name:ByteArray) (off h:Int):List Pr×List Cn×Int×Int :=
 if (commitS cs name off h).2=0 then (if (putS ps (pr,sq,false,0)).2=0 then ((putS ps (pr,sq,false,0)).1,(commitS cs name off h).1,off,0) else (ps,cs,0,(putS ps (pr,sq,false,0)).2)) else (ps,cs,0,(commitS cs name off h).2)
theorem K0m (lo up:ByteArray) (e z:Int) (l:List Rd) (ps:List Pr) (cs:List Cn) (k ep pr sq:Int) (key:ByteArray) (v:List Int) (off most:Int) (name:ByteArray) (plan:Int) (hl:l.length≤2097152) (hc:okL cs) (hn:name.size≤1048576) (hp:ps.length≤2097152) (hf:4194304<fu) :
  ∃ s,p117 fu ((lo,up,e,z,l,ps,cs,k,ep,pr,sq,key,v,off,most,name,plan,0,0,false,(),()),())=some (((lo,up,e,z,l,(comS cs ps pr sq name off (l.length:Int)).1,(comS cs ps pr sq name off (l.length:Int)).2.1,k,ep,pr,sq,key,v,off,most,name,plan,0,(comS cs ps pr sq name off (l.length:Int)).2.2.1,false,(),()),(),(),(),()),eForm s (comS cs ps pr sq name off (l.length:Int)).2.2.2) := by
 have e2 := X9j (fu := fu) ps pr sq (by omega) (by omega)
 unfold p117 p113 comS
 simp only [Q0a,Qt,Q2a (x := (l.length:Int)) (by omega) (by omega),X8w cs name off (l.length:Int) hc hn hf,Q0f]
 by_cases h:(commitS cs name off (l.length:Int)).2=0
 ·have b0:((commitS cs name off (l.length:Int)).2 != 0)=false := by simp [h]
  simp only [if_pos h,b0,Qf,e2,Q0f]
  by_cases h0:(putS ps (pr,sq,false,0)).2=0
  ·have b0:((putS ps (pr,sq,false,0)).2 != 0)=false := by simp [h0]
   simp only [if_pos h0,b0,Qf]
   exact ⟨⟨#[]⟩,rfl⟩
  ·have b0:((putS ps (pr,sq,false,0)).2 != 0)=true := by simpa using h0
   have b1:((putS ps (pr,sq,false,0)).2==0)=false := by simpa using h0
   refine ⟨⟨#[97,32,112,114,111,100,117,99,101,114]⟩,?_⟩
   simp only [if_neg h0,b0,b1,Qt,Qf,Q0f,eForm]
 ·have b0:((commitS cs name off (l.length:Int)).2 != 0)=true := by simpa using h
  have b1:((commitS cs name off (l.length:Int)).2==0)=false := by simpa using h
  refine ⟨⟨#[97,32,99,111,110,115,117,109,101,114]⟩,?_⟩
  simp only [if_neg h,b0,b1,Qt,Qf,Q0f,eForm]
abbrev Fo := Option (Option Int)
def wForm (s:ByteArray):Fo→Bool×(ByteArray×Int×Unit)×(Bool×Unit×Unit)
 | none=>(false,dflt (.pair .str (.pair (.int .i64) .unit)),(true,(),()))
 | some (some e)=>(true,(s,e,()),dflt (.pair .bool (.pair .unit .unit)))
 | some none=>(false,dflt (.pair .str (.pair (.int .i64) .unit)),(false,(),()))
def errF (e:Int):Fo := if e=0 then none else some (some e)
def actS:St16→Cm16→St16×Rs16×Fo
 | (lo,up,e,z,l,ps,cs,_),(k,_,pr,sq,key,v,off,most,name,plan,_) =>
  if k=1 then ((lo,up,e,z,(prodS l ps pr sq key v).1,(prodS l ps pr sq key v).2.1,cs,()),(0,(prodS l ps pr sq key v).2.2.1,false,[],()),errF (prodS l ps pr sq key v).2.2.2)
  else if k=2 then ((lo,up,e,z,l,ps,cs,()),(0,(fetchS l off most).2.1,false,(fetchS l off most).1,()),errF (fetchS l off most).2.2)
  else if k=3 then ((lo,up,e,z,l,(comS cs ps pr sq name off (l.length:Int)).1,(comS cs ps pr sq name off (l.length:Int)).2.1,()),(0,(comS cs ps pr sq name off (l.length:Int)).2.2.1,false,[],()),errF (comS cs ps pr sq name off (l.length:Int)).2.2.2)
  else if k=4 then ((lo,up,e,z,l,ps,cs,()),(0,(readC cs name).1,(readC cs name).2,[],()),none)
  else if k=5 then ((lo,up,e,plan,l,ps,cs,()),(0,0,z != 0,[],()),none)
  else ((lo,up,e,0,l,ps,cs,()),(0,0,z==0,[],()),none)
def wkS (p:St16) (c:Cm16):St16×Rs16×Fo :=
 if wfS c=false then (p,(0,0,false,[],()),some (some 161)) else if c.2.1=p.2.2.1 then (match mayS p c with
  | some (.inl n)=>(p,(0,0,false,[],()),some (some n))
  | some (.inr r)=>(p,(0,r.1,r.2,[],()),some none)
  | none=>actS p c) else (p,(0,0,false,[],()),some (some 162))
theorem K0n (lo up:ByteArray) (e z:Int) (l:List Rd) (ps:List Pr) (cs:List Cn) (k ep pr sq:Int) (key:ByteArray) (v:List Int) (off most:Int) (name:ByteArray) (plan:Int) (hn:name.size≤1048576) (hf:4194304<fu) (hw:wfS (k,ep,pr,sq,key,v,off,most,name,plan,())=false) :
  ∃ s,p62 fu ((lo,up,e,z,l,ps,cs,k,ep,pr,sq,key,v,off,most,name,plan,0,0,false,(),()),())=some (((lo,up,e,z,l,ps,cs,k,ep,pr,sq,key,v,off,most,name,plan,0,0,false,[],()),(),(),(),()),wForm s (some (some 161))) := by
 unfold p62
 simp only [Q1s _ _ _ _ _ _ _ _ _ _ hn hf,Q0f,hw,Bool.not_false,Q0a,Qt]
 exact ⟨_,rfl⟩
theorem K0o (lo up:ByteArray) (e z:Int) (l:List Rd) (ps:List Pr) (cs:List Cn) (k ep pr sq:Int) (key:ByteArray) (v:List Int) (off most:Int) (name:ByteArray) (plan:Int) (hn:name.size≤1048576) (hf:4194304<fu) (hw:wfS (k,ep,pr,sq,key,v,off,most,name,plan,())=true) (he:¬ ep=e) :
  ∃ s,p62 fu ((lo,up,e,z,l,ps,cs,k,ep,pr,sq,key,v,off,most,name,plan,0,0,false,(),()),())=some (((lo,up,e,z,l,ps,cs,k,ep,pr,sq,key,v,off,most,name,plan,0,0,false,[],()),(),(),(),()),wForm s (some (some 162))) := by
 have b0:(ep != e)=true := by simpa using he
 unfold p62
 simp only [Q1s _ _ _ _ _ _ _ _ _ _ hn hf,Q0f,hw,Bool.not_true,Qf,b0,Q0a,Qt]
 exact ⟨_,rfl⟩
theorem K0p (lo up:ByteArray) (_ z:Int) (l:List Rd) (ps:List Pr) (cs:List Cn) (k ep pr sq:Int) (key:ByteArray) (v:List Int) (off most:Int) (name:ByteArray) (plan:Int) (hn:name.size≤1048576) (hf:4194304<fu) (hw:wfS (k,ep,pr,sq,key,v,off,most,name,plan,())=true) (s:ByteArray) (n:Int) (hs:p114 fu ((lo,up,ep,z,l,ps,cs,k,ep,pr,sq,key,v,off,most,name,plan,0,0,false,(),()),())=some (((lo,up,ep,z,l,ps,cs,k,ep,pr,sq,key,v,off,most,name,plan,0,(mRes (some (.inl n))).1,(mRes (some (.inl n))).2,(),()),(),(),(),()),mForm s (some (.inl n)))) :
  p62 fu ((lo,up,ep,z,l,ps,cs,k,ep,pr,sq,key,v,off,most,name,plan,0,0,false,(),()),())=some (((lo,up,ep,z,l,ps,cs,k,ep,pr,sq,key,v,off,most,name,plan,0,0,false,[],()),(),(),(),()),wForm s (some (some n))) := by
 have b0:(ep != ep)=false := by simp
 unfold p62
 simp only [Q1s _ _ _ _ _ _ _ _ _ _ hn hf,Q0f,hw,Bool.not_true,Qf,b0,Q0a,Qt,hs]
 rfl
theorem K0q (lo up:ByteArray) (_ z:Int) (l:List Rd) (ps:List Pr) (cs:List Cn) (k ep pr sq:Int) (key:ByteArray) (v:List Int) (off most:Int) (name:ByteArray) (plan:Int) (hn:name.size≤1048576) (hf:4194304<fu) (hw:wfS (k,ep,pr,sq,key,v,off,most,name,plan,())=true) (s:ByteArray) (r:Int×Bool) (hs:p114 fu ((lo,up,ep,z,l,ps,cs,k,ep,pr,sq,key,v,off,most,name,plan,0,0,false,(),()),())=some (((lo,up,ep,z,l,ps,cs,k,ep,pr,sq,key,v,off,most,name,plan,0,(mRes (some (.inr r))).1,(mRes (some (.inr r))).2,(),()),(),(),(),()),mForm s (some (.inr r)))) :
  p62 fu ((lo,up,ep,z,l,ps,cs,k,ep,pr,sq,key,v,off,most,name,plan,0,0,false,(),()),())=some (((lo,up,ep,z,l,ps,cs,k,ep,pr,sq,key,v,off,most,name,plan,0,r.1,r.2,[],()),(),(),(),()),wForm ⟨#[]⟩ (some none)) := by
 have b0:(ep != ep)=false := by simp
 unfold p62
 simp only [Q1s _ _ _ _ _ _ _ _ _ _ hn hf,Q0f,hw,Bool.not_true,Qf,b0,Q0a,Qt,hs]
 rfl
theorem K0r (lo up:ByteArray) (z:Int) (l:List Rd) (ps:List Pr) (cs:List Cn) (ep pr sq:Int) (key:ByteArray) (v:List Int) (off most:Int) (name:ByteArray) (plan:Int) (hl:logOk l=true) (hp:ps.length≤2097152) (_:okL cs) (_:0≤off) (hn:name.size≤1048576) (hf:4194304<fu) (hw:wfS (1,ep,pr,sq,key,v,off,most,name,plan,())=true) (s:ByteArray) (hs:p114 fu ((lo,up,ep,z,l,ps,cs,1,ep,pr,sq,key,v,off,most,name,plan,0,0,false,(),()),())=some (((lo,up,ep,z,l,ps,cs,1,ep,pr,sq,key,v,off,most,name,plan,0,(mRes none).1,(mRes none).2,(),()),(),(),(),()),mForm s none)) :
  ∃ s,p62 fu ((lo,up,ep,z,l,ps,cs,1,ep,pr,sq,key,v,off,most,name,plan,0,0,false,(),()),())=some ((((actS (lo,up,ep,z,l,ps,cs,()) (1,ep,pr,sq,key,v,off,most,name,plan,())).1.1,(actS (lo,up,ep,z,l,ps,cs,()) (1,ep,pr,sq,key,v,off,most,name,plan,())).1.2.1,(actS (lo,up,ep,z,l,ps,cs,()) (1,ep,pr,sq,key,v,off,most,name,plan,())).1.2.2.1,(actS (lo,up,ep,z,l,ps,cs,()) (1,ep,pr,sq,key,v,off,most,name,plan,())).1.2.2.2.1,(actS (lo,up,ep,z,l,ps,cs,()) (1,ep,pr,sq,key,v,off,most,name,plan,())).1.2.2.2.2.1,(actS (lo,up,ep,z,l,ps,cs,()) (1,ep,pr,sq,key,v,off,most,name,plan,())).1.2.2.2.2.2.1,(actS (lo,up,ep,z,l,ps,cs,()) (1,ep,pr,sq,key,v,off,most,name,plan,())).1.2.2.2.2.2.2.1,1,ep,pr,sq,key,v,off,most,name,plan,(actS (lo,up,ep,z,l,ps,cs,()) (1,ep,pr,sq,key,v,off,most,name,plan,())).2.1.1,(actS (lo,up,ep,z,l,ps,cs,()) (1,ep,pr,sq,key,v,off,most,name,plan,())).2.1.2.1,(actS (lo,up,ep,z,l,ps,cs,()) (1,ep,pr,sq,key,v,off,most,name,plan,())).2.1.2.2.1,(actS (lo,up,ep,z,l,ps,cs,()) (1,ep,pr,sq,key,v,off,most,name,plan,())).2.1.2.2.2.1,()),(),(),(),()),wForm s (actS (lo,up,ep,z,l,ps,cs,()) (1,ep,pr,sq,key,v,off,most,name,plan,())).2.2) := by
 have hll := (Q0y hl).1
 have b0:(ep != ep)=false := by simp
 unfold p62 actS
 simp only [Q1s _ _ _ _ _ _ _ _ _ _ hn hf,Q0f,hw,Bool.not_true,Qf,b0,Q0a,Qt,hs,mRes,mForm,Q0e]
 obtain ⟨s1,h1⟩ := K0k (fu := fu) lo up ep z l ps cs 1 ep pr sq key v off most name plan hl (by have := hw; simp only [wfS,if_true,Bool.and_eq_true,decide_eq_true_eq] at this; exact this.2.1) (by have := hw; simp only [wfS,if_true,Bool.and_eq_true,decide_eq_true_eq] at this; exact this.2.2) hp hf
 simp only [beq_self_eq_true,Qt,if_true,h1,Q0f]
 refine ⟨s1,?_⟩
 unfold errF eForm
 by_cases g:(prodS l ps pr sq key v).2.2.2=0
 ·simp only [if_pos g,Qf,Q0e,wForm]
 ·simp only [if_neg g,Qt,Q0e,wForm]
end
section
variable {fu:Nat}
theorem K0s (lo up:ByteArray) (z:Int) (l:List Rd) (ps:List Pr) (cs:List Cn) (ep pr sq:Int) (key:ByteArray) (v:List Int) (off most:Int) (name:ByteArray) (plan:Int) (hl:logOk l=true) (_:ps.length≤2097152) (_:okL cs) (h0:0≤off) (hn:name.size≤1048576) (hf:4194304<fu) (hw:wfS (2,ep,pr,sq,key,v,off,most,name,plan,())=true) (s:ByteArray) (hs:p114 fu ((lo,up,ep,z,l,ps,cs,2,ep,pr,sq,key,v,off,most,name,plan,0,0,false,(),()),())=some (((lo,up,ep,z,l,ps,cs,2,ep,pr,sq,key,v,off,most,name,plan,0,(mRes none).1,(mRes none).2,(),()),(),(),(),()),mForm s none)) :
  ∃ s,p62 fu ((lo,up,ep,z,l,ps,cs,2,ep,pr,sq,key,v,off,most,name,plan,0,0,false,(),()),())=some ((((actS (lo,up,ep,z,l,ps,cs,()) (2,ep,pr,sq,key,v,off,most,name,plan,())).1.1,(actS (lo,up,ep,z,l,ps,cs,()) (2,ep,pr,sq,key,v,off,most,name,plan,())).1.2.1,(actS (lo,up,ep,z,l,ps,cs,()) (2,ep,pr,sq,key,v,off,most,name,plan,())).1.2.2.1,(actS (lo,up,ep,z,l,ps,cs,()) (2,ep,pr,sq,key,v,off,most,name,plan,())).1.2.2.2.1,(actS (lo,up,ep,z,l,ps,cs,()) (2,ep,pr,sq,key,v,off,most,name,plan,())).1.2.2.2.2.1,(actS (lo,up,ep,z,l,ps,cs,()) (2,ep,pr,sq,key,v,off,most,name,plan,())).1.2.2.2.2.2.1,(actS (lo,up,ep,z,l,ps,cs,()) (2,ep,pr,sq,key,v,off,most,name,plan,())).1.2.2.2.2.2.2.1,2,ep,pr,sq,key,v,off,most,name,plan,(actS (lo,up,ep,z,l,ps,cs,()) (2,ep,pr,sq,key,v,off,most,name,plan,())).2.1.1,(actS (lo,up,ep,z,l,ps,cs,()) (2,ep,pr,sq,key,v,off,most,name,plan,())).2.1.2.1,(actS (lo,up,ep,z,l,ps,cs,()) (2,ep,pr,sq,key,v,off,most,name,plan,())).2.1.2.2.1,(actS (lo,up,ep,z,l,ps,cs,()) (2,ep,pr,sq,key,v,off,most,name,plan,())).2.1.2.2.2.1,()),(),(),(),()),wForm s (actS (lo,up,ep,z,l,ps,cs,()) (2,ep,pr,sq,key,v,off,most,name,plan,())).2.2) := by
 have hll := (Q0y hl).1
 have b0:(ep != ep)=false := by simp
 unfold p62 actS
 simp only [Q1s _ _ _ _ _ _ _ _ _ _ hn hf,Q0f,hw,Bool.not_true,Qf,b0,Q0a,Qt,hs,mRes,mForm,Q0e]
 obtain ⟨s1,h1⟩ := K0l (fu := fu) lo up ep z l ps cs 2 ep pr sq key v off most name plan hl h0 hf
 generalize fetchS l off most=q at h1 ⊢
 simp only [Int.reduceBEq,Int.reduceEq,Qt,Qf,if_true,if_false]
 rw [h1]
 simp only [Q0f]
 refine ⟨s1,?_⟩
 unfold errF eForm
 by_cases g:q.2.2=0
 ·simp only [if_pos g,Qf,Q0e,wForm]
 ·simp only [if_neg g,Qt,Q0e,wForm]
theorem K0t (lo up:ByteArray) (z:Int) (l:List Rd) (ps:List Pr) (cs:List Cn) (ep pr sq:Int) (key:ByteArray) (v:List Int) (off most:Int) (name:ByteArray) (plan:Int) (hl:logOk l=true) (hp:ps.length≤2097152) (hc:okL cs) (_:0≤off) (hn:name.size≤1048576) (hf:4194304<fu) (hw:wfS (3,ep,pr,sq,key,v,off,most,name,plan,())=true) (s:ByteArray) (hs:p114 fu ((lo,up,ep,z,l,ps,cs,3,ep,pr,sq,key,v,off,most,name,plan,0,0,false,(),()),())=some (((lo,up,ep,z,l,ps,cs,3,ep,pr,sq,key,v,off,most,name,plan,0,(mRes none).1,(mRes none).2,(),()),(),(),(),()),mForm s none)) :
  ∃ s,p62 fu ((lo,up,ep,z,l,ps,cs,3,ep,pr,sq,key,v,off,most,name,plan,0,0,false,(),()),())=some ((((actS (lo,up,ep,z,l,ps,cs,()) (3,ep,pr,sq,key,v,off,most,name,plan,())).1.1,(actS (lo,up,ep,z,l,ps,cs,()) (3,ep,pr,sq,key,v,off,most,name,plan,())).1.2.1,(actS (lo,up,ep,z,l,ps,cs,()) (3,ep,pr,sq,key,v,off,most,name,plan,())).1.2.2.1,(actS (lo,up,ep,z,l,ps,cs,()) (3,ep,pr,sq,key,v,off,most,name,plan,())).1.2.2.2.1,(actS (lo,up,ep,z,l,ps,cs,()) (3,ep,pr,sq,key,v,off,most,name,plan,())).1.2.2.2.2.1,(actS (lo,up,ep,z,l,ps,cs,()) (3,ep,pr,sq,key,v,off,most,name,plan,())).1.2.2.2.2.2.1,(actS (lo,up,ep,z,l,ps,cs,()) (3,ep,pr,sq,key,v,off,most,name,plan,())).1.2.2.2.2.2.2.1,3,ep,pr,sq,key,v,off,most,name,plan,(actS (lo,up,ep,z,l,ps,cs,()) (3,ep,pr,sq,key,v,off,most,name,plan,())).2.1.1,(actS (lo,up,ep,z,l,ps,cs,()) (3,ep,pr,sq,key,v,off,most,name,plan,())).2.1.2.1,(actS (lo,up,ep,z,l,ps,cs,()) (3,ep,pr,sq,key,v,off,most,name,plan,())).2.1.2.2.1,(actS (lo,up,ep,z,l,ps,cs,()) (3,ep,pr,sq,key,v,off,most,name,plan,())).2.1.2.2.2.1,()),(),(),(),()),wForm s (actS (lo,up,ep,z,l,ps,cs,()) (3,ep,pr,sq,key,v,off,most,name,plan,())).2.2) := by
 have hll := (Q0y hl).1
 have b0:(ep != ep)=false := by simp
 unfold p62 actS
 simp only [Q1s _ _ _ _ _ _ _ _ _ _ hn hf,Q0f,hw,Bool.not_true,Qf,b0,Q0a,Qt,hs,mRes,mForm,Q0e]
 obtain ⟨s1,h1⟩ := K0m (fu := fu) lo up ep z l ps cs 3 ep pr sq key v off most name plan (by omega) hc hn hp hf
 simp only [Int.reduceBEq,Int.reduceEq,Qt,Qf,if_true,if_false,h1,Q0f]
 refine ⟨s1,?_⟩
 unfold errF eForm
 by_cases g:(comS cs ps pr sq name off (l.length:Int)).2.2.2=0
 ·simp only [if_pos g,Qf,Q0e,wForm]
 ·simp only [if_neg g,Qt,Q0e,wForm]
theorem K0u (lo up:ByteArray) (z:Int) (l:List Rd) (ps:List Pr) (cs:List Cn) (ep pr sq:Int) (key:ByteArray) (v:List Int) (off most:Int) (name:ByteArray) (plan:Int) (hl:logOk l=true) (_:ps.length≤2097152) (hc:okL cs) (_:0≤off) (hn:name.size≤1048576) (hf:4194304<fu) (hw:wfS (4,ep,pr,sq,key,v,off,most,name,plan,())=true) (s:ByteArray) (hs:p114 fu ((lo,up,ep,z,l,ps,cs,4,ep,pr,sq,key,v,off,most,name,plan,0,0,false,(),()),())=some (((lo,up,ep,z,l,ps,cs,4,ep,pr,sq,key,v,off,most,name,plan,0,(mRes none).1,(mRes none).2,(),()),(),(),(),()),mForm s none)) :
  ∃ s,p62 fu ((lo,up,ep,z,l,ps,cs,4,ep,pr,sq,key,v,off,most,name,plan,0,0,false,(),()),())=some ((((actS (lo,up,ep,z,l,ps,cs,()) (4,ep,pr,sq,key,v,off,most,name,plan,())).1.1,(actS (lo,up,ep,z,l,ps,cs,()) (4,ep,pr,sq,key,v,off,most,name,plan,())).1.2.1,(actS (lo,up,ep,z,l,ps,cs,()) (4,ep,pr,sq,key,v,off,most,name,plan,())).1.2.2.1,(actS (lo,up,ep,z,l,ps,cs,()) (4,ep,pr,sq,key,v,off,most,name,plan,())).1.2.2.2.1,(actS (lo,up,ep,z,l,ps,cs,()) (4,ep,pr,sq,key,v,off,most,name,plan,())).1.2.2.2.2.1,(actS (lo,up,ep,z,l,ps,cs,()) (4,ep,pr,sq,key,v,off,most,name,plan,())).1.2.2.2.2.2.1,(actS (lo,up,ep,z,l,ps,cs,()) (4,ep,pr,sq,key,v,off,most,name,plan,())).1.2.2.2.2.2.2.1,4,ep,pr,sq,key,v,off,most,name,plan,(actS (lo,up,ep,z,l,ps,cs,()) (4,ep,pr,sq,key,v,off,most,name,plan,())).2.1.1,(actS (lo,up,ep,z,l,ps,cs,()) (4,ep,pr,sq,key,v,off,most,name,plan,())).2.1.2.1,(actS (lo,up,ep,z,l,ps,cs,()) (4,ep,pr,sq,key,v,off,most,name,plan,())).2.1.2.2.1,(actS (lo,up,ep,z,l,ps,cs,()) (4,ep,pr,sq,key,v,off,most,name,plan,())).2.1.2.2.2.1,()),(),(),(),()),wForm s (actS (lo,up,ep,z,l,ps,cs,()) (4,ep,pr,sq,key,v,off,most,name,plan,())).2.2) := by
 have hll := (Q0y hl).1
 have b0:(ep != ep)=false := by simp
 unfold p62 actS
 simp only [Q1s _ _ _ _ _ _ _ _ _ _ hn hf,Q0f,hw,Bool.not_true,Qf,b0,Q0a,Qt,hs,mRes,mForm,Q0e]
 simp only [Int.reduceBEq,Int.reduceEq,Qt,Qf,if_true,if_false,X8s cs name hc.1 hf,Q0f]
 exact ⟨⟨#[]⟩,rfl⟩
theorem K0v (lo up:ByteArray) (z:Int) (l:List Rd) (ps:List Pr) (cs:List Cn) (ep pr sq:Int) (key:ByteArray) (v:List Int) (off most:Int) (name:ByteArray) (plan:Int) (hl:logOk l=true) (_:ps.length≤2097152) (_:okL cs) (_:0≤off) (hn:name.size≤1048576) (hf:4194304<fu) (hw:wfS (5,ep,pr,sq,key,v,off,most,name,plan,())=true) (s:ByteArray) (hs:p114 fu ((lo,up,ep,z,l,ps,cs,5,ep,pr,sq,key,v,off,most,name,plan,0,0,false,(),()),())=some (((lo,up,ep,z,l,ps,cs,5,ep,pr,sq,key,v,off,most,name,plan,0,(mRes none).1,(mRes none).2,(),()),(),(),(),()),mForm s none)) :
  ∃ s,p62 fu ((lo,up,ep,z,l,ps,cs,5,ep,pr,sq,key,v,off,most,name,plan,0,0,false,(),()),())=some ((((actS (lo,up,ep,z,l,ps,cs,()) (5,ep,pr,sq,key,v,off,most,name,plan,())).1.1,(actS (lo,up,ep,z,l,ps,cs,()) (5,ep,pr,sq,key,v,off,most,name,plan,())).1.2.1,(actS (lo,up,ep,z,l,ps,cs,()) (5,ep,pr,sq,key,v,off,most,name,plan,())).1.2.2.1,(actS (lo,up,ep,z,l,ps,cs,()) (5,ep,pr,sq,key,v,off,most,name,plan,())).1.2.2.2.1,(actS (lo,up,ep,z,l,ps,cs,()) (5,ep,pr,sq,key,v,off,most,name,plan,())).1.2.2.2.2.1,(actS (lo,up,ep,z,l,ps,cs,()) (5,ep,pr,sq,key,v,off,most,name,plan,())).1.2.2.2.2.2.1,(actS (lo,up,ep,z,l,ps,cs,()) (5,ep,pr,sq,key,v,off,most,name,plan,())).1.2.2.2.2.2.2.1,5,ep,pr,sq,key,v,off,most,name,plan,(actS (lo,up,ep,z,l,ps,cs,()) (5,ep,pr,sq,key,v,off,most,name,plan,())).2.1.1,(actS (lo,up,ep,z,l,ps,cs,()) (5,ep,pr,sq,key,v,off,most,name,plan,())).2.1.2.1,(actS (lo,up,ep,z,l,ps,cs,()) (5,ep,pr,sq,key,v,off,most,name,plan,())).2.1.2.2.1,(actS (lo,up,ep,z,l,ps,cs,()) (5,ep,pr,sq,key,v,off,most,name,plan,())).2.1.2.2.2.1,()),(),(),(),()),wForm s (actS (lo,up,ep,z,l,ps,cs,()) (5,ep,pr,sq,key,v,off,most,name,plan,())).2.2) := by
 have hll := (Q0y hl).1
 have b0:(ep != ep)=false := by simp
 unfold p62 actS
 simp only [Q1s _ _ _ _ _ _ _ _ _ _ hn hf,Q0f,hw,Bool.not_true,Qf,b0,Q0a,Qt,hs,mRes,mForm,Q0e]
 simp only [Int.reduceBEq,Int.reduceEq,Qt,Qf,if_true,if_false]
 exact ⟨⟨#[]⟩,rfl⟩
theorem K0w (lo up:ByteArray) (z:Int) (l:List Rd) (ps:List Pr) (cs:List Cn) (ep pr sq:Int) (key:ByteArray) (v:List Int) (off most:Int) (name:ByteArray) (plan:Int) (hl:logOk l=true) (_:ps.length≤2097152) (_:okL cs) (_:0≤off) (hn:name.size≤1048576) (hf:4194304<fu) (hw:wfS (6,ep,pr,sq,key,v,off,most,name,plan,())=true) (s:ByteArray) (hs:p114 fu ((lo,up,ep,z,l,ps,cs,6,ep,pr,sq,key,v,off,most,name,plan,0,0,false,(),()),())=some (((lo,up,ep,z,l,ps,cs,6,ep,pr,sq,key,v,off,most,name,plan,0,(mRes none).1,(mRes none).2,(),()),(),(),(),()),mForm s none)) :
  ∃ s,p62 fu ((lo,up,ep,z,l,ps,cs,6,ep,pr,sq,key,v,off,most,name,plan,0,0,false,(),()),())=some ((((actS (lo,up,ep,z,l,ps,cs,()) (6,ep,pr,sq,key,v,off,most,name,plan,())).1.1,(actS (lo,up,ep,z,l,ps,cs,()) (6,ep,pr,sq,key,v,off,most,name,plan,())).1.2.1,(actS (lo,up,ep,z,l,ps,cs,()) (6,ep,pr,sq,key,v,off,most,name,plan,())).1.2.2.1,(actS (lo,up,ep,z,l,ps,cs,()) (6,ep,pr,sq,key,v,off,most,name,plan,())).1.2.2.2.1,(actS (lo,up,ep,z,l,ps,cs,()) (6,ep,pr,sq,key,v,off,most,name,plan,())).1.2.2.2.2.1,(actS (lo,up,ep,z,l,ps,cs,()) (6,ep,pr,sq,key,v,off,most,name,plan,())).1.2.2.2.2.2.1,(actS (lo,up,ep,z,l,ps,cs,()) (6,ep,pr,sq,key,v,off,most,name,plan,())).1.2.2.2.2.2.2.1,6,ep,pr,sq,key,v,off,most,name,plan,(actS (lo,up,ep,z,l,ps,cs,()) (6,ep,pr,sq,key,v,off,most,name,plan,())).2.1.1,(actS (lo,up,ep,z,l,ps,cs,()) (6,ep,pr,sq,key,v,off,most,name,plan,())).2.1.2.1,(actS (lo,up,ep,z,l,ps,cs,()) (6,ep,pr,sq,key,v,off,most,name,plan,())).2.1.2.2.1,(actS (lo,up,ep,z,l,ps,cs,()) (6,ep,pr,sq,key,v,off,most,name,plan,())).2.1.2.2.2.1,()),(),(),(),()),wForm s (actS (lo,up,ep,z,l,ps,cs,()) (6,ep,pr,sq,key,v,off,most,name,plan,())).2.2) := by
 have hll := (Q0y hl).1
 have b0:(ep != ep)=false := by simp
 unfold p62 actS
 simp only [Q1s _ _ _ _ _ _ _ _ _ _ hn hf,Q0f,hw,Bool.not_true,Qf,b0,Q0a,Qt,hs,mRes,mForm,Q0e]
 simp only [Int.reduceBEq,Int.reduceEq,Qt,Qf,if_false]
 exact ⟨⟨#[]⟩,rfl⟩
theorem K0x (lo up:ByteArray) (e z:Int) (l:List Rd) (ps:List Pr) (cs:List Cn) (k ep pr sq:Int) (key:ByteArray) (v:List Int) (off most:Int) (name:ByteArray) (plan:Int) (hl:logOk l=true) (hp:ps.length≤2097152) (hc:okL cs) (hn:name.size≤1048576) (h0:0≤off) (hf:4194304<fu) :
  ∃ s,p62 fu ((lo,up,e,z,l,ps,cs,k,ep,pr,sq,key,v,off,most,name,plan,0,0,false,(),()),())=some ((((wkS (lo,up,e,z,l,ps,cs,()) (k,ep,pr,sq,key,v,off,most,name,plan,())).1.1,(wkS (lo,up,e,z,l,ps,cs,()) (k,ep,pr,sq,key,v,off,most,name,plan,())).1.2.1,(wkS (lo,up,e,z,l,ps,cs,()) (k,ep,pr,sq,key,v,off,most,name,plan,())).1.2.2.1,(wkS (lo,up,e,z,l,ps,cs,()) (k,ep,pr,sq,key,v,off,most,name,plan,())).1.2.2.2.1,(wkS (lo,up,e,z,l,ps,cs,()) (k,ep,pr,sq,key,v,off,most,name,plan,())).1.2.2.2.2.1,(wkS (lo,up,e,z,l,ps,cs,()) (k,ep,pr,sq,key,v,off,most,name,plan,())).1.2.2.2.2.2.1,(wkS (lo,up,e,z,l,ps,cs,()) (k,ep,pr,sq,key,v,off,most,name,plan,())).1.2.2.2.2.2.2.1,k,ep,pr,sq,key,v,off,most,name,plan,(wkS (lo,up,e,z,l,ps,cs,()) (k,ep,pr,sq,key,v,off,most,name,plan,())).2.1.1,(wkS (lo,up,e,z,l,ps,cs,()) (k,ep,pr,sq,key,v,off,most,name,plan,())).2.1.2.1,(wkS (lo,up,e,z,l,ps,cs,()) (k,ep,pr,sq,key,v,off,most,name,plan,())).2.1.2.2.1,(wkS (lo,up,e,z,l,ps,cs,()) (k,ep,pr,sq,key,v,off,most,name,plan,())).2.1.2.2.2.1,()),(),(),(),()),wForm s (wkS (lo,up,e,z,l,ps,cs,()) (k,ep,pr,sq,key,v,off,most,name,plan,())).2.2) := by
 unfold wkS
 cases hw:wfS (k,ep,pr,sq,key,v,off,most,name,plan,()) with
 | false=>exact K0n _ _ _ _ _ _ _ _ _ _ _ _ _ _ _ _ _ hn hf hw
 | true =>
  simp only [Bool.true_eq_false,if_false]
  by_cases he:ep=e
  ·subst he
   simp only [if_true]
   have hk := Q4l hw
   have hm:∃ s,p114 fu ((lo,up,ep,z,l,ps,cs,k,ep,pr,sq,key,v,off,most,name,plan,0,0,false,(),()),())=some (((lo,up,ep,z,l,ps,cs,k,ep,pr,sq,key,v,off,most,name,plan,0,(mRes (mayS (lo,up,ep,z,l,ps,cs,()) (k,ep,pr,sq,key,v,off,most,name,plan,()))).1,(mRes (mayS (lo,up,ep,z,l,ps,cs,()) (k,ep,pr,sq,key,v,off,most,name,plan,()))).2,(),()),(),(),(),()),mForm s (mayS (lo,up,ep,z,l,ps,cs,()) (k,ep,pr,sq,key,v,off,most,name,plan,()))) := by
    simp only at hk
    rcases hk with rfl | rfl | rfl | rfl | rfl | rfl
    ·exact K0e _ _ _ _ _ _ _ _ _ _ _ _ _ _ _ _ hp hf
    ·exact K0f _ _ _ _ _ _ _ _ _ _ _ _ _ _ _ _ hp hf
    ·exact K0g _ _ _ _ _ _ _ _ _ _ _ _ _ _ _ _ hp hf
    ·exact K0h _ _ _ _ _ _ _ _ _ _ _ _ _ _ _ _ hp hf
    ·exact K0i _ _ _ _ _ _ _ _ _ _ _ _ _ _ _ _ hp hf
    ·exact K0j _ _ _ _ _ _ _ _ _ _ _ _ _ _ _ _ hp hf
   obtain ⟨s,hs⟩ := hm
   cases hmay:mayS (lo,up,ep,z,l,ps,cs,()) (k,ep,pr,sq,key,v,off,most,name,plan,()) with
   | some r =>
    rw [hmay] at hs
    cases r with
    | inl n=>exact ⟨s,K0p lo up 0 z l ps cs _ _ _ _ _ _ _ _ _ _ hn hf hw s n hs⟩
    | inr r=>exact ⟨⟨#[]⟩,K0q lo up 0 z l ps cs _ _ _ _ _ _ _ _ _ _ hn hf hw s r hs⟩
   | none =>
    rw [hmay] at hs
    simp only at hk
    rcases hk with rfl | rfl | rfl | rfl | rfl | rfl
    ·exact K0r _ _ _ _ _ _ _ _ _ _ _ _ _ _ _ hl hp hc h0 hn hf hw s hs
    ·exact K0s _ _ _ _ _ _ _ _ _ _ _ _ _ _ _ hl hp hc h0 hn hf hw s hs
    ·exact K0t _ _ _ _ _ _ _ _ _ _ _ _ _ _ _ hl hp hc h0 hn hf hw s hs
    ·exact K0u _ _ _ _ _ _ _ _ _ _ _ _ _ _ _ hl hp hc h0 hn hf hw s hs
    ·exact K0v _ _ _ _ _ _ _ _ _ _ _ _ _ _ _ hl hp hc h0 hn hf hw s hs
    ·exact K0w _ _ _ _ _ _ _ _ _ _ _ _ _ _ _ hl hp hc h0 hn hf hw s hs
  ·simp only [if_neg he]
   exact K0o _ _ _ _ _ _ _ _ _ _ _ _ _ _ _ _ _ hn hf hw he
theorem K0y (lo up:ByteArray) (e z:Int) (l:List Rd) (ps:List Pr) (cs:List Cn) (hl:logOk l=true) (hp:ps.length≤2097152) (hc:cs.length≤2097152) (hf:4194304<fu):p61 fu ((lo,up,e,z,l,ps,cs,()),())=some ((),(lo,up,e,z,l,ps,cs,())) := by
 have hn := (Q0y hl).1
 unfold p61
 simp only [Q7v l (X1k hl) (show l.length<fu by omega),X9p ps hp,X0i cs hc,Q0f,Q0a,Qt]
def zeroP:St16 := (⟨#[]⟩,⟨#[]⟩,0,0,[],[],[],())
def doS (p:St16) (c:Cm16):St16×Rs16 :=
 if chkS p=false then (zeroP,(165,0,false,[],())) else match (wkS p c).2.2 with
  | some (some e)=>(p,(e,0,false,[],()))
  | _=>((wkS p c).1,(wkS p c).2.1)
def bndC (c:Cm16):Prop := c.2.2.2.2.2.2.2.2.1.size≤1048576∧0≤c.2.2.2.2.2.2.1
theorem X1q (p:St16) (c:Cm16) (hb:bndS p) (hc:bndC c) (hf:4194304<fu):p14 fu (p,c,())=some ((),((doS p c).1,(doS p c).2,())) := by
 have h10 := X1p (fu := fu) p hb hf
 obtain ⟨lo,up,e,z,l,ps,cs,⟨⟩⟩ := p
 obtain ⟨k,ep,pr,sq,key,v,off,most,name,plan,⟨⟩⟩ := c
 obtain ⟨b1,b2,b3,b4⟩ := hb
 unfold p14 doS
 simp only [h10,Q0f]
 cases hk:chkS (lo,up,e,z,l,ps,cs,()) with
 | false=>simp only [Qf,show ((165:Int) != 0)=true from rfl,Qt,if_true]; rfl
 | true =>
  have hl:logOk l=true := by
   simp only [chkS,Bool.and_eq_true] at hk
   exact hk.2.2.1
  obtain ⟨s,hs⟩ := K0x (fu := fu) lo up e z l ps cs k ep pr sq key v off most name plan hl b2 b3 hc.1 hc.2 hf
  simp only [Qt,show ((0:Int) != 0)=false from rfl,Qf,K0y lo up e z l ps cs hl b2 b3.1 hf,Q0f,Q0a,Bool.true_eq_false,if_false,hs]
  cases hfo:(wkS (lo,up,e,z,l,ps,cs,()) (k,ep,pr,sq,key,v,off,most,name,plan,())).2.2 with
  | none=>rfl
  | some o =>
   cases o with
   | none=>rfl
   | some n=>rfl
end
section
variable {fu:Nat}
def seqO (ps:List Pr) (id:Int):Int := match find ps id with | some y=>y.2.1 | none=>0
theorem X1r (lo hi:ByteArray) (ps:List Pr) (b:List Rd) (x:Rd):recOk1 lo hi ps b x=true ↔ ∃ y,find ps x.2.2.2.1=some y∧hasB lo hi x.2.1=true∧lastS b x.2.2.2.1<x.2.2.2.2∧x.2.2.2.2≤y.2.1 := by
 unfold recOk1
 rw [X1b ps x.2.2.2.1 noPr]
 simp only [Bool.and_eq_true,decide_eq_true_eq]
 by_cases h:findI ps x.2.2.2.1<ps.length
 ·simp only [h,if_true,true_and,Option.some.injEq]
  constructor
  ·rintro ⟨h1,h2,h3⟩; exact ⟨_,rfl,h1,h2,h3⟩
  ·rintro ⟨y,rfl,h1,h2,h3⟩; exact ⟨h1,h2,h3⟩
 ·simp [h]
def RecsOk (lo hi:ByteArray) (ps:List Pr) (l:List Rd):Prop := ∀ j (h:j<l.length),∃ y,find ps l[j].2.2.2.1=some y∧hasB lo hi l[j].2.1=true∧lastS (l.take j) l[j].2.2.2.1<l[j].2.2.2.2∧l[j].2.2.2.2≤y.2.1
theorem K0z (lo hi:ByteArray) (ps:List Pr) (l:List Rd):(List.range l.length).all (recOk lo hi ps l)=true ↔ RecsOk lo hi ps l := by
 rw [List.all_eq_true]
 constructor
 ·intro h j hj
  have := h j (List.mem_range.2 hj)
  unfold recOk at this
  rw [Q0k hj,X1r] at this
  exact this
 ·intro h j hj
  have hj' := List.mem_range.1 hj
  unfold recOk
  rw [Q0k hj',X1r]
  exact h j hj'
theorem Q3h (lo hi:ByteArray) (e z:Int) (l:List Rd) (ps:List Pr) (cs:List Cn):chkS (lo,hi,e,z,l,ps,cs,())=true ↔
  chkB lo hi=0∧e ≠ 0∧logOk l=true∧tabI ps=true∧okC cs=true∧RecsOk lo hi ps l∧(∀ y ∈ ps,proOk l y=true) ∧ ∀ y ∈ cs,y.2≤(l.length:Int) := by
 unfold chkS
 simp only [Bool.and_eq_true,beq_iff_eq,bne_iff_ne]
 rw [K0z]
 simp only [List.all_eq_true,conOk,decide_eq_true_eq]
theorem K1a {ps:List Pr} (h:tabI ps=true) {id:Int} {y:Pr} (hy:find ps id=some y):1≤y.2.1∧y.1=id∧y ∈ ps := by
 unfold find at hy
 have h1 := List.mem_of_find?_eq_some hy
 have h2:(y.1==id)=true := by
  have := List.find?_some hy
  exact this
 have h3 := ((Q4k ps).1 h).1 y h1
 unfold okP seqB at h3
 simp only [Bool.and_eq_true,decide_eq_true_eq] at h3
 exact ⟨h3.2.1.1,by simpa using h2,h1⟩
theorem X1s {lo hi:ByteArray} {ps:List Pr} {l:List Rd} (ht:tabI ps=true) (h:RecsOk lo hi ps l) (id:Int):∀ n,n≤l.length→lastS (l.take n) id≤seqO ps id
 | 0,_=>by
  simp only [List.take_zero,lastS,List.foldl_nil]
  unfold seqO
  cases hy:find ps id with
  | none=>exact Int.le_refl _
  | some y=>have := (K1a ht hy).1; simp only; omega
 | n+1,hn=>by
  have ih := X1s ht h id n (by omega)
  rw [Q3f (show n<l.length by omega) noRec,Q0k (show n<l.length by omega),X1o]
  split
  ·rename_i e
   obtain ⟨y,h1,_,_,h4⟩ := h n (by omega)
   rw [e] at h1
   unfold seqO
   rw [h1]
   exact h4
  ·exact ih
theorem Q7y (l:List Cn):okC l=true ↔ Rises l∧(∀ x ∈ l,nameB x.1=true)∧l.length≤64 := by
 constructor
 ·intro h
  refine ⟨(Q5p h).1,fun x hx => ?_,(Q5p h).2⟩
  obtain ⟨i,hi,rfl⟩ := List.getElem_of_mem hx
  unfold okC at h
  cases hb:(List.range l.length).any (bad l) with
  | true=>rw [hb] at h; exact absurd h Bool.false_ne_true
  | false =>
   have := List.any_eq_false.1 hb i (List.mem_range.2 hi)
   unfold bad at this
   rw [Q0k hi] at this
   cases hn:nameB l[i].1 with
   | false=>rw [hn] at this; exact absurd rfl this
   | true=>rfl
 ·rintro ⟨h1,h2,h3⟩
  unfold okC
  have:(List.range l.length).any (bad l)=false := by
   rw [List.any_eq_false]
   intro i hi
   have hi' := List.mem_range.1 hi
   unfold bad
   rw [Q0k hi',h2 _ (List.getElem_mem hi')]
   simp only [Bool.not_true,Qf]
   by_cases h0:0<i
   ·have g:∀ d,l.getD (i-1) d=l[i-1] := fun d=>Q0k (by omega)
    have := List.pairwise_iff_getElem.1 h1 (i-1) i (by omega) hi' (by omega)
    simp only [h0,Qd,Qt,g,Q5m,this,Bool.not_true]
    exact Bool.false_ne_true
   ·simp only [h0,decide_false,Qf]
    exact Bool.false_ne_true
  rw [this]
  simpa using h3
theorem X1t {a:ByteArray} (h:nameB a=true):a.size≤32 := by
 unfold nameB at h
 cases hq:(numsOf a).any qb with
 | true=>rw [hq] at h; cases h
 | false=>rw [hq] at h; simp only [Qf,decide_eq_true_eq] at h; exact h.2
theorem X1u {ps:List Pr} {pr sq:Int} (h:(judge ps pr sq).1=1):pr ≠ 0∧seqB sq=true∧seqO ps pr<sq := by
 unfold judge at h
 by_cases h0:pr=0
 ·simp [h0] at h
 ·cases hs:seqB sq with
  | false=>simp [h0,hs] at h
  | true =>
   refine ⟨h0,rfl,?_⟩
   have hq:1≤sq := by
    unfold seqB at hs
    simp only [Bool.and_eq_true,decide_eq_true_eq] at hs
    exact hs.1
   unfold seqO
   cases hf:find ps pr with
   | none=>simp only; omega
   | some y =>
    simp only [h0,hs,hf,if_false,Bool.true_eq_false] at h
    by_cases h1:sq>y.2.1
    ·exact h1
    ·simp only [h1,if_false] at h
     split at h <;> simp at h
theorem X1v {ps:List Pr} {x:Pr} (hx:x.1 ≠ 0∧seqB x.2.1=true∧(x.2.2.1=true ∨ x.2.2.2=0)) (h:(putS ps x).2=0):(putS ps x).1=ins ps x∧tabI (ins ps x)=true := by
 unfold putS at h ⊢
 cases ht:tabI ps with
 | false=>simp [ht] at h
 | true =>
  simp only [ht,Bool.true_eq_false,if_false] at h ⊢
  by_cases g1:(judge ps x.1 x.2.1).1=4
  ·simp [g1] at h
  by_cases g2:(judge ps x.1 x.2.1).1=2
  ·simp [g2] at h
  by_cases g3:(judge ps x.1 x.2.1).1=3
  ·simp [g3] at h
  by_cases g4:(ins ps x).length>256
  ·simp [g1,g2,g3,g4] at h
  simp only [g1,g2,g3,g4,if_false]
  refine ⟨trivial,X9g ht ?_ (by omega)⟩
  unfold okP
  simp only [Bool.and_eq_true,Bool.not_eq_true',beq_eq_false_iff_ne,Bool.or_eq_true,beq_iff_eq]
  exact ⟨hx.1,hx.2.1,hx.2.2⟩
theorem K1b {l:List Rd} {y:Pr} (r:List Rd) (h0:0≤y.2.2.2) (h:proOk l y=true):proOk (l ++ r) y=true := by
 unfold proOk at h ⊢
 cases hh:y.2.2.1 with
 | false=>rfl
 | true =>
  rw [hh] at h
  simp only [Bool.not_true,Bool.false_or,Bool.and_eq_true,decide_eq_true_eq] at h ⊢
  have hn:y.2.2.2.toNat<l.length := by omega
  have e:(l ++ r).getD y.2.2.2.toNat noRec=l.getD y.2.2.2.toNat noRec := by
   rw [List.getD_eq_getElem?_getD,List.getD_eq_getElem?_getD,List.getElem?_append_left hn]
  rw [e]
  exact ⟨by rw [List.length_append]; omega,h.2⟩
end
section
variable {fu:Nat}
def InvP (p:St16):Prop := chkS p=true∧(∀ y ∈ p.2.2.2.2.2.1,0≤y.2.2.2) ∧ ∀ y ∈ p.2.2.2.2.2.2.1,0≤y.2
theorem nx {k m:Int} (h:k=m) (hn:(k==m)=false):False := by simp [h] at hn
theorem K1c {p:St16} (h:InvP p):bndS p := by
 obtain ⟨lo,up,e,z,l,ps,cs,⟨⟩⟩ := p
 obtain ⟨h1,h2,h3⟩ := h
 obtain ⟨-,-,g1,g2,g3,-,-,g4⟩ := (Q3h lo up e z l ps cs).1 h1
 have n1 := (Q0y g1).1
 have n2 := ((Q4k ps).1 g2).2.2
 obtain ⟨-,n3,n4⟩ := (Q7y cs).1 g3
 refine ⟨by omega,by omega,⟨by omega,fun x hx => ?_⟩,h2⟩
 have := X1t (n3 x hx)
 have a1 := h3 x hx
 have a2 := g4 x hx
 exact ⟨by omega,a1,by omega⟩
theorem K1d {l:List Rd} (h:l.length≤4096) (hx:∀ i (hi:i<l.length),l[i].1=(i:Int)∧l[i].2.1.size≤32∧l[i].2.2.1.length≤256):logOk l=true := by
 unfold logOk
 have:(List.range l.length).any (wrong l)=false := by
  rw [List.any_eq_false]
  intro i hi
  have hi' := List.mem_range.1 hi
  obtain ⟨h1,h2,h3⟩ := hx i hi'
  unfold wrong
  rw [Q0k hi']
  have g1:(l[i].1 != (i:Int))=false := by simp [h1]
  have g2:¬ l[i].2.1.size>32 := by omega
  have g3:¬ l[i].2.2.1.length>256 := by omega
  simp [g1,g2,g3]
 rw [this]
 simpa using h
theorem K1e {lo up:ByteArray} {e z:Int} {l:List Rd} {ps:List Pr} {cs:List Cn} {pr sq:Int} {key:ByteArray} {v:List Int} (h:chkS (lo,up,e,z,l,ps,cs,())=true) (h0:∀ y ∈ ps,0≤y.2.2.2)
  (hh:hasB lo up key=true) (hj:(judge ps pr sq).1=1) (hk:key.size≤32) (hv:v.length≤256) (he:(prodS l ps pr sq key v).2.2.2=0) :
  prodS l ps pr sq key v=(l ++ [((l.length:Int),key,v,pr,sq)],ins ps (pr,sq,true,(l.length:Int)),(l.length:Int),0) ∧
   chkS (lo,up,e,z,l ++ [((l.length:Int),key,v,pr,sq)],ins ps (pr,sq,true,(l.length:Int)),cs,())=true := by
 obtain ⟨a1,a2,a3,a4,a5,a6,a7,a8⟩ := (Q3h lo up e z l ps cs).1 h
 obtain ⟨j1,j2,j3⟩ := X1u hj
 unfold prodS at he ⊢
 by_cases hn:l.length<4096
 ·simp only [hn,if_true] at he ⊢
  by_cases hp:(putS ps (pr,sq,true,(l.length:Int))).2=0
  ·obtain ⟨p1,p2⟩ := X1v (ps := ps) (x := (pr,sq,true,(l.length:Int))) ⟨j1,j2,.inl rfl⟩ hp
   simp only [hp,if_true,p1]
   refine ⟨trivial,?_⟩
   rw [Q3h]
   obtain ⟨b1,b2⟩ := Q0y a3
   refine ⟨a1,a2,K1d (by rw [List.length_append]; simp; omega) fun i hi => ?_,p2,a5,fun j hj => ?_,fun y hy => ?_,fun y hy => ?_⟩
   ·rw [List.length_append,List.length_singleton] at hi
    by_cases hi':i<l.length
    ·rw [List.getElem_append_left hi']
     exact b2 i hi'
    ·obtain rfl:i=l.length := by omega
     rw [List.getElem_append_right (Nat.le_refl _)]
     simp only [Nat.sub_self,List.getElem_cons_zero]
     exact ⟨trivial,hk,hv⟩
   ·rw [List.length_append,List.length_singleton] at hj
    by_cases hi':j<l.length
    ·rw [List.getElem_append_left hi',List.take_append_of_le_length (by omega)]
     obtain ⟨y,c1,c2,c3,c4⟩ := a6 j hi'
     rw [Q5q]
     by_cases hq:pr=l[j].2.2.2.1
     ·refine ⟨_,if_pos hq,c2,c3,?_⟩
      have:seqO ps pr=y.2.1 := by unfold seqO; rw [hq,c1]
      simp only
      omega
     ·exact ⟨y,by rw [if_neg hq]; exact c1,c2,c3,c4⟩
    ·obtain rfl:j=l.length := by omega
     rw [List.getElem_append_right (Nat.le_refl _),List.take_append_of_le_length (Nat.le_refl _),List.take_length]
     simp only [Nat.sub_self,List.getElem_cons_zero]
     have := X1s a4 a6 pr l.length (Nat.le_refl _)
     rw [List.take_length] at this
     exact ⟨_,by rw [Q5q,if_pos rfl],hh,by omega,Int.le_refl _⟩
   ·rcases Q3e hy with rfl | hy
    ·unfold proOk
     have hg:(l ++ [((l.length:Int),key,v,pr,sq)]).getD l.length noRec=((l.length:Int),key,v,pr,sq) := by
      rw [List.getD_eq_getElem?_getD,List.getElem?_append_right (Nat.le_refl _)]; simp
     simp only [Int.toNat_natCast,hg,List.length_append,List.length_singleton,beq_self_eq_true,Bool.and_self,Bool.and_true,Bool.not_true,Bool.false_or,decide_eq_true_eq]
     omega
    ·exact K1b _ (h0 y hy) (a7 y hy)
   ·have := a8 y hy
    rw [List.length_append]
    omega
  ·simp only [hp,if_false] at he
 ·simp [hn] at he
theorem K1f {lo up:ByteArray} {e z:Int} {l:List Rd} {ps:List Pr} {cs:List Cn} {pr sq:Int} {name:ByteArray} {off:Int} (h:chkS (lo,up,e,z,l,ps,cs,())=true)
  (hj:(judge ps pr sq).1=1) (he:(comS cs ps pr sq name off (l.length:Int)).2.2.2=0) :
  comS cs ps pr sq name off (l.length:Int)=(ins ps (pr,sq,false,0),insS cs (name,off),off,0) ∧
   chkS (lo,up,e,z,l,ins ps (pr,sq,false,0),insS cs (name,off),())=true := by
 obtain ⟨a1,a2,a3,a4,a5,a6,a7,a8⟩ := (Q3h lo up e z l ps cs).1 h
 obtain ⟨j1,j2,j3⟩ := X1u hj
 unfold comS at he ⊢
 by_cases hn:(commitS cs name off (l.length:Int)).2=0
 ·simp only [hn,if_true] at he ⊢
  by_cases hp:(putS ps (pr,sq,false,0)).2=0
  ·obtain ⟨p1,p2⟩ := X1v (ps := ps) (x := (pr,sq,false,0)) ⟨j1,j2,.inr rfl⟩ hp
   simp only [hp,if_true,p1]
   have hc:(commitS cs name off (l.length:Int)).1=insS cs (name,off)∧nameB name=true∧off≤(l.length:Int)∧(insS cs (name,off)).length≤64 := by
    unfold commitS at hn ⊢
    rw [a5] at hn ⊢
    simp only [Bool.not_true,Qf] at hn ⊢
    cases hnm:nameB name with
    | false=>rw [hnm] at hn; simp at hn
    | true =>
     rw [hnm] at hn
     simp only [Bool.not_true,Qf] at hn ⊢
     by_cases g1:off>(l.length:Int)
     ·simp [g1] at hn
     ·by_cases g2:(insS cs (name,off)).length≤64
      ·simp only [g1,g2,Qd,decide_false,Qt,Qf]
       exact ⟨trivial,trivial,by omega,trivial⟩
      ·simp [g1,g2] at hn
   obtain ⟨c1,c2,c3,c4⟩ := hc
   rw [c1]
   refine ⟨rfl,?_⟩
   rw [Q3h]
   obtain ⟨o1,o2,o3⟩ := (Q7y cs).1 a5
   refine ⟨a1,a2,a3,p2,(Q7y _).2 ⟨X0q o1,fun x hx => ?_,c4⟩,fun j hj => ?_,fun y hy => ?_,fun y hy => ?_⟩
   ·rcases Q4j hx with rfl | hx
    ·exact c2
    ·exact o2 x hx
   ·obtain ⟨y,d1,d2,d3,d4⟩ := a6 j hj
    rw [Q5q]
    by_cases hq:pr=l[j].2.2.2.1
    ·refine ⟨_,if_pos hq,d2,d3,?_⟩
     have:seqO ps pr=y.2.1 := by unfold seqO; rw [hq,d1]
     simp only
     omega
    ·exact ⟨y,by rw [if_neg hq]; exact d1,d2,d3,d4⟩
   ·rcases Q3e hy with rfl | hy
    ·rfl
    ·exact a7 y hy
   ·rcases Q4j hy with rfl | hy
    ·exact c3
    ·exact a8 y hy
  ·simp only [hp,if_false] at he
 ·simp only [hn,if_false] at he
structure Left (p:St16) (c:Cm16) (d:St16×Rs16):Prop where
 inv:InvP d.1
 same:d.2.1 ≠ 0 ∨ c.1=2 ∨ c.1=4→d.1=p
 recs:d.1.2.2.2.2.1=p.2.2.2.2.1 ∨ ∃ x,d.1.2.2.2.2.1=p.2.2.2.2.1 ++ [x]
 there:c.1=1→d.2.1=0→0≤d.2.2.1 ∧ ∃ h:d.2.2.1.toNat<d.1.2.2.2.2.1.length,(d.1.2.2.2.2.1[d.2.2.1.toNat]).2.2.2.1=c.2.2.1∧(d.1.2.2.2.2.1[d.2.2.1.toNat]).2.2.2.2=c.2.2.2.1
 again:(doS d.1 c).1=d.1∧(doS d.1 c).2.1=d.2.1∧(d.2.1=0→c.1=3→(doS d.1 c).2.2.2.1=true)
theorem K1g {p:St16} {c:Cm16} (hw:wfS c=true) (he:c.2.1=p.2.2.1):wkS p c=match mayS p c with
  | some (.inl n)=>(p,(0,0,false,[],()),some (some n))
  | some (.inr r)=>(p,(0,r.1,r.2,[],()),some none)
  | none=>actS p c := by
 unfold wkS
 simp only [hw,he,Bool.true_eq_false,if_false,if_true] <;> rcases mayS p c with _ | _ | _ <;> rfl
theorem Q1k {p:St16} {c:Cm16} (h:chkS p=true):doS p c=match (wkS p c).2.2 with
  | some (some e)=>(p,(e,0,false,[],()))
  | _=>((wkS p c).1,(wkS p c).2.1) := by
 unfold doS
 simp only [h,Bool.true_eq_false,if_false] <;> rcases (wkS p c).2.2 with _ | _ | _ <;> rfl
end
section
variable {fu:Nat}
theorem wuk {x:Int} (k:IntKind) (hk:k.signed=false) (h1:0≤x) (h2:x<2 ^ k.bits):IntKind.wrap k x=x := by
 unfold IntKind.wrap
 simp only [hk,Bool.false_and,Bool.false_eq_true,if_false]
 exact Int.emod_eq_of_lt h1 h2
theorem wu64 {x:Int} (h1:0≤x) (h2:x<18446744073709551616):IntKind.wrap .u64 x=x := wuk .u64 rfl h1 h2
theorem wu8 {x:Int} (h1:0≤x) (h2:x<256):IntKind.wrap .u8 x=x := wuk .u8 rfl h1 h2
theorem K1h (n:Nat):IntKind.wrap .u8 (n:Int)=((n % 256:Nat):Int) := by
 show (n:Int) % 256=_
 omega
theorem wi64 {x:Int} (h1:-9223372036854775808≤x) (h2:x<9223372036854775808):IntKind.wrap .i64 x=x := by
 have e1:(2:Int) ^ IntKind.bits .i64=18446744073709551616 := rfl
 have e2:(2:Int) ^ (IntKind.bits .i64-1)=9223372036854775808 := rfl
 unfold IntKind.wrap
 simp only [e1,e2]
 split
 ·rename_i h
  simp at h
  omega
 ·rename_i h
  simp [IntKind.signed] at h
  omega
theorem X1w (n:Nat):Int.fdiv (n:Int) (2 ^ (min (Int.toNat (7:Int)) (IntKind.bits .u64)))=((n / 128:Nat):Int) := by
 show Int.fdiv (n:Int) 128=_
 rw [Int.fdiv_eq_ediv_of_nonneg _ (by decide)]
 rfl
theorem K1i:∀ x:BitVec 8,(x ||| 128#8).toNat=x.toNat % 128+128 := by decide +kernel
theorem or8 (n m:Nat):((BitVec.ofInt (IntKind.bits .u8) (n:Int) ||| BitVec.ofInt (IntKind.bits .u8) (m:Int)).toNat)=(BitVec.ofNat 8 n ||| BitVec.ofNat 8 m).toNat := by
 show (BitVec.ofInt 8 (n:Int) ||| BitVec.ofInt 8 (m:Int)).toNat=_
 rw [BitVec.ofInt_natCast,BitVec.ofInt_natCast]
theorem K1j (n m:Nat):((BitVec.ofInt (IntKind.bits .u64) (n:Int) &&& BitVec.ofInt (IntKind.bits .u64) (m:Int)).toNat)=(BitVec.ofNat 64 n &&& BitVec.ofNat 64 m).toNat := by
 show (BitVec.ofInt 64 (n:Int) &&& BitVec.ofInt 64 (m:Int)).toNat=_
 rw [BitVec.ofInt_natCast,BitVec.ofInt_natCast]
theorem Q5r (n m:Nat):((BitVec.ofInt (IntKind.bits .u64) (n:Int) ^^^ BitVec.ofInt (IntKind.bits .u64) (m:Int)).toNat)=(BitVec.ofNat 64 n ^^^ BitVec.ofNat 64 m).toNat := by
 show (BitVec.ofInt 64 (n:Int) ^^^ BitVec.ofInt 64 (m:Int)).toNat=_
 rw [BitVec.ofInt_natCast,BitVec.ofInt_natCast]
theorem lowP (n:Nat):IntKind.wrap .u8 ((BitVec.ofInt (IntKind.bits .u8) (IntKind.wrap .u8 (n:Int)) ||| BitVec.ofInt (IntKind.bits .u8) (128:Int)).toNat:Int)=((n % 128+128:Nat):Int) := by
 have e1:(BitVec.ofInt (IntKind.bits .u8) (IntKind.wrap .u8 (n:Int)) ||| BitVec.ofInt (IntKind.bits .u8) (128:Int)).toNat=n % 128+128 := by
  rw [K1h]
  have := or8 (n % 256) 128
  have e3 := K1i (BitVec.ofNat 8 (n % 256))
  rw [BitVec.toNat_ofNat] at e3
  refine this.trans (e3.trans ?_)
  omega
 rw [e1]
 exact wu8 (by omega) (by omega)
def zz (c:Int):Int := if c<0 then -2 * c-1 else 2 * c
def isI (c:Int):Prop := -9223372036854775808≤c∧c≤9223372036854775807
def isU (c:Int):Prop := 0≤c∧c≤18446744073709551615
theorem zz_u {c:Int} (h:isI c):isU (zz c) := by
 unfold isI at h
 unfold zz isU
 split <;> omega
theorem xorAll (n:Nat) (h:n<18446744073709551616):((BitVec.ofNat 64 n ^^^ BitVec.ofNat 64 18446744073709551615)).toNat=18446744073709551615-n := by
 have e:BitVec.ofNat 64 18446744073709551615=BitVec.allOnes 64 := by decide
 rw [e,BitVec.xor_allOnes,BitVec.toNat_not,BitVec.toNat_ofNat,Nat.mod_eq_of_lt h]
theorem zzP {c:Int} (h:isI c):IntKind.wrap .u64 ((BitVec.ofInt (IntKind.bits .u64) (IntKind.wrap .u64 ((IntKind.wrap .u64 c) * 2 ^ (min (Int.toNat (1:Int)) (IntKind.bits .u64)))) ^^^ BitVec.ofInt (IntKind.bits .u64) (IntKind.wrap .u64 (Int.fdiv c (2 ^ (min (Int.toNat (63:Int)) (IntKind.bits .i64)))))).toNat:Int)=zz c := by
 obtain ⟨h1,h2⟩ := h
 have e2:(2:Int) ^ (min (Int.toNat (1:Int)) (IntKind.bits .u64))=2 := rfl
 have e63:(2:Int) ^ (min (Int.toNat (63:Int)) (IntKind.bits .i64))=9223372036854775808 := rfl
 have em:∀ x:Int,IntKind.wrap .u64 x=x % 18446744073709551616 := fun x=>rfl
 rw [e2,e63,Int.fdiv_eq_ediv_of_nonneg _ (by decide)]
 unfold zz
 by_cases hc:c<0
 ·rw [if_pos hc]
  have d1:IntKind.wrap .u64 (c / 9223372036854775808)=((18446744073709551615:Nat):Int) := by rw [em]; omega
  have d2:IntKind.wrap .u64 (IntKind.wrap .u64 c * 2)=((18446744073709551616+2 * c).toNat:Int) := by rw [em,em]; omega
  rw [d1,d2,Q5r,xorAll _ (by omega),em]
  omega
 ·rw [if_neg hc]
  have d1:IntKind.wrap .u64 (c / 9223372036854775808)=((0:Nat):Int) := by rw [em]; omega
  have d2:IntKind.wrap .u64 (IntKind.wrap .u64 c * 2)=((2 * c).toNat:Int) := by rw [em,em]; omega
  rw [d1,d2,Q5r,show BitVec.ofNat 64 0=0#64 from rfl,BitVec.xor_zero,BitVec.toNat_ofNat,Nat.mod_eq_of_lt (by omega),em]
  omega
def ub (v:Nat):List Int := if v<128 then [(v:Int)] else ((v % 128+128:Nat):Int) :: ub (v / 128)
termination_by v
decreasing_by omega
theorem Q2q {v:Nat} (h:v<128):ub v=[(v:Int)] := by rw [ub,if_pos h]
theorem Q3i {v:Nat} (h:¬ v<128):ub v=((v % 128+128:Nat):Int) :: ub (v / 128) := by rw [ub,if_neg h]
theorem X1x:∀ (k v:Nat),v<128 ^ (k+1)→(ub v).length≤k+1
 | 0,v,h=>by rw [Q2q (by simpa using h)]; simp
 | k+1,v,h=>by
  by_cases hv:v<128
  ·rw [Q2q hv]; simp
  ·rw [Q3i hv]
   have h2:v / 128<128 ^ (k+1) := by
    rw [Nat.div_lt_iff_lt_mul (by decide)]
    rw [Nat.pow_succ] at h
    exact h
   have := X1x k (v / 128) h2
   simp only [List.length_cons]
   omega
def uB (v:Int):List Int := ub v.toNat
theorem Q0n {v:Int} (h:isU v):(uB v).length≤10 := by
 obtain ⟨h1,h2⟩ := h
 exact X1x 9 _ (by have : (128 : Nat) ^ 10 = 1180591620717411303424 := (by decide); omega)
def iB (c:Int):List Int := uB (zz c)
def tB (l:List Int):List Int := uB (l.length:Int) ++ l
theorem Q2r {n:Nat} (h:n≤140737488355328):n≤maxLen := Nat.le_trans h (by decide)
theorem Q0z {a:List Int} {v:Int} (hv:isU v) (ha:a.length+(uB v).length≤140737488355328) (hfu:10<fu):p74_1 fu ((a,()),v,())=some (((a ++ uB v,()),(),()),()) := by
 unfold p74_1
 simp only [Q0a,Qt]
 refine Q2g (fun (s:(Int×Unit)×((List Int×Unit)×Unit))=>isU s.1.1∧s.2.1.1.length+(uB s.1.1).length≤140737488355328) (fun s=>(uB s.1.1).length) (fun s=>(((s.2.1.1 ++ uB s.1.1,()),(),()),())) ?_ fu _ ⟨hv,ha⟩ (Nat.lt_of_le_of_lt (Q0n hv) hfu)
 rintro ⟨⟨f,⟨⟩⟩,⟨⟨h,⟨⟩⟩,⟨⟩⟩⟩ ⟨⟨h0,h1⟩,h2⟩
 dsimp only at h0 h1 h2
 obtain ⟨n,rfl⟩ := Int.eq_ofNat_of_zero_le h0
 have e:uB ((n:Nat):Int)=ub n := rfl
 simp only [e] at h2 ⊢
 by_cases hn:n<128
 ·right
  rw [Q2q hn] at h2 ⊢
  simp only [List.length_singleton] at h2
  have hw:IntKind.wrap .u8 (n:Int)=(n:Int) := wu8 (by omega) (by omega)
  have hl:h.length+1≤maxLen∧(h.length+1) * 1≤140737488355328 := ⟨Q2r h2,by omega⟩
  have hge:¬ ((n:Int)≥128) := by omega
  simp only [hge,hw,hl,List.length_singleton,decide_false,Qd,Qf,Qt,and_self,inrO,Option.map_some]
 ·left
  rw [Q3i hn] at h2 ⊢
  simp only [List.length_cons] at h2
  have hl:h.length+1≤maxLen∧(h.length+1) * 1≤140737488355328 := ⟨Q2r (by omega),by omega⟩
  refine ⟨((((n / 128:Nat):Int),()),((h ++ [((n % 128+128:Nat):Int)],()),())),?_,⟨⟨by dsimp only; omega,by dsimp only; omega⟩,?_⟩,?_,?_⟩
  ·have hge:(n:Int)≥128 := by omega
   simp only [lowP,X1w,List.length_singleton,hl,hge,Qd,Qt,and_self]
  ·show (h ++ [((n % 128+128:Nat):Int)]).length+(ub (n / 128)).length≤_
   simp only [List.length_append,List.length_singleton]
   omega
  ·show (ub (n / 128)).length<_
   simp
  ·show ((((h ++ [((n % 128+128:Nat):Int)]) ++ ub (n / 128),()),(),()),())=_
   simp
theorem Q1t {n:Nat} (h:n≤140737488355328):isU (n:Int) := ⟨by omega,by omega⟩
theorem K1k {n:Nat} (h:n≤140737488355328):IntKind.wrap .u64 (n:Int)=(n:Int) := wu64 (by omega) (by omega)
theorem K1l {n:Nat} (h:n≤140737488355328):(n≤maxLen∧n * 1≤140737488355328)=True := eq_true ⟨Q2r h,by omega⟩
theorem K1m {a:List Int} {c:Int} (hc:isI c) (ha:a.length+(iB c).length≤140737488355328) (hfu:10<fu):p73_1 fu ((a,()),c,())=some (((a ++ iB c,()),(),()),()) := by
 unfold p73_1
 simp only [Q0a,Qt,zzP hc]
 rw [Q0z (zz_u hc) ha hfu]
 simp only [Qb]
 rfl
theorem X1y {a l:List Int} (ha:a.length+(tB l).length≤140737488355328) (hfu:10<fu):p76 fu ((a,()),l,())=some (((a ++ tB l,()),(),()),()) := by
 unfold tB at ha
 rw [List.length_append] at ha
 unfold p76
 simp only [Q0a,Qt]
 rw [K1k (by omega),Q0z (Q1t (by omega)) (by omega) hfu]
 have h2:(a ++ uB (l.length:Int)).length+l.length≤140737488355328 := by rw [List.length_append]; omega
 simp only [Qb,Qd,Qt,K1l h2,tB,List.append_assoc]
theorem and8 (n m:Nat):((BitVec.ofInt (IntKind.bits .u8) (n:Int) &&& BitVec.ofInt (IntKind.bits .u8) (m:Int)).toNat)=(BitVec.ofNat 8 n &&& BitVec.ofNat 8 m).toNat := by
 show (BitVec.ofInt 8 (n:Int) &&& BitVec.ofInt 8 (m:Int)).toNat=_
 rw [BitVec.ofInt_natCast,BitVec.ofInt_natCast]
theorem or64 (n m:Nat):((BitVec.ofInt (IntKind.bits .u64) (n:Int) ||| BitVec.ofInt (IntKind.bits .u64) (m:Int)).toNat)=(BitVec.ofNat 64 n ||| BitVec.ofNat 64 m).toNat := by
 show (BitVec.ofInt 64 (n:Int) ||| BitVec.ofInt 64 (m:Int)).toNat=_
 rw [BitVec.ofInt_natCast,BitVec.ofInt_natCast]
theorem low7 (x:Nat) (h:x<256):IntKind.wrap .u8 ((BitVec.ofInt (IntKind.bits .u8) (x:Int) &&& BitVec.ofInt (IntKind.bits .u8) (127:Int)).toNat:Int)=((x % 128:Nat):Int) := by
 have h2:(BitVec.ofInt (IntKind.bits .u8) (x:Int) &&& BitVec.ofInt (IntKind.bits .u8) (127:Int)).toNat=x % 128 := by
  refine (and8 x 127).trans ?_
  rw [BitVec.toNat_and,BitVec.toNat_ofNat,BitVec.toNat_ofNat,Nat.mod_eq_of_lt h]
  exact Nat.and_two_pow_sub_one_eq_mod x 7
 rw [h2,wu8 (by omega) (by omega)]
theorem pow7 (i:Nat) (h:i≤9):(2:Int) ^ (min (Int.toNat (IntKind.wrap .i64 ((7:Int) * (i:Int)))) (IntKind.bits .u64))=((128 ^ i:Nat):Int) := by
 have e:IntKind.wrap .i64 ((7:Int) * (i:Int))=((7 * i:Nat):Int) := by rw [wi64 (by omega) (by omega)]; omega
 rw [e,Int.toNat_natCast,Nat.min_eq_left (by show 7 * i≤64; omega),show (128:Nat)=2 ^ 7 from rfl,← Nat.pow_mul]
 simp
theorem K1n (c y i:Nat) (hi:i≤9) (hc:c<128 ^ i) (hy:c+y * 128 ^ i<18446744073709551616) :
  IntKind.wrap .u64 ((BitVec.ofInt (IntKind.bits .u64) (c:Int) ||| BitVec.ofInt (IntKind.bits .u64) (IntKind.wrap .u64 ((IntKind.wrap .u64 (y:Int)) * 2 ^ (min (Int.toNat (IntKind.wrap .i64 ((7:Int) * (i:Int)))) (IntKind.bits .u64))))).toNat:Int)=((c+y * 128 ^ i:Nat):Int) := by
 have hpos:0<128 ^ i := Nat.pow_pos (by decide)
 have hy1:y≤y * 128 ^ i := Nat.le_mul_of_pos_right y hpos
 rw [pow7 i hi,wu64 (x := (y:Int)) (by omega) (by omega),← Int.natCast_mul,wu64 (x := ((y * 128 ^ i:Nat):Int)) (by omega) (by omega)]
 have e1:(BitVec.ofInt (IntKind.bits .u64) (c:Int) ||| BitVec.ofInt (IntKind.bits .u64) ((y * 128 ^ i:Nat):Int)).toNat=c+y * 128 ^ i := by
  rw [or64,BitVec.toNat_or,BitVec.toNat_ofNat,BitVec.toNat_ofNat,Nat.mod_eq_of_lt (by omega),Nat.mod_eq_of_lt (by omega)]
  have e:(128:Nat) ^ i=2 ^ (7 * i) := by rw [show (128:Nat)=2 ^ 7 from rfl,← Nat.pow_mul]
  rw [e] at hc ⊢
  have := Nat.two_pow_add_eq_or_of_lt hc y
  rw [Nat.or_comm,Nat.mul_comm y,← this,Nat.add_comm]
 rw [e1,wu64 (by omega) (by omega)]
def numS:Nat→Nat→List Int→Int×Int×Int
 | _,_,[]=>(0,0,11)
 | i,acc,x :: r=>if i=9∧x ≠ 1 then (0,0,12) else if x=0∧0<i then (0,0,12) else if x<128 then (((acc+x.toNat % 128 * 128 ^ i:Nat):Int),((i+1:Nat):Int),0) else numS (i+1) (acc+x.toNat % 128 * 128 ^ i) r
theorem Q5s {a:List Int} (hb:∀ x ∈ a,0≤x∧x≤255) (_:a.length≤140737488355328) (hfu:10<fu):p130 fu (a,())=some ((),((numS 0 0 a).1,(numS 0 0 a).2.1,(numS 0 0 a).2.2,())) := by
 unfold p130
 dsimp only
 refine Q2g (fun (s:(Int×(Int×Unit))×Unit) => ∃ (i acc:Nat) (pre r:List Int),i≤9∧s=(((acc:Int),(i:Int),()),())∧a=pre ++ r∧pre.length=i∧acc<128 ^ i∧numS i acc r=numS 0 0 a) (fun s=>10-s.1.2.1.toNat) (fun _=>((),((numS 0 0 a).1,(numS 0 0 a).2.1,(numS 0 0 a).2.2,()))) ?_ fu _ ⟨0,0,[],a,by omega,rfl,rfl,rfl,by simp,rfl⟩ (by dsimp only; omega)
 rintro _ ⟨i,acc,pre,r,hi,rfl,ha,hp,hacc,hnum⟩
 have e1:decide ((i:Int)<10)=true := by simp; omega
 have wi:IntKind.wrap .i64 ((i:Int)+1)=((i+1:Nat):Int) := by rw [wi64 (by omega) (by omega)]; omega
 cases r with
 | nil =>
  right
  have hl:a.length=i := by rw [ha,List.append_nil,hp]
  have e2:((i:Int)==(a.length:Int))=true := by rw [hl]; exact beq_self_eq_true _
  rw [← hnum]
  simp only [e1,e2,Qt,numS,inrO,Option.map_some]
 | cons x r =>
  have hlen:a.length=i+(r.length+1) := by rw [ha,List.length_append,hp,List.length_cons]
  have hx := hb x (by rw [ha]; simp)
  obtain ⟨n,rfl⟩ := Int.eq_ofNat_of_zero_le hx.1
  have hxg:List.getD a i (dflt (.int .u8))=(n:Int) := by
   rw [ha,List.getD_eq_getElem?_getD,List.getElem?_append_right (by omega),hp,Nat.sub_self]
   rfl
  have e2:((i:Int)==(a.length:Int))=false := by rw [hlen]; simp; omega
  have e3:decide ((0:Int)≤(i:Int)∧(i:Int)<(a.length:Int))=true := by rw [hlen]; simp; omega
  have e4:decide (i<a.length)=true := by rw [hlen]; simp
  have e7:decide ((0:Int)≤IntKind.wrap .i64 ((7:Int) * (i:Int)))=true := by rw [wi64 (by omega) (by omega)]; simp; omega
  by_cases h9:i=9∧(n:Int) ≠ 1
  ·right
   obtain ⟨h9,hn1⟩ := h9
   have hd:numS i acc ((n:Int) :: r)=(0,0,12) := by rw [numS,if_pos ⟨h9,hn1⟩]
   rw [← hnum,hd]
   have g1:((i:Int)==9)=true := by rw [h9]; rfl
   have g2:((n:Int) != 1)=true := bne_iff_ne.2 hn1
   simp only [e1,e2,e3,e4,Int.toNat_natCast,hxg,Qt,Qf,g1,g2,inrO,Option.map_some,Q1p]
  ·by_cases h0:(n:Int)=0∧0<i
   ·right
    obtain ⟨hn0,hi0⟩ := h0
    have hi9:i ≠ 9 := fun e=>h9 ⟨e,by omega⟩
    have hd:numS i acc ((n:Int) :: r)=(0,0,12) := by rw [numS,if_neg h9,if_pos ⟨hn0,hi0⟩]
    rw [← hnum,hd]
    have g1:((i:Int)==9)=false := by simp; omega
    have g2:((n:Int)==0)=true := beq_iff_eq.2 hn0
    have g3:decide ((i:Int)>0)=true := by simp; omega
    simp only [e1,e2,e3,e4,Int.toNat_natCast,hxg,Qt,Qf,g1,g2,g3,inrO,Option.map_some,Q1p]
   ·have hpow:i=9→(128:Nat) ^ i=9223372036854775808 := fun e=>by rw [e]
    have hpow8:i≤8→(128:Nat) ^ i≤72057594037927936 := fun e=>by
     have := Nat.pow_le_pow_right (n := 128) (by decide) e
     have e8:(128:Nat) ^ 8=72057594037927936 := by decide
     omega
    have hmul:n % 128 * 128 ^ i≤127 * 128 ^ i := Nat.mul_le_mul_right _ (by omega)
    have hbound:acc+n % 128 * 128 ^ i<18446744073709551616 := by
     by_cases e9:i=9
     ·have hn1:(n:Int)=1 := Decidable.byContradiction fun k=>h9 ⟨e9,k⟩
      have hn1':n=1 := by omega
      have := hpow e9
      rw [hn1'] at hmul ⊢
      rw [this] at hacc ⊢
      omega
     ·have := hpow8 (by omega)
      generalize 128 ^ i=q at *
      omega
    have hac := K1n acc (n % 128) i hi hacc hbound
    by_cases h128:(n:Int)<128
    ·right
     have hd:numS i acc ((n:Int) :: r)=(((acc+n % 128 * 128 ^ i:Nat):Int),((i+1:Nat):Int),0) := by rw [numS,if_neg h9,if_neg h0,if_pos h128]; rfl
     rw [← hnum,hd]
     have e8:decide ((n:Int)<128)=true := decide_eq_true h128
     simp only [e1,e2,e3,e4,Int.toNat_natCast,hxg,Qt,Qf,e7,e8,low7 n (by omega),hac,wi]
     by_cases e9:i=9
     ·have hn1:(n:Int)=1 := Decidable.byContradiction fun k=>h9 ⟨e9,k⟩
      have hn1':n=1 := by omega
      subst e9 hn1'
      rfl
     ·have g1:((i:Int)==9)=false := by simp; omega
      rw [g1]
      by_cases hn0:n=0
      ·have hi0:i=0 := Decidable.byContradiction fun k=>h0 ⟨by omega,by omega⟩
       subst hi0 hn0
       rfl
      ·have g2:((n:Int)==0)=false := by simp; omega
       rw [g2]
       rfl
    ·left
     have e9:i ≠ 9 := fun e=>h9 ⟨e,by omega⟩
     have hd:numS i acc ((n:Int) :: r)=numS (i+1) (acc+n % 128 * 128 ^ i) r := by rw [numS,if_neg h9,if_neg h0,if_neg h128]; rfl
     have e8:decide ((n:Int)<128)=false := decide_eq_false h128
     have g1:((i:Int)==9)=false := by simp; omega
     have g2:((n:Int)==0)=false := by simp; omega
     refine ⟨((((acc+n % 128 * 128 ^ i:Nat):Int),((i+1:Nat):Int),()),()),?_,⟨i+1,acc+n % 128 * 128 ^ i,pre ++ [(n:Int)],r,by omega,rfl,?_,?_,?_,?_⟩,?_,rfl⟩
     ·simp only [e1,e2,e3,e4,Int.toNat_natCast,hxg,Qt,Qf,e7,e8,g1,g2,low7 n (by omega),hac,wi,Q0e]
     ·rw [ha]; simp
     ·simp [hp]
     ·rw [Nat.pow_succ]
      generalize 128 ^ i=q at *
      omega
     ·rw [← hd]; exact hnum
     ·dsimp only
      omega
def unzz (v:Int):Int := if v % 2=1 then -(v / 2)-1 else v / 2
theorem X1z:∀ (r:List Int) (i acc:Nat),(∃ v k:Nat,numS i acc r=((v:Int),(k:Int),0)∧i<k∧k≤i+r.length) ∨ (∃ e:Int,e ≠ 0∧numS i acc r=(0,0,e))
 | [],_,_ => .inr ⟨11,by decide,rfl⟩
 | x :: r,i,acc=>by
  rw [numS]
  split
  ·exact .inr ⟨12,by decide,rfl⟩
  ·split
   ·exact .inr ⟨12,by decide,rfl⟩
   ·split
    ·exact .inl ⟨_,_,rfl,by omega,by simp only [List.length_cons]; omega⟩
    ·rcases X1z r (i+1) (acc+x.toNat % 128 * 128 ^ i) with ⟨v,k,h1,h2,h3⟩ | h
     ·exact .inl ⟨v,k,h1,by omega,by simp only [List.length_cons]; omega⟩
     ·exact .inr h
theorem Q7z:∀ (r:List Int) (i acc:Nat) (v k:Int),(∀ x ∈ r,0≤x∧x≤255)→i≤9→acc<128 ^ i→numS i acc r=(v,k,0)→isU v
 | [],i,acc,v,k,_,_,_,h=>by simp [numS] at h
 | x :: r,i,acc,v,k,hb,hi,ha,h=>by
  have hx := hb x (by simp)
  obtain ⟨n,rfl⟩ := Int.eq_ofNat_of_zero_le hx.1
  have hpow:i=9→(128:Nat) ^ i=9223372036854775808 := fun e=>by rw [e]
  have hpow8:i≤8→(128:Nat) ^ i≤72057594037927936 := fun e=>by
   have := Nat.pow_le_pow_right (n := 128) (by decide) e
   have e8:(128:Nat) ^ 8=72057594037927936 := by decide
   omega
  have hmul:n % 128 * 128 ^ i≤127 * 128 ^ i := Nat.mul_le_mul_right _ (by omega)
  rw [numS] at h
  split at h
  ·simp at h
  ·rename_i h9
   split at h
   ·simp at h
   ·split at h
    ·simp only [Prod.mk.injEq,Int.toNat_natCast,and_true] at h
     rw [← h.1]
     unfold isU
     by_cases e9:i=9
     ·have hn1:(n:Int)=1 := Decidable.byContradiction fun k=>h9 ⟨e9,k⟩
      have hn1':n=1 := by omega
      have := hpow e9
      rw [hn1'] at hmul ⊢
      rw [this] at ha ⊢
      omega
     ·have := hpow8 (by omega)
      generalize 128 ^ i=q at *
      omega
    ·rename_i h128
     have e9:i ≠ 9 := fun e=>h9 ⟨e,by omega⟩
     refine Q7z r (i+1) _ v k (fun y hy=>hb y (by simp [hy])) (by omega) ?_ h
     rw [Nat.pow_succ,Int.toNat_natCast]
     generalize 128 ^ i=q at *
     omega
theorem Q8a {v:Int} (h:isU v):isI (unzz v) := by
 obtain ⟨h1,h2⟩ := h
 unfold unzz isI
 split <;> omega
theorem xor1 (n:Nat) (h:n<18446744073709551616):IntKind.wrap .i64 (IntKind.wrap .u64 ((BitVec.ofInt (IntKind.bits .u64) (Int.fdiv (n:Int) (2 ^ (min (Int.toNat (1:Int)) (IntKind.bits .u64)))) ^^^ BitVec.ofInt (IntKind.bits .u64) (IntKind.wrap .u64 (0-(IntKind.wrap .u64 ((BitVec.ofInt (IntKind.bits .u64) (n:Int) &&& BitVec.ofInt (IntKind.bits .u64) (1:Int)).toNat:Int))))).toNat:Int))=unzz (n:Int) := by
 have e1:(BitVec.ofInt (IntKind.bits .u64) (n:Int) &&& BitVec.ofInt (IntKind.bits .u64) (1:Int)).toNat=n % 2 := by
  refine (K1j n 1).trans ?_
  rw [BitVec.toNat_and,BitVec.toNat_ofNat,BitVec.toNat_ofNat,Nat.mod_eq_of_lt h]
  exact Nat.and_two_pow_sub_one_eq_mod n 1
 have e2:Int.fdiv (n:Int) (2 ^ (min (Int.toNat (1:Int)) (IntKind.bits .u64)))=((n / 2:Nat):Int) := by
  show Int.fdiv (n:Int) 2=_
  rw [Int.fdiv_eq_ediv_of_nonneg _ (by decide)]
  rfl
 have em:∀ x:Int,IntKind.wrap .u64 x=x % 18446744073709551616 := fun x=>rfl
 rw [e1,e2,wu64 (x := ((n % 2:Nat):Int)) (by omega) (by omega)]
 unfold unzz
 by_cases hodd:n % 2=1
 ·have d1:IntKind.wrap .u64 (0-((n % 2:Nat):Int))=((18446744073709551615:Nat):Int) := by rw [em]; omega
  rw [d1,Q5r,xorAll _ (by omega),if_pos (by omega),wu64 (by omega) (by omega)]
  have hm:IntKind.wrap .i64 ((18446744073709551615-n / 2:Nat):Int) = -((n:Int) / 2)-1 := by
   have e1:(2:Int) ^ IntKind.bits .i64=18446744073709551616 := rfl
   have e2:(2:Int) ^ (IntKind.bits .i64-1)=9223372036854775808 := rfl
   unfold IntKind.wrap
   simp only [e1,e2]
   split
   ·omega
   ·rename_i h
    simp [IntKind.signed] at h
    omega
  rw [hm]
 ·have d1:IntKind.wrap .u64 (0-((n % 2:Nat):Int))=((0:Nat):Int) := by rw [em]; omega
  rw [d1,Q5r,show BitVec.ofNat 64 0=0#64 from rfl,BitVec.xor_zero,BitVec.toNat_ofNat,Nat.mod_eq_of_lt (by omega),wu64 (by omega) (by omega),wi64 (by omega) (by omega),if_neg (by omega)]
  omega
theorem Q5t {a:List Int} {c:Nat} (_:c≤a.length):sub' a c (a.length-c)=a.drop c := by
 rw [X4t,List.take_of_length_le (by rw [List.length_drop]; omega)]
theorem xor0:IntKind.wrap .i64 (IntKind.wrap .u64 ((BitVec.ofInt (IntKind.bits .u64) (Int.fdiv (0:Int) (2 ^ (min (Int.toNat (1:Int)) (IntKind.bits .u64)))) ^^^ BitVec.ofInt (IntKind.bits .u64) (IntKind.wrap .u64 (0-(IntKind.wrap .u64 ((BitVec.ofInt (IntKind.bits .u64) (0:Int) &&& BitVec.ofInt (IntKind.bits .u64) (1:Int)).toNat:Int))))).toNat:Int))=0 := xor1 0 (by decide)
def byt (l:List Int):Prop := ∀ x ∈ l,0≤x∧x≤255
theorem Q0v {a b:List Int} (h1:byt a) (h2:byt b):byt (a ++ b) := fun x hx=>by
 rcases List.mem_append.1 hx with h | h
 ·exact h1 x h
 ·exact h2 x h
theorem X2a:byt [] := fun x hx=>by simp at hx
theorem X2b:∀ (k v:Nat),v<k→byt (ub v)
 | 0,v,h=>absurd h (Nat.not_lt_zero v)
 | k+1,v,h=>by
  by_cases hv:v<128
  ·rw [Q2q hv]
   intro x hx
   rw [List.mem_singleton.1 hx]
   omega
  ·rw [Q3i hv]
   intro x hx
   rcases List.mem_cons.1 hx with e | e
   ·rw [e]; omega
   ·exact X2b k (v / 128) (by omega) x e
theorem Q1a (v:Int):byt (uB v) := X2b _ _ (Nat.lt_succ_self _)
theorem Q8b {l:List Int} (h:byt l):byt (tB l) := Q0v (Q1a _) h
theorem X2c:∀ (k n i acc:Nat) (r:List Int),n<k→(0<i→1≤n)→i≤9→acc<128 ^ i→acc+n * 128 ^ i<18446744073709551616→numS i acc (ub n ++ r)=(((acc+n * 128 ^ i:Nat):Int),((i+(ub n).length:Nat):Int),0)
 | 0,n,_,_,_,h,_,_,_,_=>absurd h (Nat.not_lt_zero n)
 | k+1,n,i,acc,r,hk,h1,hi,ha,hb=>by
  have hpow:i=9→(128:Nat) ^ i=9223372036854775808 := fun e=>by rw [e]
  by_cases hn:n<128
  ·rw [Q2q hn]
   have c1:¬ (i=9∧(n:Int) ≠ 1) := by
    rintro ⟨e,hne⟩
    have := hpow e
    rw [this] at hb
    have h2 := h1 (by omega)
    omega
   have c2:¬ ((n:Int)=0∧0<i) := by
    rintro ⟨e,h3⟩
    have := h1 h3
    omega
   show numS i acc ((n:Int) :: r)=_
   rw [numS,if_neg c1,if_neg c2,if_pos (by omega),Int.toNat_natCast,Nat.mod_eq_of_lt hn]
   rfl
  ·rw [Q3i hn]
   have hi9:i ≠ 9 := fun e=>by
    have := hpow e
    rw [this] at hb
    omega
   show numS i acc (((n % 128+128:Nat):Int) :: (ub (n / 128) ++ r))=_
   rw [numS,if_neg (fun h=>hi9 h.1),if_neg (by omega),if_neg (by omega),Int.toNat_natCast,show (n % 128+128) % 128=n % 128 by omega]
   have hq:n % 128 * 128 ^ i+n / 128 * 128 ^ (i+1)=n * 128 ^ i := by
    rw [Nat.pow_succ,Nat.mul_comm (128 ^ i) 128,← Nat.mul_assoc,← Nat.add_mul]
    congr 1
    omega
   have hm:n % 128 * 128 ^ i≤127 * 128 ^ i := Nat.mul_le_mul_right _ (by omega)
   rw [X2c k (n / 128) (i+1) (acc+n % 128 * 128 ^ i) r (by omega) (fun _=>by omega) (by omega) (by rw [Nat.pow_succ]; omega) (by rw [Nat.add_assoc,hq]; exact hb),Nat.add_assoc,hq,List.length_cons]
   congr 2
   rw [show i+1+(ub (n / 128)).length=i+((ub (n / 128)).length+1) by omega]
theorem K1o {c:Int}:unzz (zz c)=c := by
 unfold unzz zz
 split <;> split <;> omega
theorem X2d:∀ (r:List Int) (i acc:Nat) (v k:Int),(∀ x ∈ r,0≤x∧x≤255)→numS i acc r=(v,k,0) →
  ∃ w m:Nat,v=((acc+w * 128 ^ i:Nat):Int)∧k=((i+m:Nat):Int)∧r.take m=ub w∧(0<i→1≤w)
 | [],i,acc,v,k,_,h=>by
  simp [numS] at h
 | x :: r,i,acc,v,k,hb,h=>by
  have hx := hb x (by simp)
  obtain ⟨n,rfl⟩ := Int.eq_ofNat_of_zero_le hx.1
  rw [numS] at h
  split at h
  ·simp at h
  ·split at h
   ·simp at h
   ·rename_i h0
    split at h
    ·rename_i h128
     simp only [Prod.mk.injEq,Int.toNat_natCast,and_true] at h
     refine ⟨n,1,?_,?_,?_,fun hi => ?_⟩
     ·rw [← h.1,Nat.mod_eq_of_lt (by omega)]
     ·rw [← h.2]
     ·rw [Q2q (by omega)]
      rfl
     ·by_cases hn:n=0
      ·exact absurd ⟨by omega,hi⟩ h0
      ·omega
    ·rename_i h128
     obtain ⟨w,m,e1,e2,e3,e4⟩ := X2d r (i+1) _ v k (fun y hy=>hb y (by simp [hy])) h
     have hw := e4 (Nat.succ_pos i)
     refine ⟨n % 128+128 * w,m+1,?_,?_,?_,fun _=>by omega⟩
     ·rw [e1]
      congr 1
      rw [Int.toNat_natCast,Nat.pow_succ,Nat.add_mul,Nat.add_assoc]
      congr 2
      rw [Nat.mul_comm (128 ^ i) 128,← Nat.mul_assoc,Nat.mul_comm w 128]
     ·rw [e2]
      omega
     ·rw [List.take_succ_cons,e3,Q3i (v := n % 128+128 * w) (by omega),show (n % 128+128 * w) % 128+128=n by omega,show (n % 128+128 * w) / 128=w by omega]
theorem K1p {v:Int} (h:isU v):zz (unzz v)=v := by
 obtain ⟨h1,h2⟩ := h
 unfold unzz zz
 split <;> split <;> omega
end
section
variable {fu:Nat}
structure okA (fu:Nat) (a:List Int):Prop where
 hb:byt a
 hn:a.length≤140737488355328
 hfu:10<fu
theorem okA.dr {a:List Int} (h:okA fu a) (c:Nat):byt (a.drop c) := fun x hx=>h.hb x (List.mem_of_mem_drop hx)
def uS (a:List Int) (c:Nat):Option (Nat×Int) :=
 if (numS 0 0 (a.drop c)).2.2=0 then some (c+(numS 0 0 (a.drop c)).2.1.toNat,(numS 0 0 (a.drop c)).1) else none
def iS (a:List Int) (c:Nat):Option (Nat×Int) := (uS a c).bind fun r=>some (r.1,unzz r.2)
def cntS (m:Int) (a:List Int) (c:Nat):Option (Nat×Int) :=
 (uS a c).bind fun r=>if m<0 ∨ r.2>m ∨ r.2>((a.length-r.1:Nat):Int) then none else some r
def bytS (m:Int) (a:List Int) (c:Nat):Option (Nat×List Int) := (cntS m a c).bind fun r=>some (r.1+r.2.toNat,(a.drop r.1).take r.2.toNat)
def strS (m:Int) (a:List Int) (c:Nat):Option (Nat×ByteArray) := (bytS m a c).bind fun r=>some (r.1,strOfNums r.2)
def boolS (a:List Int) (c:Nat):Option (Nat×Bool) := if c<a.length∧a.getD c 0≤1 then some (c+1,a.getD c 0==1) else none
abbrev ER := Bool×((Int×(Int×Unit))×Unit)
abbrev PT := List Int×Int×ER×Unit
abbrev stO (a:List Int) (c h i:Int):PT := (a,c,(false,(h,i,()),()),())
abbrev stE (a:List Int) (c e q:Int):PT := (a,c,(true,(e,q,()),()),())
theorem dfu:(dflt .unit:den .unit)=() := rfl
theorem dfp:dflt (.pair (.int .i64) (.pair (.int .i64) .unit))=((0:Int),(0:Int),()) := rfl
def PR {α:Type} (a:List Int) (d:α) (r:Option (Nat×α)) (P:α→Prop) (o:Option ((PT×Unit×Unit)×α)):Prop :=
 (∃ (c:Nat) (v:α) (h i:Int),r=some (c,v)∧c≤a.length∧P v∧o=some ((stO a c h i,(),()),v)) ∨ (r=none ∧ ∃ c e q:Int,e ≠ 0∧o=some ((stE a c e q,(),()),d))
theorem Q3q {a:List Int} {c e q j k:Int}:p135_2 fu (stE a c e q,j,k,())=some ((stE a c e q,(),()),()) := by
 unfold p135_2
 simp only [Qt,Q0a]
theorem Q5u {a:List Int} {c h i j k:Int} (hk:k ≠ 0):p135_2 fu (stO a c h i,j,k,())=some ((stE a c k j,(),()),()) := by
 have g:(k != 0)=true := bne_iff_ne.2 hk
 unfold p135_2
 simp only [Qt,Qf,Q0a,g]
theorem X2e {a:List Int} {c:Int}:p131 fu ((a,c,(),()),0,())=some ((stO a c 0 0,(),()),()) := by
 unfold p131 p135
 simp only [bne_self_eq_false,Qf,Qb,Q0a,Qt]
theorem Q8c {a:List Int} {c e:Int} (he:e ≠ 0):p131 fu ((a,c,(),()),e,())=some ((stE a c e c,(),()),()) := by
 have g:(e != 0)=true := bne_iff_ne.2 he
 unfold p131 p135
 simp only [g,Qt,Qb,Q0a]
theorem Q1l {a:List Int} {c e q:Int}:p84_1 fu (stE a c e q,())=some ((stE a c e q,(),()),0) := by
 unfold p84_1
 simp only [Qt,Q0a]
theorem X2f {a:List Int} {c:Nat} (h:okA fu a) (hc:c≤a.length) :
  (∃ v k:Nat,numS 0 0 (a.drop c)=((v:Int),(k:Int),0)∧uS a c=some (c+k,(v:Int))∧c+k≤a.length∧isU (v:Int)) ∨ (∃ e:Int,e ≠ 0∧numS 0 0 (a.drop c)=(0,0,e)∧uS a c=none) := by
 rcases X1z (a.drop c) 0 0 with ⟨v,k,hnum,hk0,hk⟩ | ⟨e,he,hnum⟩
 ·refine .inl ⟨v,k,hnum,?_,?_,Q7z _ 0 0 _ _ (h.dr c) (by omega) (by decide) hnum⟩
  ·unfold uS
   rw [hnum,if_pos rfl]
   rfl
  ·rw [List.length_drop] at hk; omega
 ·refine .inr ⟨e,he,hnum,?_⟩
  unfold uS
  rw [hnum,if_neg he]
theorem p84P {a:List Int} {c:Nat} {x y:Int} (h:okA fu a) (hc:c≤a.length):PR a 0 (uS a c) isU (p84_1 fu (stO a c x y,())) := by
 have e1:decide ((0:Int)≤(c:Int))=true := by simp
 have e2:decide (c≤a.length∧0+a.length≤a.length)=true := by simp; omega
 have e3:decide (c+(a.length-c)≤a.length)=true := by simp; omega
 have hl := h.hn
 rcases X2f h hc with ⟨v,k,hnum,hu,hk,hv⟩ | ⟨e,he,hnum,hu⟩
 ·have hw:IntKind.wrap .i64 ((c:Int)+(k:Int))=((c+k:Nat):Int) := by rw [wi64 (by omega) (by omega)]; omega
  refine .inl ⟨_,_,0,0,hu,hk,hv,?_⟩
  ·unfold p84_1
   simp only [Qf,e1,Int.toNat_natCast,e2,e3,Qt,Q0a]
   rw [Q5t hc,Q5s (h.dr c) (by rw [List.length_drop]; omega) h.hfu,hnum]
   simp only [Qb]
   rw [X2e]
   simp only [Qb,hw]
 ·have hw:IntKind.wrap .i64 ((c:Int)+0)=(c:Int) := by rw [wi64 (by omega) (by omega)]; omega
  refine .inr ⟨hu,c,e,c,he,?_⟩
  unfold p84_1
  simp only [Qf,e1,Int.toNat_natCast,e2,e3,Qt,Q0a]
  rw [Q5t hc,Q5s (h.dr c) (by rw [List.length_drop]; omega) h.hfu,hnum]
  simp only [Qb]
  rw [Q8c he]
  simp only [Qb,hw]
theorem p84N {a:List Int} {c:Nat} (h:okA fu a) (hc:c≤a.length):PR a 0 (uS a c) isU (p84 fu ((a,(c:Int),(),()),())) := by
 have e1:decide ((0:Int)≤(c:Int))=true := by simp
 have e2:decide (c≤a.length∧0+a.length≤a.length)=true := by simp; omega
 have e3:decide (c+(a.length-c)≤a.length)=true := by simp; omega
 have hl := h.hn
 rcases X2f h hc with ⟨v,k,hnum,hu,hk,hv⟩ | ⟨e,he,hnum,hu⟩
 ·have hw:IntKind.wrap .i64 ((c:Int)+(k:Int))=((c+k:Nat):Int) := by rw [wi64 (by omega) (by omega)]; omega
  refine .inl ⟨_,_,0,0,hu,hk,hv,?_⟩
  ·unfold p84
   simp only [e1,Int.toNat_natCast,e2,e3,Qt,Q0a]
   rw [Q5t hc,Q5s (h.dr c) (by rw [List.length_drop]; omega) h.hfu,hnum]
   simp only [Qb]
   rw [X2e]
   simp only [Qb,hw]
 ·have hw:IntKind.wrap .i64 ((c:Int)+0)=(c:Int) := by rw [wi64 (by omega) (by omega)]; omega
  refine .inr ⟨hu,c,e,c,he,?_⟩
  unfold p84
  simp only [e1,Int.toNat_natCast,e2,e3,Qt,Q0a]
  rw [Q5t hc,Q5s (h.dr c) (by rw [List.length_drop]; omega) h.hfu,hnum]
  simp only [Qb]
  rw [Q8c he]
  simp only [Qb,hw]
theorem Q8d {a:List Int} {c e q:Int}:p83_1 fu (stE a c e q,())=some ((stE a c e q,(),()),0) := by
 unfold p83_1
 simp only [Qt,dfu,Q1l,Qb,Q0a]
 rw [xor0]
theorem p83P {a:List Int} {c:Nat} {x y:Int} (h:okA fu a) (hc:c≤a.length):PR a 0 (iS a c) isI (p83_1 fu (stO a c x y,())) := by
 unfold iS p83_1
 simp only [Qf,Q0a,Qt]
 rcases p84P (x := 0) (y := 0) h hc with ⟨c1,v,x1,y1,hr,h1,h2,h3⟩ | ⟨hr,c1,e,q,he,h3⟩
 ·obtain ⟨n,rfl⟩ := Int.eq_ofNat_of_zero_le h2.1
  simp only [h3,hr,Qb]
  rw [xor1 n (by have := h2.2; omega)]
  exact .inl ⟨_,_,_,_,rfl,h1,Q8a h2,rfl⟩
 ·simp only [h3,hr,Qb,Option.bind_none]
  rw [xor0]
  exact .inr ⟨rfl,_,_,_,he,rfl⟩
theorem p83N {a:List Int} {c:Nat} (h:okA fu a) (hc:c≤a.length):PR a 0 (iS a c) isI (p83 fu ((a,(c:Int),(),()),())) := by
 unfold iS p83
 simp only [Q0a,Qt]
 rcases p84N h hc with ⟨c1,v,x1,y1,hr,h1,h2,h3⟩ | ⟨hr,c1,e,q,he,h3⟩
 ·obtain ⟨n,rfl⟩ := Int.eq_ofNat_of_zero_le h2.1
  simp only [h3,hr,Qb]
  rw [xor1 n (by have := h2.2; omega)]
  exact .inl ⟨_,_,_,_,rfl,h1,Q8a h2,rfl⟩
 ·simp only [h3,hr,Qb,Option.bind_none]
  rw [xor0]
  exact .inr ⟨rfl,_,_,_,he,rfl⟩
theorem Q3j {a:List Int} {c e q j:Int}:p138_1 fu (stE a c e q,j,())=some ((stE a c e q,(),()),0) := by
 unfold p138_1
 simp only [Qt,Q0a]
theorem K1q {a:List Int} {c x y j:Int}:p138_1 fu (stO a c x y,j,())=some ((stO a c 0 0,(),()),j) := by
 unfold p138_1
 simp only [Qt,Qf,Q0a]
theorem K1r {a:List Int} {c e q j:Int}:p93_2 fu (stE a c e q,j,())=some ((stE a c e q,(),()),0) := by
 unfold p93_2
 simp only [Qt,dfu,Q1l,Qb,Q0a,Q3q]
 rcases Bool.eq_false_or_eq_true (decide (j<0)) with g | g <;> rcases Bool.eq_false_or_eq_true (decide ((0:Int)>IntKind.wrap .u64 j)) with g2 | g2 <;> rcases Bool.eq_false_or_eq_true (decide ((0:Int)>IntKind.wrap .u64 (IntKind.wrap .i64 ((a.length:Int)-c)))) with g3 | g3 <;> simp only [g,g2,g3,Qt,Qf,Q0e,Qb,Q3q,Q3j]
def isC (a:List Int) (j:Int) (c:Nat) (n:Int):Prop := 0≤n∧n≤j ∧ ∃ c1,cntS j a c=some (c1,n)∧(c1:Int)+n≤a.length
theorem p93P {a:List Int} {c:Nat} {j x y:Int} (h:okA fu a) (hc:c≤a.length) (hj:isI j):PR a 0 (cntS j a c) (isC a j c) (p93_2 fu (stO a c x y,j,())) := by
 have hl := h.hn
 obtain ⟨hj1,hj2⟩ := hj
 unfold isC
 rcases p84P (x := 0) (y := 0) h hc with ⟨c1,v,x1,y1,hr,h1,⟨h2,h2'⟩,h3⟩ | ⟨hr,c1,e,q,he,h3⟩
 ·have hw2:IntKind.wrap .u64 (IntKind.wrap .i64 ((a.length:Int)-(c1:Int)))=((a.length-c1:Nat):Int) := by rw [wi64 (by omega) (by omega),wu64 (by omega) (by omega)]; omega
  by_cases hbad:j<0 ∨ v>j ∨ v>((a.length-c1:Nat):Int)
  ·refine .inr ⟨by unfold cntS; rw [hr,Qb,if_pos hbad],?_⟩
   unfold p93_2
   simp only [Qf,Q0a,Qt,h3,Qb]
   by_cases g:j<0
   ·simp only [decide_eq_true g,Qt,Q0e,Q5u (show (13:Int) ≠ 0 by decide),Qb,Q3q,Q3j,Bool.cond_self]
    exact ⟨_,_,_,by decide,rfl⟩
   ·by_cases g2:v>j
    ·have g2':v>IntKind.wrap .u64 j := by rw [wu64 (by omega) (by omega)]; omega
     simp only [decide_eq_false g,decide_eq_true g2',Qt,Q0e,Q5u (show (13:Int) ≠ 0 by decide),Qb,Q3q,Q3j,Bool.cond_self]
     exact ⟨_,_,_,by decide,rfl⟩
    ·have g2':¬ v>IntKind.wrap .u64 j := by rw [wu64 (by omega) (by omega)]; omega
     have g3:v>((a.length-c1:Nat):Int) := by omega
     simp only [decide_eq_false g,decide_eq_false g2',Qt,Qf,Q0e,hw2,decide_eq_true g3,Q5u (show (11:Int) ≠ 0 by decide),Qb,Q3j]
     exact ⟨_,_,_,by decide,rfl⟩
  ·have hcn:cntS j a c=some (c1,v) := by unfold cntS; rw [hr,Qb,if_neg hbad]
   have g:¬ j<0 := fun k=>hbad (.inl k)
   have g2:¬ v>IntKind.wrap .u64 j := by rw [wu64 (by omega) (by omega)]; omega
   have g3:¬ v>((a.length-c1:Nat):Int) := by omega
   have hwv:IntKind.wrap .i64 v=v := wi64 (by omega) (by omega)
   refine .inl ⟨c1,v,0,0,hcn,h1,⟨h2,by omega,c1,hcn,by omega⟩,?_⟩
   unfold p93_2
   simp only [Qf,Q0a,Qt,h3,Qb,decide_eq_false g,decide_eq_false g2,Q0e,hw2,decide_eq_false g3,K1q,hwv]
 ·refine .inr ⟨by unfold cntS; rw [hr]; rfl,?_⟩
  unfold p93_2
  simp only [Qf,Q0a,Qt,h3,Qb,Q3q]
  refine ⟨c1,e,q,he,?_⟩
  rcases Bool.eq_false_or_eq_true (decide (j<0)) with g | g <;> rcases Bool.eq_false_or_eq_true (decide ((0:Int)>IntKind.wrap .u64 j)) with g2 | g2 <;> rcases Bool.eq_false_or_eq_true (decide ((0:Int)>IntKind.wrap .u64 (IntKind.wrap .i64 ((a.length:Int)-c1)))) with g3 | g3 <;> simp only [g,g2,g3,Qt,Qf,Q0e,Qb,Q3q,Q3j]
theorem X2g {a:List Int} {c e q j:Int}:p132_1 fu (stE a c e q,j,())=some ((stE a c e q,(),()),[]) := by
 unfold p132_1
 simp only [Qt,Q0a,Q0e,dfu]
theorem K1s {a:List Int} {c j:Nat} {x y:Int} (hc:c≤a.length) (hn:a.length≤140737488355328) (h:a.length<c+j):p132_1 fu (stO a c x y,(j:Int),())=some ((stE a c 11 c,(),()),[]) := by
 have e1:decide ((j:Int)>IntKind.wrap .i64 ((a.length:Int)-(c:Int)))=true := by rw [wi64 (by omega) (by omega)]; simp; omega
 unfold p132_1
 simp only [Qf,e1,Qt,Q0a]
 rw [Q8c (by decide)]
 simp only [Qb,Qt,Q0e,dfu]
theorem X2h {a:List Int} {c j:Nat} {x y:Int} (hn:a.length≤140737488355328) (h:c+j≤a.length):p132_1 fu (stO a c x y,(j:Int),())=some ((stO a ((c+j:Nat):Int) 0 0,(),()),(a.drop c).take j) := by
 have e1:decide ((j:Int)>IntKind.wrap .i64 ((a.length:Int)-(c:Int)))=false := by rw [wi64 (by omega) (by omega)]; simp; omega
 have w1:IntKind.wrap .i64 ((c:Int)+(j:Int))=((c+j:Nat):Int) := by rw [wi64 (by omega) (by omega)]; omega
 have w2:IntKind.wrap .i64 (((c+j:Nat):Int)-(j:Int))=(c:Int) := by rw [wi64 (by omega) (by omega)]; omega
 have e2:decide ((0:Int)≤(c:Int))=true := by simp
 have e3:decide ((0:Int)≤((c+j:Nat):Int))=true := by simp; omega
 have e4:decide (c≤c+j∧0+(c+j)≤a.length)=true := by simp; omega
 have e6:decide (c+(c+j-c)≤a.length)=true := by simp; omega
 have es:sub' a c (c+j-c)=(a.drop c).take j := by rw [X4t,Nat.add_sub_cancel_left]
 have hl:((a.drop c).take j).length≤140737488355328 := by rw [List.length_take,List.length_drop]; omega
 have e5:(((a.drop c).take j).length≤maxLen∧((a.drop c).take j).length * 1≤140737488355328)=True := eq_true ⟨Nat.le_trans hl (by decide),by omega⟩
 unfold p132_1
 simp only [Qf,e1,Q0e,w1,w2,e2,e3,Int.toNat_natCast,e4,e6,es,e5,Qd,Q0a,Qt,dfu]
theorem Q2b {a:List Int} {c e q j:Int}:p86_2 fu (stE a c e q,j,())=some ((stE a c e q,(),()),[]) := by
 unfold p86_2
 simp only [Qt,dfu,K1r,X2g,Qb,Q0a]
def isBs (a:List Int) (j:Int) (l:List Int):Prop := l.length≤a.length∧(l.length:Int)≤j∧byt l
theorem p86P {a:List Int} {c:Nat} {j x y:Int} (h:okA fu a) (hc:c≤a.length) (hj:isI j):PR a [] (bytS j a c) (isBs a j) (p86_2 fu (stO a c x y,j,())) := by
 unfold bytS p86_2
 simp only [Qf,Q0a,Qt]
 rcases p93P (x := 0) (y := 0) h hc hj with ⟨c1,v,x1,y1,hr,h1,⟨h2,h4,c2,h5,h6⟩,h3⟩ | ⟨hr,c1,e,q,he,h3⟩
 ·rw [hr] at h5
  injection h5 with h5
  injection h5 with h5 h7
  subst h5
  obtain ⟨n,rfl⟩ := Int.eq_ofNat_of_zero_le h2
  simp only [h3,hr,Qb,Int.toNat_natCast]
  rw [X2h h.hn (by omega)]
  simp only [Qb]
  exact .inl ⟨_,_,_,_,rfl,by omega,⟨by rw [List.length_take,List.length_drop]; omega,by rw [List.length_take,List.length_drop]; omega,fun x hx=>h.hb x (List.mem_of_mem_drop (List.mem_of_mem_take hx))⟩,rfl⟩
 ·simp only [h3,hr,Qb,Option.bind_none,X2g]
  exact .inr ⟨rfl,_,_,_,he,rfl⟩
end
section
variable {fu:Nat}
theorem PR.map {α β:Type} {a:List Int} {d:α} {r:Option (Nat×α)} {P:α→Prop} {o:Option ((PT×Unit×Unit)×α)} (g:α→β) {o':Option ((PT×Unit×Unit)×β)} {Q:β→Prop} (h:PR a d r P o) (hq:∀ v,P v→Q (g v))
  (h1:∀ c x y v,o=some ((stO a c x y,(),()),v)→o' = some ((stO a c x y,(),()),g v)) (h2:∀ c e q,o=some ((stE a c e q,(),()),d)→o' = some ((stE a c e q,(),()),g d)):PR a (g d) (r.bind fun r=>some (r.1,g r.2)) Q o' := by
 rcases h with ⟨c,v,x,y,hr,hc,hv,ho⟩ | ⟨hr,c,e,q,he,ho⟩
 ·exact .inl ⟨c,g v,x,y,by rw [hr]; rfl,hc,hq v hv,h1 _ _ _ _ ho⟩
 ·exact .inr ⟨by rw [hr]; rfl,c,e,q,he,h2 _ _ _ ho⟩
def isT (j:Int) (s:ByteArray):Prop := (s.size:Int)≤j
theorem X2i (l:List Int):(strOfNums l).size=l.length := by
 show (l.map _).toArray.size=l.length
 simp
theorem Q2s {a:List Int} {c e q j:Int}:p85 fu (stE a c e q,j,())=some ((stE a c e q,(),()),⟨#[]⟩) := by
 unfold p85
 simp only [Qt,dfu,Q2b,Qb,Q0a]
 rfl
theorem p85P {a:List Int} {c:Nat} {j x y:Int} (h:okA fu a) (hc:c≤a.length) (hj:isI j):PR a ⟨#[]⟩ (strS j a c) (isT j) (p85 fu (stO a c x y,j,())) := by
 refine (p86P (x := 0) (y := 0) h hc hj).map strOfNums (fun v hv=>by unfold isT; rw [X2i]; exact hv.2.1) (fun c x y v ho => ?_) (fun c e q ho => ?_)
 ·unfold p85
  simp only [Qf,Q0a,Qt,ho,Qb]
 ·unfold p85
  simp only [Qf,Q0a,Qt,ho,Qb]
theorem i32:isI 32 := by unfold isI; omega
theorem i256:isI 256 := by unfold isI; omega
abbrev Rc := Int×ByteArray×List Int×Int×Int
def recS (a:List Int) (c:Nat):Option (Nat×Rc) :=
 (uS a c).bind fun r0=>(strS 32 a r0.1).bind fun r1=>(bytS 256 a r1.1).bind fun r2=>(uS a r2.1).bind fun r3=>(uS a r3.1).bind fun r4=>some (r4.1,(r0.2,r1.2,r2.2,r3.2,r4.2))
def recG (a:List Int) (x:Rc):Prop := isU x.1∧isT 32 x.2.1∧isBs a 256 x.2.2.1∧isU x.2.2.2.1∧isU x.2.2.2.2
theorem Q3r {a:List Int} {c e q:Int} {x:Int×ByteArray×List Int×Int×Int×Unit}:p158_2 fu (stE a c e q,x,())=some ((stE a c e q,(),(),()),(0,⟨#[]⟩,[],0,0,())) := by
 unfold p158_2
 simp only [Qt,Q0a]
theorem K1t {a:List Int} {c x y:Int} {o:Int} {k:ByteArray} {v:List Int} {p s:Int}:p158_2 fu (stO a c x y,(o,k,v,p,s,()),())=some ((stO a c 0 0,(),(),()),(o,k,v,p,s,())) := by
 unfold p158_2
 simp only [Qt,Qf,Q0a]
theorem K1u {a:List Int} {c e q:Int}:p136_1 fu (stE a c e q,())=some ((stE a c e q,(),()),(0,⟨#[]⟩,[],0,0,())) := by
 unfold p136_1
 simp only [Qt,dfu,Q1l,Q2s,Q2b,Q3r,Qb,Q0a]
theorem K1v {a:List Int} {c:Nat} {x y:Int} (h:okA fu a) (hc:c≤a.length) :
  (∃ (c1:Nat) (o:Int) (k:ByteArray) (v:List Int) (p s x1 y1:Int),recS a c=some (c1,(o,k,v,p,s))∧c1≤a.length∧recG a (o,k,v,p,s)∧p136_1 fu (stO a c x y,())=some ((stO a c1 x1 y1,(),()),(o,k,v,p,s,()))) ∨
   (recS a c=none ∧ ∃ c1 e q:Int,e ≠ 0∧p136_1 fu (stO a c x y,())=some ((stE a c1 e q,(),()),(0,⟨#[]⟩,[],0,0,()))) := by
 unfold recS p136_1
 simp only [Q0a,Qt,Qf]
 rcases p84P (x := 0) (y := 0) h hc with ⟨c0,v0,x0,y0,hr0,h0,g0,o0⟩ | ⟨hr0,c0,e,q,he,o0⟩
 rotate_left
 ·simp only [o0,hr0,Qb,Option.bind_none,Q1l,Q2s,Q2b,Q3r]
  exact .inr ⟨trivial,_,_,_,he,rfl⟩
 simp only [o0,hr0,Qb]
 rcases p85P (x := x0) (y := y0) h h0 i32 with ⟨c1,v1,x1,y1,hr1,h1,g1,o1⟩ | ⟨hr1,c1,e,q,he,o1⟩
 rotate_left
 ·simp only [o1,hr1,Qb,Option.bind_none,Q1l,Q2b,Q3r]
  exact .inr ⟨trivial,_,_,_,he,rfl⟩
 simp only [o1,hr1,Qb]
 rcases p86P (x := x1) (y := y1) h h1 i256 with ⟨c2,v2,x2,y2,hr2,h2,g2,o2⟩ | ⟨hr2,c2,e,q,he,o2⟩
 rotate_left
 ·simp only [o2,hr2,Qb,Option.bind_none,Q1l,Q3r]
  exact .inr ⟨trivial,_,_,_,he,rfl⟩
 simp only [o2,hr2,Qb]
 rcases p84P (x := x2) (y := y2) h h2 with ⟨c3,v3,x3,y3,hr3,h3,g3,o3⟩ | ⟨hr3,c3,e,q,he,o3⟩
 rotate_left
 ·simp only [o3,hr3,Qb,Option.bind_none,Q1l,Q3r]
  exact .inr ⟨trivial,_,_,_,he,rfl⟩
 simp only [o3,hr3,Qb]
 rcases p84P (x := x3) (y := y3) h h3 with ⟨c4,v4,x4,y4,hr4,h4,g4,o4⟩ | ⟨hr4,c4,e,q,he,o4⟩
 rotate_left
 ·simp only [o4,hr4,Qb,Option.bind_none,Q3r]
  exact .inr ⟨trivial,_,_,_,he,rfl⟩
 simp only [o4,hr4,Qb,K1t]
 exact .inl ⟨_,_,_,_,_,_,_,_,rfl,h4,⟨g0,g1,g2,g3,g4⟩,rfl⟩
def repS {α:Type} (S:List Int→Nat→Option (Nat×α)) (a:List Int):Nat→List α→Nat→Option (Nat×List α)
 | 0,l,c=>some (c,l)
 | n+1,l,c=>(S a c).bind fun r=>repS S a n (l ++ [r.2]) r.1
def listS {α:Type} (S:List Int→Nat→Option (Nat×α)) (m:Int) (a:List Int) (c:Nat):Option (Nat×List α) := (cntS m a c).bind fun r=>repS S a r.2.toNat [] r.1
def PX {α:Type} (a:List Int) (r:Option (Nat×List α)) (P:α→Prop) (m:Int) (o:Option ((PT×Unit×Unit)×List α)):Prop :=
 (∃ (c:Nat) (v:List α) (h i:Int),r=some (c,v)∧c≤a.length∧(∀ x ∈ v,P x)∧(v.length:Int)≤m∧o=some ((stO a c h i,(),()),v)) ∨ (r=none ∧ ∃ (c e q:Int) (d:List α),e ≠ 0∧(d.length:Int)≤m∧o=some ((stE a c e q,(),()),d))
end
section
variable {fu:Nat}
section
variable {α S R:Type} {f:S→Option (S ⊕ R)} {a:List Int} {P:α→Prop} {Sx:List Int→Nat→Option (Nat×α)} {n:Nat}
theorem X2j (mk:Nat→List α→PT→S)
  (her:∀ k l c e q,k<n→l.length=k→e ≠ 0 → ∃ d,f (mk k l (stE a c e q))=some (.inl (mk (k+1) (l ++ [d]) (stE a c e q)))):∀ m k l c e q j,k+m=n→l.length=k→e ≠ 0→m<j → ∃ (l':List α) (i:Nat),l'.length=n∧loopO j f (mk k l (stE a c e q))=loopO (i+1) f (mk n l' (stE a c e q))
 | 0,k,l,c,e,q,j,hk,hl,he,hj=>by
  obtain ⟨j,rfl⟩:∃ i,j=i+1 := ⟨j-1,by omega⟩
  have:k=n := by omega
  subst this
  exact ⟨l,j,hl,rfl⟩
 | m+1,k,l,c,e,q,j,hk,hl,he,hj=>by
  obtain ⟨j,rfl⟩:∃ i,j=i+1 := ⟨j-1,by omega⟩
  obtain ⟨d,hd⟩ := her k l c e q (by omega) hl he
  obtain ⟨l',i,h1,h2⟩ := X2j mk her m (k+1) (l ++ [d]) c e q j (by omega) (by simp [hl]) he (by omega)
  exact ⟨l',i,h1,by rw [← h2]; simp only [loopO,hd]⟩
theorem X2k (mk:Nat→List α→PT→S)
  (hok:∀ k l (c:Nat) x y,k<n→l.length=k→c≤a.length→(∃ c1 v x1 y1,Sx a c=some (c1,v)∧c1≤a.length∧P v∧f (mk k l (stO a c x y))=some (.inl (mk (k+1) (l ++ [v]) (stO a c1 x1 y1)))) ∨ (Sx a c=none ∧ ∃ c1 e q v,e ≠ 0∧f (mk k l (stO a c x y))=some (.inl (mk (k+1) (l ++ [v]) (stE a c1 e q)))))
  (her:∀ k l c e q,k<n→l.length=k→e ≠ 0 → ∃ d,f (mk k l (stE a c e q))=some (.inl (mk (k+1) (l ++ [d]) (stE a c e q)))):∀ m k l (c:Nat) x y j,k+m=n→l.length=k→c≤a.length→(∀ z ∈ l,P z)→m<j →
   (∃ (c1:Nat) (v:List α) (x1 y1:Int) (i:Nat),repS Sx a m l c=some (c1,v)∧c1≤a.length∧(∀ z ∈ v,P z)∧v.length=n∧loopO j f (mk k l (stO a c x y))=loopO (i+1) f (mk n v (stO a c1 x1 y1))) ∨
    (repS Sx a m l c=none ∧ ∃ (c1 e q:Int) (v:List α) (i:Nat),e ≠ 0∧v.length=n∧loopO j f (mk k l (stO a c x y))=loopO (i+1) f (mk n v (stE a c1 e q)))
 | 0,k,l,c,x,y,j,hk,hl,hc,hP,hj=>by
  obtain ⟨j,rfl⟩:∃ i,j=i+1 := ⟨j-1,by omega⟩
  have:k=n := by omega
  subst this
  exact .inl ⟨c,l,x,y,j,rfl,hc,hP,hl,rfl⟩
 | m+1,k,l,c,x,y,j,hk,hl,hc,hP,hj=>by
  obtain ⟨j,rfl⟩:∃ i,j=i+1 := ⟨j-1,by omega⟩
  rcases hok k l c x y (by omega) hl hc with ⟨c1,v,x1,y1,h1,h2,h3,h4⟩ | ⟨h1,c1,e,q,v,he,h4⟩
  ·have hP':∀ z ∈ l ++ [v],P z := fun z hz=>by
    rcases List.mem_append.1 hz with hz | hz
    ·exact hP z hz
    ·rw [List.mem_singleton] at hz
     rw [hz]
     exact h3
   have := X2k mk hok her m (k+1) (l ++ [v]) c1 x1 y1 j (by omega) (by simp [hl]) h2 hP' (by omega)
   have e:loopO (j+1) f (mk k l (stO a c x y))=loopO j f (mk (k+1) (l ++ [v]) (stO a c1 x1 y1)) := by simp only [loopO,h4]
   rw [e]
   simp only [repS,h1,Qb]
   exact this
  ·obtain ⟨l',i,g1,g2⟩ := X2j mk her m (k+1) (l ++ [v]) c1 e q j (by omega) (by simp [hl]) he (by omega)
   exact .inr ⟨by simp only [repS,h1,Option.bind_none],c1,e,q,l',i,he,g1,by rw [← g2]; simp only [loopO,h4]⟩
theorem K1w {o:Option R} {fu:Nat} {c:Nat} {x y:Int} (mk:Nat→List α→PT→S) (ho:loopO fu f (mk 0 [] (stO a c x y))=o)
  (hok:∀ k l (c:Nat) x y,k<n→l.length=k→c≤a.length→(∃ c1 v x1 y1,Sx a c=some (c1,v)∧c1≤a.length∧P v∧f (mk k l (stO a c x y))=some (.inl (mk (k+1) (l ++ [v]) (stO a c1 x1 y1)))) ∨ (Sx a c=none ∧ ∃ c1 e q v,e ≠ 0∧f (mk k l (stO a c x y))=some (.inl (mk (k+1) (l ++ [v]) (stE a c1 e q)))))
  (her:∀ k l c e q,k<n→l.length=k→e ≠ 0 → ∃ d,f (mk k l (stE a c e q))=some (.inl (mk (k+1) (l ++ [d]) (stE a c e q)))) (hc:c≤a.length) (hn:n<fu) :
   (∃ (c1:Nat) (v:List α) (x1 y1:Int) (i:Nat),repS Sx a n [] c=some (c1,v)∧c1≤a.length∧(∀ z ∈ v,P z)∧v.length=n∧o=loopO (i+1) f (mk n v (stO a c1 x1 y1))) ∨
    (repS Sx a n [] c=none ∧ ∃ (c1 e q:Int) (v:List α) (i:Nat),e ≠ 0∧v.length=n∧o=loopO (i+1) f (mk n v (stE a c1 e q))) := by
 subst ho
 exact X2k mk hok her n 0 [] c x y fu (by omega) rfl hc (fun z hz=>by simp at hz) hn
end
theorem isC.nat {a:List Int} {j:Int} {c c1:Nat} {v:Int} (hr:cntS j a c=some (c1,v)) (hv:isC a j c v):∃ k:Nat,v=(k:Int)∧(k:Int)≤j∧c1+k≤a.length := by
 obtain ⟨h2,h4,c2,h5,h6⟩ := hv
 rw [hr] at h5
 injection h5 with h5
 injection h5 with h5 h7
 subst h5
 exact ⟨v.toNat,by omega,by omega,by omega⟩
theorem i64x:isI 64 := by unfold isI; omega
theorem p91P {a:List Int} {c:Nat} {x y:Int} (h:okA fu a) (hc:c≤a.length) (hf:4194304<fu):PX a (listS recS 64 a c) (recG a) 64 (p91 fu (stO a c x y,64,())) := by
 unfold listS p91
 simp only [Qf,Q0a,Qt]
 rcases p93P (x := 0) (y := 0) h hc i64x with ⟨c1,v,x1,y1,hr,h1,g1,o1⟩ | ⟨hr,c1,e,q,he,o1⟩
 ·obtain ⟨n,rfl,hn,hcn⟩ := isC.nat hr g1
  simp only [o1,hr,Qb,Int.toNat_natCast]
  generalize hL:loopO fu _ _=o
  refine Or.elim (K1w (n := n) (P := recG a) (Sx := recS) (fun k l st=>((l,(k:Int),()),(st,()))) hL (fun k l c x y hk hl hc => ?_) (fun k l c e q hk hl he => ?_) h1 (by omega)) ?_ ?_
  ·have e1:decide ((k:Int)<(n:Int))=true := by simp; omega
   have e2:(l.length+1≤maxLen∧(l.length+1) * 64≤140737488355328)=True := eq_true ⟨Nat.le_trans (show l.length+1≤140737488355328 by omega) (by decide),by omega⟩
   have e3:IntKind.wrap .i64 ((k:Int)+1)=((k+1:Nat):Int) := by rw [wi64 (by omega) (by omega)]; omega
   rcases K1v (x := x) (y := y) h hc with ⟨c1,o,kk,v,p,s,x1,y1,q1,q2,q3,q4⟩ | ⟨q1,c1,e,q,he,q4⟩
   ·exact .inl ⟨c1,_,x1,y1,q1,q2,q3,by simp only [e1,q4,Qt,Qd,Qb,List.length_singleton,e2,e3]⟩
   ·exact .inr ⟨q1,c1,e,q,_,he,by simp only [e1,q4,Qt,Qd,Qb,List.length_singleton,e2,e3]; rfl⟩
  ·have e1:decide ((k:Int)<(n:Int))=true := by simp; omega
   have e2:(l.length+1≤maxLen∧(l.length+1) * 64≤140737488355328)=True := eq_true ⟨Nat.le_trans (show l.length+1≤140737488355328 by omega) (by decide),by omega⟩
   have e3:IntKind.wrap .i64 ((k:Int)+1)=((k+1:Nat):Int) := by rw [wi64 (by omega) (by omega)]; omega
   exact ⟨_,by simp only [e1,K1u,Qt,Qd,Qb,List.length_singleton,e2,e3]; rfl⟩
  ·rintro ⟨c2,w,x2,y2,i,g2,g3,g4,g5,g6⟩
   refine .inl ⟨c2,w,x2,y2,g2,g3,g4,by omega,?_⟩
   rw [g6]
   simp only [loopO,Int.lt_irrefl,decide_false,Qf,inrO,Option.map_some]
  ·rintro ⟨g2,c2,e,q,w,i,he,g5,g6⟩
   refine .inr ⟨g2,c2,e,q,w,he,by omega,?_⟩
   rw [g6]
   simp only [loopO,Int.lt_irrefl,decide_false,Qf,inrO,Option.map_some]
 ·have hfu:∃ k,fu=k+1 := ⟨fu-1,by omega⟩
  obtain ⟨k,hk⟩ := hfu
  simp only [o1,hr,Qb,Option.bind_none]
  refine .inr ⟨rfl,c1,e,q,[],he,by simp,?_⟩
  rw [hk]
  simp only [loopO,Int.lt_irrefl,decide_false,Qf,inrO,Option.map_some]
theorem K1x {a:List Int} {c:Nat} (h:c<a.length):(a.drop c).take 1=[a.getD c 0] := by
 rw [List.drop_eq_getElem_cons h,List.take_succ_cons,List.take_zero,List.getD_eq_getElem?_getD,List.getElem?_eq_getElem h]
 rfl
theorem p90P {a:List Int} {c:Nat} {x y:Int} (h:okA fu a) (hc:c≤a.length):PR a false (boolS a c) (fun _=>True) (p90 fu (stO a c x y,())) := by
 have hn := h.hn
 unfold boolS p90
 simp only [Qt,Qf,Q0a]
 by_cases hlt:c<a.length
 ·have h1 := X2h (fu := fu) (x := 0) (y := 0) h.hn (show c+1≤a.length by omega)
  rw [K1x hlt] at h1
  simp only [show ((1:Nat):Int)=1 from rfl] at h1
  generalize hv:a.getD c 0=v at h1 ⊢
  have e0:List.getD [v] 0 (dflt (.int .u8))=v := rfl
  have e1:(((List.length [v]:Nat):Int)==1)=true := rfl
  have e2:decide ((0:Int)≤0∧0<((List.length [v]:Nat):Int))=true := rfl
  have e3:decide (0<List.length [v])=true := rfl
  simp only [h1,Qb,e0,e1,e2,e3,Qt,Q0e]
  by_cases hv1:v>1
  ·have hb:¬ (c<a.length∧v≤1) := by omega
   rw [if_neg hb]
   simp only [decide_eq_true hv1,Qt,Q5u (show (16:Int) ≠ 0 by decide),Qb,Q0e]
   exact .inr ⟨rfl,_,_,_,by decide,rfl⟩
  ·have hb:c<a.length∧v≤1 := by omega
   rw [if_pos hb]
   simp only [decide_eq_false hv1,Qf,Q0e]
   exact .inl ⟨_,_,_,_,rfl,by omega,trivial,rfl⟩
 ·have h1 := K1s (fu := fu) (x := 0) (y := 0) hc h.hn (show a.length<c+1 by omega)
  simp only [show ((1:Nat):Int)=1 from rfl] at h1
  rw [if_neg (fun k=>hlt k.1)]
  have e1:(((List.length ([]:List Int):Nat):Int)==1)=false := rfl
  simp only [h1,Qb,e1,Qf,Qt,Q0e]
  exact .inr ⟨rfl,_,_,_,by decide,rfl⟩
theorem K1y {a:List Int} {c e q:Int}:p133_2 fu (stE a c e q,())=some ((stE a c e q,(),()),(e,q,())) := by
 unfold p133_2 pAsM
 simp only [Qt,Qf,Qb,Bool.not_false,Q0a,Q0e]
theorem K1z {a:List Int} {c x y:Int}:p133_2 fu (stO a c x y,())=some ((stO a c 0 0,(),()),(0,0,())) := by
 unfold p133_2 pAsM
 simp only [Qt,Qf,Qb,Bool.not_true,Q0a,Q0e]
theorem Q1f {a:List Int} {c e q:Int} (he:e ≠ 0):p87 fu (stE a c e q,())=some ((stE a c e q,(),()),e) := by
 have g:(e==0)=false := beq_eq_false_iff_ne.2 he
 unfold p87
 simp only [Qt,dfu,K1y,Qb,Q0a,g,Qf]
theorem Q1g {a:List Int} {c x y:Int}:p87 fu (stO a c x y,())=some ((stO a c 0 0,(),()),if c<(a.length:Int) then 15 else 0) := by
 unfold p87
 simp only [Qt,Qf,K1z,Qb,Q0a,BEq.rfl]
 by_cases g:c<(a.length:Int)
 ·simp only [decide_eq_true g,Qt,if_pos g]
 ·simp only [decide_eq_false g,Qf,if_neg g]
end
section
variable {fu:Nat}
theorem X2l {a:List Int} (h:a.length≤140737488355328):p82 fu (a,())=some ((),(a,(0:Int),(),())) := by
 have e:(a.length≤maxLen∧a.length * 1≤140737488355328)=True := eq_true ⟨Nat.le_trans h (show 140737488355328≤maxLen by decide),by omega⟩
 unfold p82
 simp only [e,Qd,Q0a,Qt]
abbrev Cmd := Int×Int×Int×Int×ByteArray×List Int×Int×Int×ByteArray×Int×Unit
def cmdK (a:List Int) (m u:Int) (c:Nat):Option (Nat×Cmd) :=
 if m=1 then (uS a c).bind fun r0=>(uS a r0.1).bind fun r1=>(strS 32 a r1.1).bind fun r2=>(bytS 256 a r2.1).bind fun r3=>some (r3.1,(m,u,r0.2,r1.2,r2.2,r3.2,0,0,⟨#[]⟩,0,()))
 else   if m=2 then (uS a c).bind fun r0=>(iS a r0.1).bind fun r1=>some (r1.1,(m,u,0,0,⟨#[]⟩,[],r0.2,r1.2,⟨#[]⟩,0,()))
 else   if m=3 then (uS a c).bind fun r0=>(uS a r0.1).bind fun r1=>(strS 32 a r1.1).bind fun r2=>(uS a r2.1).bind fun r3=>some (r3.1,(m,u,r0.2,r1.2,⟨#[]⟩,[],r3.2,0,r2.2,0,()))
 else   if m=4 then (strS 32 a c).bind fun r0=>some (r0.1,(m,u,0,0,⟨#[]⟩,[],0,0,r0.2,0,()))
 else if m=5 ∨ m=6 then (uS a c).bind fun r0=>some (r0.1,(m,u,0,0,⟨#[]⟩,[],0,0,⟨#[]⟩,r0.2,()))
 else some (c,(m,u,0,0,⟨#[]⟩,[],0,0,⟨#[]⟩,0,()))
def cmdR (a:List Int):Option (Nat×Cmd) := (iS a 0).bind fun k=>(uS a k.1).bind fun e=>cmdK a k.2 e.2 e.1
def cmdZ:Cmd := (0,0,0,0,⟨#[]⟩,[],0,0,⟨#[]⟩,0,())
def readCX (wf:Cmd→Bool) (a:List Int):Cmd×Int×Unit :=
 match cmdR a with
 | some (c,p)=>if c<a.length then (cmdZ,161,()) else if wf p=true then (p,0,()) else (cmdZ,161,())
 | none=>(cmdZ,161,())
theorem K2a {a:List Int} (wf:Cmd→Bool) (h:okA fu a) (hw:∀ p:Cmd,isT 32 p.2.2.2.2.2.2.2.2.1→p88 fu (p,())=some ((),wf p)):p26 fu (a,())=some ((),readCX wf a) := by
 unfold p26 readCX cmdR
 have h82 := X2l (fu := fu) h.hn
 simp only [h82,Qb,Q0a,Qt]
 have z0:((0:Nat):Int)=0 := rfl
 have t0:isT 32 (⟨#[]⟩:ByteArray) := by unfold isT; decide
 rcases (z0 ▸ p83N h (Nat.zero_le _)) with ⟨c0,m,x0,y0,hr0,h0,g0,o0⟩ | ⟨hr0,c0,e,q,he,o0⟩
 rotate_left
 ·have be:(e != 0)=true := bne_iff_ne.2 he
  simp only [o0,hr0,Qb,Option.bind_none,Q1l,show ((0:Int)==1)=false from rfl,show ((0:Int)==2)=false from rfl,show ((0:Int)==3)=false from rfl,show ((0:Int)==4)=false from rfl,show ((0:Int)==5)=false from rfl,show ((0:Int)==6)=false from rfl,Qf,Qt,Q0e,Q1f he,be,cmdZ]
 simp only [o0,hr0,Qb]
 rcases p84P (x := x0) (y := y0) h h0 with ⟨c1,v1,x1,y1,hr1,h1,g1,o1⟩ | ⟨hr1,c1,e,q,he,o1⟩
 rotate_left
 ·have be:(e != 0)=true := bne_iff_ne.2 he
  simp only [o1,hr1,Qb,Option.bind_none,Q8d,Q1l,Q2s,Q2b]
  rcases Bool.eq_false_or_eq_true (m==1) with b1 | b1 <;> rcases Bool.eq_false_or_eq_true (m==2) with b2 | b2 <;> rcases Bool.eq_false_or_eq_true (m==3) with b3 | b3 <;> rcases Bool.eq_false_or_eq_true (m==4) with b4 | b4 <;> rcases Bool.eq_false_or_eq_true (m==5) with b5 | b5 <;> rcases Bool.eq_false_or_eq_true (m==6) with b6 | b6 <;> simp only [b1,b2,b3,b4,b5,b6,Qt,Qf,Q0e,Qb,Q1f he,be,cmdZ]
 simp only [o1,hr1,Qb]
 unfold cmdK
 by_cases k1:m=1
 ·subst k1
  rw [if_pos rfl]
  simp only [show ((1:Int)==1)=true from rfl,Qt]
  rcases p84P (x := x1) (y := y1) h h1 with ⟨c2,v2,x2,y2,hr2,h2,g2,o2⟩ | ⟨hr2,c2,e,q,he,o2⟩
  rotate_left
  ·have be:(e != 0)=true := bne_iff_ne.2 he
   simp only [o2,hr2,Q1l,Q2s,Q2b,Qb,Option.bind_none,Qt,Q0e,Q1f he,be,cmdZ]
  simp only [o2,hr2,Qb]
  rcases p84P (x := x2) (y := y2) h h2 with ⟨c3,v3,x3,y3,hr3,h3,g3,o3⟩ | ⟨hr3,c3,e,q,he,o3⟩
  rotate_left
  ·have be:(e != 0)=true := bne_iff_ne.2 he
   simp only [o3,hr3,Q2s,Q2b,Qb,Option.bind_none,Qt,Q0e,Q1f he,be,cmdZ]
  simp only [o3,hr3,Qb]
  rcases p85P (x := x3) (y := y3) h h3 i32 with ⟨c4,v4,x4,y4,hr4,h4,g4,o4⟩ | ⟨hr4,c4,e,q,he,o4⟩
  rotate_left
  ·have be:(e != 0)=true := bne_iff_ne.2 he
   simp only [o4,hr4,Q2b,Qb,Option.bind_none,Qt,Q0e,Q1f he,be,cmdZ]
  simp only [o4,hr4,Qb]
  rcases p86P (x := x4) (y := y4) h h4 i256 with ⟨c5,v5,x5,y5,hr5,h5,g5,o5⟩ | ⟨hr5,c5,e,q,he,o5⟩
  rotate_left
  ·have be:(e != 0)=true := bne_iff_ne.2 he
   simp only [o5,hr5,Qb,Option.bind_none,Qt,Q0e,Q1f he,be,cmdZ]
  simp only [o5,hr5,Qb,Q0e]
  have hp := hw (1,v1,v2,v3,v4,v5,0,0,⟨#[]⟩,0,()) t0
  by_cases hlt:(c5:Int)<(a.length:Int)
  ·have hlt':c5<a.length := by omega
   simp only [Q1g,if_pos hlt,if_pos hlt',show ((15:Int) != 0)=true from rfl,Qb,Qt,Q0e,cmdZ]
  ·have hlt':¬ c5<a.length := by omega
   simp only [Q1g,if_neg hlt,if_neg hlt',show ((0:Int) != 0)=false from rfl,Qf,Q0e,Qb,hp]
   cases hwf:wf (1,v1,v2,v3,v4,v5,0,0,⟨#[]⟩,0,())
   ·simp only [Bool.not_false,Qt,Bool.false_eq_true,if_false,cmdZ]
   ·simp only [Bool.not_true,Qf,if_true]
 rw [if_neg k1]
 have b1:(m==1)=false := beq_eq_false_iff_ne.2 k1
 by_cases k2:m=2
 ·subst k2
  rw [if_pos rfl]
  simp only [show ((2:Int)==1)=false from rfl,show ((2:Int)==2)=true from rfl,Qt,Qf]
  rcases p84P (x := x1) (y := y1) h h1 with ⟨c2,v2,x2,y2,hr2,h2,g2,o2⟩ | ⟨hr2,c2,e,q,he,o2⟩
  rotate_left
  ·have be:(e != 0)=true := bne_iff_ne.2 he
   simp only [o2,hr2,Q8d,Qb,Option.bind_none,Qt,Q0e,Q1f he,be,cmdZ]
  simp only [o2,hr2,Qb]
  rcases p83P (x := x2) (y := y2) h h2 with ⟨c3,v3,x3,y3,hr3,h3,g3,o3⟩ | ⟨hr3,c3,e,q,he,o3⟩
  rotate_left
  ·have be:(e != 0)=true := bne_iff_ne.2 he
   simp only [o3,hr3,Qb,Option.bind_none,Qt,Q0e,Q1f he,be,cmdZ]
  simp only [o3,hr3,Qb,Q0e]
  have hp := hw (2,v1,0,0,⟨#[]⟩,[],v2,v3,⟨#[]⟩,0,()) t0
  by_cases hlt:(c3:Int)<(a.length:Int)
  ·have hlt':c3<a.length := by omega
   simp only [Q1g,if_pos hlt,if_pos hlt',show ((15:Int) != 0)=true from rfl,Qb,Qt,Q0e,cmdZ]
  ·have hlt':¬ c3<a.length := by omega
   simp only [Q1g,if_neg hlt,if_neg hlt',show ((0:Int) != 0)=false from rfl,Qf,Q0e,Qb,hp]
   cases hwf:wf (2,v1,0,0,⟨#[]⟩,[],v2,v3,⟨#[]⟩,0,())
   ·simp only [Bool.not_false,Qt,Bool.false_eq_true,if_false,cmdZ]
   ·simp only [Bool.not_true,Qf,if_true]
 rw [if_neg k2]
 have b2:(m==2)=false := beq_eq_false_iff_ne.2 k2
 by_cases k3:m=3
 ·subst k3
  rw [if_pos rfl]
  simp only [show ((3:Int)==1)=false from rfl,show ((3:Int)==2)=false from rfl,show ((3:Int)==3)=true from rfl,Qt,Qf]
  rcases p84P (x := x1) (y := y1) h h1 with ⟨c2,v2,x2,y2,hr2,h2,g2,o2⟩ | ⟨hr2,c2,e,q,he,o2⟩
  rotate_left
  ·have be:(e != 0)=true := bne_iff_ne.2 he
   simp only [o2,hr2,Q1l,Q2s,Qb,Option.bind_none,Qt,Q0e,Q1f he,be,cmdZ]
  simp only [o2,hr2,Qb]
  rcases p84P (x := x2) (y := y2) h h2 with ⟨c3,v3,x3,y3,hr3,h3,g3,o3⟩ | ⟨hr3,c3,e,q,he,o3⟩
  rotate_left
  ·have be:(e != 0)=true := bne_iff_ne.2 he
   simp only [o3,hr3,Q1l,Q2s,Qb,Option.bind_none,Qt,Q0e,Q1f he,be,cmdZ]
  simp only [o3,hr3,Qb]
  rcases p85P (x := x3) (y := y3) h h3 i32 with ⟨c4,v4,x4,y4,hr4,h4,g4,o4⟩ | ⟨hr4,c4,e,q,he,o4⟩
  rotate_left
  ·have be:(e != 0)=true := bne_iff_ne.2 he
   simp only [o4,hr4,Q1l,Qb,Option.bind_none,Qt,Q0e,Q1f he,be,cmdZ]
  simp only [o4,hr4,Qb]
  rcases p84P (x := x4) (y := y4) h h4 with ⟨c5,v5,x5,y5,hr5,h5,g5,o5⟩ | ⟨hr5,c5,e,q,he,o5⟩
  rotate_left
  ·have be:(e != 0)=true := bne_iff_ne.2 he
   simp only [o5,hr5,Qb,Option.bind_none,Qt,Q0e,Q1f he,be,cmdZ]
  simp only [o5,hr5,Qb,Q0e]
  have hp := hw (3,v1,v2,v3,⟨#[]⟩,[],v5,0,v4,0,()) g4
  by_cases hlt:(c5:Int)<(a.length:Int)
  ·have hlt':c5<a.length := by omega
   simp only [Q1g,if_pos hlt,if_pos hlt',show ((15:Int) != 0)=true from rfl,Qb,Qt,Q0e,cmdZ]
  ·have hlt':¬ c5<a.length := by omega
   simp only [Q1g,if_neg hlt,if_neg hlt',show ((0:Int) != 0)=false from rfl,Qf,Q0e,Qb,hp]
   cases hwf:wf (3,v1,v2,v3,⟨#[]⟩,[],v5,0,v4,0,())
   ·simp only [Bool.not_false,Qt,Bool.false_eq_true,if_false,cmdZ]
   ·simp only [Bool.not_true,Qf,if_true]
 rw [if_neg k3]
 have b3:(m==3)=false := beq_eq_false_iff_ne.2 k3
 by_cases k4:m=4
 ·subst k4
  rw [if_pos rfl]
  simp only [show ((4:Int)==1)=false from rfl,show ((4:Int)==2)=false from rfl,show ((4:Int)==3)=false from rfl,show ((4:Int)==4)=true from rfl,Qt,Qf]
  rcases p85P (x := x1) (y := y1) h h1 i32 with ⟨c2,v2,x2,y2,hr2,h2,g2,o2⟩ | ⟨hr2,c2,e,q,he,o2⟩
  rotate_left
  ·have be:(e != 0)=true := bne_iff_ne.2 he
   simp only [o2,hr2,Qb,Option.bind_none,Qt,Q0e,Q1f he,be,cmdZ]
  simp only [o2,hr2,Qb,Q0e]
  have hp := hw (4,v1,0,0,⟨#[]⟩,[],0,0,v2,0,()) g2
  by_cases hlt:(c2:Int)<(a.length:Int)
  ·have hlt':c2<a.length := by omega
   simp only [Q1g,if_pos hlt,if_pos hlt',show ((15:Int) != 0)=true from rfl,Qb,Qt,Q0e,cmdZ]
  ·have hlt':¬ c2<a.length := by omega
   simp only [Q1g,if_neg hlt,if_neg hlt',show ((0:Int) != 0)=false from rfl,Qf,Q0e,Qb,hp]
   cases hwf:wf (4,v1,0,0,⟨#[]⟩,[],0,0,v2,0,())
   ·simp only [Bool.not_false,Qt,Bool.false_eq_true,if_false,cmdZ]
   ·simp only [Bool.not_true,Qf,if_true]
 rw [if_neg k4]
 have b4:(m==4)=false := beq_eq_false_iff_ne.2 k4
 by_cases k5:m=5 ∨ m=6
 ·rw [if_pos k5]
  simp only [b1,b2,b3,Qf]
  have c6:(m==5)=true ∨ ((m==5)=false∧(m==6)=true) := by
   rcases k5 with rfl | rfl
   ·exact .inl rfl
   ·exact .inr ⟨rfl,rfl⟩
  rcases c6 with c5 | ⟨c5,c6⟩
  ·simp only [b4,c5,Qt,Qf,Q0e]
   rcases p84P (x := x1) (y := y1) h h1 with ⟨c2,v2,x2,y2,hr2,h2,g2,o2⟩ | ⟨hr2,c2,e,q,he,o2⟩
   rotate_left
   ·have be:(e != 0)=true := bne_iff_ne.2 he
    simp only [o2,hr2,Qb,Option.bind_none,Qt,Q0e,Q1f he,be,cmdZ]
   simp only [o2,hr2,Qb,Q0e]
   have hp := hw (m,v1,0,0,⟨#[]⟩,[],0,0,⟨#[]⟩,v2,()) t0
   by_cases hlt:(c2:Int)<(a.length:Int)
   ·have hlt':c2<a.length := by omega
    simp only [Q1g,if_pos hlt,if_pos hlt',show ((15:Int) != 0)=true from rfl,Qb,Qt,Q0e,cmdZ]
   ·have hlt':¬ c2<a.length := by omega
    simp only [Q1g,if_neg hlt,if_neg hlt',show ((0:Int) != 0)=false from rfl,Qf,Q0e,Qb,hp]
    cases hwf:wf (m,v1,0,0,⟨#[]⟩,[],0,0,⟨#[]⟩,v2,())
    ·simp only [Bool.not_false,Qt,Bool.false_eq_true,if_false,cmdZ]
    ·simp only [Bool.not_true,Qf,if_true]
  ·simp only [b4,c5,c6,Qt,Qf,Q0e]
   rcases p84P (x := x1) (y := y1) h h1 with ⟨c2,v2,x2,y2,hr2,h2,g2,o2⟩ | ⟨hr2,c2,e,q,he,o2⟩
   rotate_left
   ·have be:(e != 0)=true := bne_iff_ne.2 he
    simp only [o2,hr2,Qb,Option.bind_none,Qt,Q0e,Q1f he,be,cmdZ]
   simp only [o2,hr2,Qb,Q0e]
   have hp := hw (m,v1,0,0,⟨#[]⟩,[],0,0,⟨#[]⟩,v2,()) t0
   by_cases hlt:(c2:Int)<(a.length:Int)
   ·have hlt':c2<a.length := by omega
    simp only [Q1g,if_pos hlt,if_pos hlt',show ((15:Int) != 0)=true from rfl,Qb,Qt,Q0e,cmdZ]
   ·have hlt':¬ c2<a.length := by omega
    simp only [Q1g,if_neg hlt,if_neg hlt',show ((0:Int) != 0)=false from rfl,Qf,Q0e,Qb,hp]
    cases hwf:wf (m,v1,0,0,⟨#[]⟩,[],0,0,⟨#[]⟩,v2,())
    ·simp only [Bool.not_false,Qt,Bool.false_eq_true,if_false,cmdZ]
    ·simp only [Bool.not_true,Qf,if_true]
 ·rw [if_neg k5]
  have b5:(m==5)=false := beq_eq_false_iff_ne.2 fun k=>k5 (.inl k)
  have b6:(m==6)=false := beq_eq_false_iff_ne.2 fun k=>k5 (.inr k)
  simp only [b1,b2,b3,b4,b5,b6,Qf,Q0e]
  have hp := hw (m,v1,0,0,⟨#[]⟩,[],0,0,⟨#[]⟩,0,()) t0
  by_cases hlt:(c1:Int)<(a.length:Int)
  ·have hlt':c1<a.length := by omega
   simp only [Q1g,if_pos hlt,if_pos hlt',show ((15:Int) != 0)=true from rfl,Qb,Qt,Q0e,cmdZ]
  ·have hlt':¬ c1<a.length := by omega
   simp only [Q1g,if_neg hlt,if_neg hlt',show ((0:Int) != 0)=false from rfl,Qf,Q0e,Qb,hp]
   cases hwf:wf (m,v1,0,0,⟨#[]⟩,[],0,0,⟨#[]⟩,0,())
   ·simp only [Bool.not_false,Qt,Bool.false_eq_true,if_false,cmdZ]
   ·simp only [Bool.not_true,Qf,if_true]
end
section
variable {fu:Nat}
theorem p74Z {v:Int} (hv:isU v) (hfu:10<fu):p74 fu (((),()),v,())=some (((uB v,()),()),()) := by
 unfold p74
 have ha := Q0n hv
 refine Q2g (fun (s:(Int×Unit)×((List Int×Unit)×Unit))=>isU s.1.1∧s.2.1.1.length+(uB s.1.1).length≤140737488355328) (fun s=>(uB s.1.1).length) (fun s=>(((s.2.1.1 ++ uB s.1.1,()),()),())) ?_ fu ((v,()),(([],()),())) ⟨hv,by simp only [List.length_nil]; omega⟩ (Nat.lt_of_le_of_lt (Q0n hv) hfu)
 rintro ⟨⟨f,⟨⟩⟩,⟨⟨h,⟨⟩⟩,⟨⟩⟩⟩ ⟨⟨h0,h1⟩,h2⟩
 dsimp only at h0 h1 h2
 obtain ⟨n,rfl⟩ := Int.eq_ofNat_of_zero_le h0
 have e:uB ((n:Nat):Int)=ub n := rfl
 simp only [e] at h2 ⊢
 by_cases hn:n<128
 ·right
  rw [Q2q hn] at h2 ⊢
  simp only [List.length_singleton] at h2
  have hw:IntKind.wrap .u8 (n:Int)=(n:Int) := wu8 (by omega) (by omega)
  have hl:h.length+1≤maxLen∧(h.length+1) * 1≤140737488355328 := ⟨Q2r h2,by omega⟩
  have hge:¬ ((n:Int)≥128) := by omega
  simp only [hge,hw,hl,List.length_singleton,decide_false,Qd,Q0a,Qf,Qt,and_self,inrO,Option.map_some]
 ·left
  rw [Q3i hn] at h2 ⊢
  simp only [List.length_cons] at h2
  have hl:h.length+1≤maxLen∧(h.length+1) * 1≤140737488355328 := ⟨Q2r (by omega),by omega⟩
  refine ⟨((((n / 128:Nat):Int),()),((h ++ [((n % 128+128:Nat):Int)],()),())),?_,⟨⟨by dsimp only; omega,by dsimp only; omega⟩,?_⟩,?_,?_⟩
  ·have hge:(n:Int)≥128 := by omega
   simp only [lowP,X1w,List.length_singleton,hl,hge,Qd,Q0a,Qt,and_self]
  ·show (h ++ [((n % 128+128:Nat):Int)]).length+(ub (n / 128)).length≤_
   simp only [List.length_append,List.length_singleton]
   omega
  ·show (ub (n / 128)).length<_
   simp
  ·show ((((h ++ [((n % 128+128:Nat):Int)]) ++ ub (n / 128),()),()),())=_
   simp
theorem p73Z {c:Int} (hc:isI c) (hfu:10<fu):p73 fu (((),()),c,())=some (((iB c,()),()),()) := by
 unfold p73
 simp only [zzP hc,p74Z (zz_u hc) hfu,Qb,Q0a,Qt]
 rfl
def sB (s:ByteArray):List Int := uB (s.size:Int) ++ numsOf s
theorem Q2t (s:ByteArray):(numsOf s).length=s.size := by
 simp [numsOf]
theorem Q5v {a:List Int} {s:ByteArray} (ha:a.length+(sB s).length≤140737488355328) (hfu:10<fu):p75 fu ((a,()),s,())=some (((a ++ sB s,()),(),()),()) := by
 unfold sB at ha
 rw [List.length_append,Q2t] at ha
 unfold p75
 have h2:(a ++ uB (s.size:Int)).length+s.size≤140737488355328 := by rw [List.length_append]; omega
 have e2:((a ++ uB (s.size:Int)).length+s.size≤maxLen∧(a ++ uB (s.size:Int)).length+s.size≤140737488355328)=True := eq_true ⟨Q2r h2,h2⟩
 simp only [wu64 (x := (s.size:Int)) (by omega) (by omega),Q0z (Q1t (by omega)) (show a.length+(uB (s.size:Int)).length≤140737488355328 by omega) hfu,Qb,Qd,Q0a,Qt,e2,sB,List.append_assoc]
def bB (b:Bool):List Int := [if b then 1 else 0]
theorem K2b {a:List Int} {b:Bool} (ha:a.length+1≤140737488355328):p79 fu ((a,()),b,())=some (((a ++ bB b,()),(),()),()) := by
 have e:(a.length+1≤maxLen∧(a.length+1) * 1≤140737488355328)=True := eq_true ⟨Q2r ha,by omega⟩
 unfold p79 bB
 cases b <;> simp only [Qt,Qf,Qd,Q0a,List.length_singleton,e,Bool.false_eq_true,if_false,if_true]
theorem Q3k {a:List Int} (ha:a.length≤140737488355328):p77 fu ((a,()),())=some ((),a) := by
 have e:(a.length≤maxLen∧a.length * 1≤140737488355328)=True := eq_true ⟨Q2r ha,by omega⟩
 unfold p77
 simp only [e,Qd,Q0a,Qt]
def recW (x:Rc):Prop := isU x.1∧isT 32 x.2.1∧((x.2.2.1.length:Int)≤256∧byt x.2.2.1)∧isU x.2.2.2.1∧isU x.2.2.2.2
def recB (x:Rc):List Int := uB x.1 ++ (sB x.2.1 ++ (tB x.2.2.1 ++ (uB x.2.2.2.1 ++ uB x.2.2.2.2)))
def lB {α:Type} (enc:α→List Int) (l:List α):List Int := uB (l.length:Int) ++ l.flatMap enc
theorem K2c {s:ByteArray} (h:isT 32 s):(sB s).length≤42 := by
 unfold isT at h
 unfold sB
 rw [List.length_append,Q2t]
 have := Q0n (Q1t (n := s.size) (by omega))
 omega
theorem X2m {x:Rc} (h:recW x):(recB x).length≤400 := by
 obtain ⟨h0,h1,⟨h2,_⟩,h3,h4⟩ := h
 unfold recB tB
 simp only [List.length_append]
 have a0 := Q0n h0
 have a1 := K2c h1
 have a2 := Q0n (Q1t (n := x.2.2.1.length) (by omega))
 have a3 := Q0n h3
 have a4 := Q0n h4
 omega
theorem X2n {α:Type} {enc:α→List Int} {l:List α} (h:∀ x ∈ l,(enc x).length≤400) (hl:(l.length:Int)≤4096):(lB enc l).length≤2000000 := by
 have hf:(l.flatMap enc).length≤400 * l.length := by
  clear hl
  induction l with
  | nil=>simp
  | cons x l ih =>
   have h1 := h x (by simp)
   have h2 := ih fun y hy=>h y (by simp [hy])
   simp only [List.flatMap_cons,List.length_append,List.length_cons]
   omega
 unfold lB
 rw [List.length_append]
 have := Q0n (Q1t (n := l.length) (by omega))
 omega
theorem K2d {a:List Int} {o:Int} {k:ByteArray} {v:List Int} {p s:Int} (h:recW (o,k,v,p,s)) (ha:a.length+(recB (o,k,v,p,s)).length≤140737488355328) (hfu:10<fu):p129 fu ((a,()),(o,k,v,p,s,()),())=some (((a ++ recB (o,k,v,p,s),()),(),()),()) := by
 obtain ⟨h0,h1,h2,h3,h4⟩ := h
 unfold recB at ha ⊢
 simp only [List.length_append] at ha
 dsimp only at h0 h1 h2 h3 h4 ha ⊢
 unfold p129
 simp only [Q0a,Qt]
 rw [Q0z h0 (by omega) hfu]
 simp only [Qb]
 rw [Q5v (by rw [List.length_append]; omega) hfu]
 simp only [Qb]
 rw [X1y (by simp only [List.length_append]; omega) hfu]
 simp only [Qb]
 rw [Q0z h3 (by simp only [List.length_append]; omega) hfu]
 simp only [Qb]
 rw [Q0z h4 (by simp only [List.length_append]; omega) hfu]
 simp only [Qb,List.append_assoc]
theorem X2o {α S R:Type} {f:S→Option (S ⊕ R)} (l:List α) (enc:α→List Int) (mk:Nat→List Int→S)
  (hs:∀ k b (h:k<l.length),b.length+(enc l[k]).length≤140737488355328→f (mk k b)=some (.inl (mk (k+1) (b ++ enc l[k])))) :
  ∀ m k b j,k+m=l.length→b.length+((l.drop k).flatMap enc).length≤140737488355328→m<j → ∃ i,loopO j f (mk k b)=loopO (i+1) f (mk l.length (b ++ (l.drop k).flatMap enc))
 | 0,k,b,j,hk,hb,hj=>by
  obtain ⟨j,rfl⟩:∃ i,j=i+1 := ⟨j-1,by omega⟩
  obtain rfl:k=l.length := by omega
  exact ⟨j,by rw [List.drop_length]; simp⟩
 | m+1,k,b,j,hk,hb,hj=>by
  obtain ⟨j,rfl⟩:∃ i,j=i+1 := ⟨j-1,by omega⟩
  have hlt:k<l.length := by omega
  rw [List.drop_eq_getElem_cons hlt,List.flatMap_cons] at hb ⊢
  rw [List.length_append] at hb
  obtain ⟨i,hi⟩ := X2o l enc mk hs m (k+1) (b ++ enc l[k]) j (by omega) (by rw [List.length_append]; omega) (by omega)
  refine ⟨i,?_⟩
  rw [← List.append_assoc,← hi]
  simp only [loopO,hs k b hlt (by omega)]
theorem K2e {α S R:Type} {f:S→Option (S ⊕ R)} {fu:Nat} {o:Option R} {b:List Int} (l:List α) (enc:α→List Int) (mk:Nat→List Int→S) (ho:loopO fu f (mk 0 b)=o)
  (hs:∀ k b (h:k<l.length),b.length+(enc l[k]).length≤140737488355328→f (mk k b)=some (.inl (mk (k+1) (b ++ enc l[k])))) (hb:b.length+(l.flatMap enc).length≤140737488355328) (hf:l.length<fu) :
  ∃ i,o=loopO (i+1) f (mk l.length (b ++ l.flatMap enc)) := by
 subst ho
 exact X2o l enc mk hs l.length 0 b fu (by omega) hb hf
theorem K2f {α:Type} {l:List α} {k:Nat} (h:k<l.length) (d:α):l.getD k d=l[k] := by
 rw [List.getD_eq_getElem?_getD,List.getElem?_eq_getElem h]
 rfl
theorem K2g {a:List Int} {l:List Rc} (h:∀ x ∈ l,recW x) (hl:(l.length:Int)≤4096) (ha:a.length≤10000000) (hf:4194304<fu):p80 fu ((a,()),l,())=some (((a ++ lB recB l,()),(),()),()) := by
 have hlen := X2n (enc := recB) (fun x hx=>X2m (h x hx)) hl
 unfold lB at hlen ⊢
 rw [List.length_append] at hlen
 unfold p80
 simp only [wu64 (x := (l.length:Int)) (by omega) (by omega),Q0z (Q1t (by omega)) (show a.length+(uB (l.length:Int)).length≤140737488355328 by omega) (show 10<fu by omega),Qb,Q0a,Qt]
 generalize hL:loopO fu _ _=o
 obtain ⟨i,hi⟩ := K2e l recB (fun k b=>(((k:Int),()),((b,()),()))) hL (fun k b hk hb=>by
  have e1:decide ((k:Int)<(l.length:Int))=true := by simp; omega
  have e2:decide ((0:Int)≤(k:Int)∧(k:Int)<(l.length:Int))=true := by simp; omega
  have e3:IntKind.wrap .i64 ((k:Int)+1)=((k+1:Nat):Int) := by rw [wi64 (by omega) (by omega)]; omega
  have hx := h l[k] (List.getElem_mem hk)
  simp only [e1,e2,e3,Int.toNat_natCast,decide_eq_true hk,K2f hk,Qt]
  generalize l[k]=x at hx hb ⊢
  obtain ⟨o,y,v,p,s⟩ := x
  dsimp only
  rw [K2d hx hb (by omega)]
  simp only [Qb]) (by rw [List.length_append]; omega) (by omega)
 rw [hi]
 simp only [loopO,Int.lt_irrefl,decide_false,Qf,inrO,Option.map_some,List.append_assoc]
end
section
variable {fu:Nat}
def cmdW (x:Cmd):Prop := isI x.1∧isU x.2.1∧isU x.2.2.1∧isU x.2.2.2.1∧x.2.2.2.2.1.size≤1048576∧(x.2.2.2.2.2.1.length≤1048576∧byt x.2.2.2.2.2.1)∧isU x.2.2.2.2.2.2.1∧isI x.2.2.2.2.2.2.2.1∧x.2.2.2.2.2.2.2.2.1.size≤1048576∧isU x.2.2.2.2.2.2.2.2.2.1
def cmdF:Cmd→List Int
 | (k,_,pr,sq,key,v,off,most,name,plan,_) =>
  if k=1 then uB pr ++ (uB sq ++ (sB key ++ tB v)) else if k=2 then uB off ++ iB most else if k=3 then uB pr ++ (uB sq ++ (sB name ++ uB off)) else if k=4 then sB name else uB plan
def cmdB (x:Cmd):List Int := if 1≤x.1∧x.1≤6 then iB x.1 ++ (uB x.2.1 ++ cmdF x) else []
theorem Q5w {s:ByteArray} (h:s.size≤1048576):(sB s).length≤10+s.size := by
 unfold sB
 rw [List.length_append,Q2t]
 have := Q0n (Q1t (n := s.size) (by omega))
 omega
theorem X2p {v:List Int} (h:v.length≤1048576):(tB v).length≤10+v.length := by
 unfold tB
 rw [List.length_append]
 have := Q0n (Q1t (n := v.length) (by omega))
 omega
theorem Q3s {c:Int} (h:isI c):(iB c).length≤10 := Q0n (zz_u h)
theorem K2h {x:Cmd} (h:cmdW x) (hfu:10<fu):p21 fu (x,())=some ((),cmdB x) := by
 obtain ⟨k,ep,pr,sq,key,v,off,most,name,plan,⟨⟩⟩ := x
 obtain ⟨g0,g1,g2,g3,g4,⟨g5,_⟩,g6,g7,g8,g9⟩ := h
 dsimp only at g0 g1 g2 g3 g4 g5 g6 g7 g8 g9
 have a0 := Q3s g0
 have a1 := Q0n g1
 have a2 := Q0n g2
 have a3 := Q0n g3
 have a4 := Q5w g4
 have a5 := X2p g5
 have a6 := Q0n g6
 have a7 := Q3s g7
 have a8 := Q5w g8
 have a9 := Q0n g9
 unfold p21 cmdB cmdF
 simp only [p73Z g0 hfu,Qb,Q0a,Qt]
 rw [Q0z g1 (by omega) hfu]
 simp only [Qb]
 by_cases k1:k=1
 ·subst k1
  simp only [show ((1:Int)==1)=true from rfl,Qt]
  rw [Q0z g2 (by simp only [List.length_append]; omega) hfu]
  simp only [Qb]
  rw [Q0z g3 (by simp only [List.length_append]; omega) hfu]
  simp only [Qb]
  rw [Q5v (by simp only [List.length_append]; omega) hfu]
  simp only [Qb]
  rw [X1y (by simp only [List.length_append]; omega) hfu]
  simp only [Qb]
  rw [Q3k (by simp only [List.length_append]; omega)]
  simp only [Qb,List.append_assoc]
  rfl
 have b1:(k==1)=false := beq_eq_false_iff_ne.2 k1
 by_cases k2:k=2
 ·subst k2
  simp only [show ((2:Int)==1)=false from rfl,show ((2:Int)==2)=true from rfl,Qt,Qf]
  rw [Q0z g6 (by simp only [List.length_append]; omega) hfu]
  simp only [Qb]
  rw [K1m g7 (by simp only [List.length_append]; omega) hfu]
  simp only [Qb]
  rw [Q3k (by simp only [List.length_append]; omega)]
  simp only [Qb,List.append_assoc]
  rfl
 have b2:(k==2)=false := beq_eq_false_iff_ne.2 k2
 by_cases k3:k=3
 ·subst k3
  simp only [show ((3:Int)==1)=false from rfl,show ((3:Int)==2)=false from rfl,show ((3:Int)==3)=true from rfl,Qt,Qf]
  rw [Q0z g2 (by simp only [List.length_append]; omega) hfu]
  simp only [Qb]
  rw [Q0z g3 (by simp only [List.length_append]; omega) hfu]
  simp only [Qb]
  rw [Q5v (by simp only [List.length_append]; omega) hfu]
  simp only [Qb]
  rw [Q0z g6 (by simp only [List.length_append]; omega) hfu]
  simp only [Qb]
  rw [Q3k (by simp only [List.length_append]; omega)]
  simp only [Qb,List.append_assoc]
  rfl
 have b3:(k==3)=false := beq_eq_false_iff_ne.2 k3
 by_cases k4:k=4
 ·subst k4
  simp only [show ((4:Int)==1)=false from rfl,show ((4:Int)==2)=false from rfl,show ((4:Int)==3)=false from rfl,show ((4:Int)==4)=true from rfl,Qt,Qf]
  rw [Q5v (by simp only [List.length_append]; omega) hfu]
  simp only [Qb]
  rw [Q3k (by simp only [List.length_append]; omega)]
  simp only [Qb,List.append_assoc]
  rfl
 have b4:(k==4)=false := beq_eq_false_iff_ne.2 k4
 by_cases k5:k=5
 ·subst k5
  simp only [show ((5:Int)==1)=false from rfl,show ((5:Int)==2)=false from rfl,show ((5:Int)==3)=false from rfl,show ((5:Int)==4)=false from rfl,show ((5:Int)==5)=true from rfl,Qt,Qf,Q0e]
  rw [Q0z g9 (by simp only [List.length_append]; omega) hfu]
  simp only [Qb]
  rw [Q3k (by simp only [List.length_append]; omega)]
  simp only [Qb,List.append_assoc]
  rfl
 have b5:(k==5)=false := beq_eq_false_iff_ne.2 k5
 by_cases k6:k=6
 ·subst k6
  simp only [show ((6:Int)==1)=false from rfl,show ((6:Int)==2)=false from rfl,show ((6:Int)==3)=false from rfl,show ((6:Int)==4)=false from rfl,show ((6:Int)==5)=false from rfl,show ((6:Int)==6)=true from rfl,Qt,Qf,Q0e]
  rw [Q0z g9 (by simp only [List.length_append]; omega) hfu]
  simp only [Qb]
  rw [Q3k (by simp only [List.length_append]; omega)]
  simp only [Qb,List.append_assoc]
  rfl
 have b6:(k==6)=false := beq_eq_false_iff_ne.2 k6
 have hk:¬ (1≤k∧k≤6) := by omega
 simp only [b1,b2,b3,b4,b5,b6,Qf,Q0e,if_neg hk]
end
section
variable {fu:Nat}
theorem Q0s {a w t:List Int} {c:Nat} (h:a.drop c=w ++ t):a.drop (c+w.length)=t := by rw [← List.drop_drop,h,List.drop_left]
theorem K2i {a w t:List Int} {c:Nat} (h:a.drop c=w ++ t):t.length=a.length-(c+w.length) := by
 rw [← Q0s h,List.length_drop]
theorem Q1b {a t:List Int} {c:Nat} {v:Int} (hv:isU v) (h:a.drop c=uB v ++ t):uS a c=some (c+(uB v).length,v) := by
 obtain ⟨n,rfl⟩ := Int.eq_ofNat_of_zero_le hv.1
 have hn := hv.2
 have e := X2c (n+1) n 0 0 t (Nat.lt_succ_self n) (fun h=>absurd h (Nat.lt_irrefl 0)) (by omega) (by decide) (by simp only [Nat.pow_zero,Nat.mul_one,Nat.zero_add]; omega)
 simp only [Nat.pow_zero,Nat.mul_one,Nat.zero_add] at e
 unfold uS
 rw [h,show uB ((n:Nat):Int)=ub n from rfl,e,if_pos rfl]
 rfl
theorem Q8e {a t:List Int} {c:Nat} {v:Int} (hv:isI v) (h:a.drop c=iB v ++ t):iS a c=some (c+(iB v).length,v) := by
 unfold iS
 rw [Q1b (zz_u hv) h,Qb,K1o]
 rfl
theorem X2q {a t:List Int} {c n:Nat} {m:Int} (h:a.drop c=uB (n:Int) ++ t) (hn:n≤140737488355328) (hm:(n:Int)≤m) (ht:n≤t.length):cntS m a c=some (c+(uB (n:Int)).length,(n:Int)) := by
 have hl := K2i h
 unfold cntS
 rw [Q1b (Q1t hn) h,Qb,if_neg (by dsimp only; omega)]
theorem Q8f {a t d:List Int} {c:Nat} {m:Int} (h:a.drop c=tB d ++ t) (hd:d.length≤140737488355328) (hm:(d.length:Int)≤m):bytS m a c=some (c+(tB d).length,d) := by
 unfold tB at h ⊢
 rw [List.append_assoc] at h
 unfold bytS
 rw [X2q h hd hm (by rw [List.length_append]; omega),Qb]
 dsimp only
 rw [Q0s h,Int.toNat_natCast,List.take_left,List.length_append,Nat.add_assoc]
theorem X2r {a t d:List Int} {c:Nat} {m:Int} (h:a.drop c=tB d ++ t) (hd:d.length≤140737488355328) (hm:¬ (d.length:Int)≤m):bytS m a c=none := by
 unfold tB at h
 rw [List.append_assoc] at h
 unfold bytS cntS
 rw [Q1b (Q1t hd) h,Qb,if_pos (by dsimp only; omega)]
 rfl
theorem Q5x (s:ByteArray):sB s=tB (numsOf s) := by
 unfold sB tB
 rw [Q2t]
theorem K2j (s:ByteArray):strOfNums (numsOf s)=s := by
 obtain ⟨⟨l⟩⟩ := s
 show (⟨((l.map fun b=>((b.toNat:Nat):Int)).map fun n=>UInt8.ofNat n.toNat).toArray⟩:ByteArray)=⟨⟨l⟩⟩
 rw [List.map_map]
 have:l.map ((fun n:Int=>UInt8.ofNat n.toNat) ∘ fun b:UInt8=>((b.toNat:Nat):Int))=l := by
  rw [List.map_congr_left (g := id) (fun b _=>by simp),List.map_id]
 rw [this]
theorem Q5y {a t:List Int} {s:ByteArray} {c:Nat} {m:Int} (h:a.drop c=sB s ++ t) (hd:s.size≤140737488355328) (hm:(s.size:Int)≤m):strS m a c=some (c+(sB s).length,s) := by
 rw [Q5x] at h ⊢
 unfold strS
 rw [Q8f h (by rw [Q2t]; exact hd) (by rw [Q2t]; exact hm),Qb]
 dsimp only
 rw [K2j]
theorem Q8g {a t:List Int} {s:ByteArray} {c:Nat} {m:Int} (h:a.drop c=sB s ++ t) (hd:s.size≤140737488355328) (hm:¬ (s.size:Int)≤m):strS m a c=none := by
 rw [Q5x] at h
 unfold strS
 rw [X2r h (by rw [Q2t]; exact hd) (by rw [Q2t]; exact hm)]
 rfl
theorem K2k {a t:List Int} {b:Bool} {c:Nat} (h:a.drop c=bB b ++ t):boolS a c=some (c+(bB b).length,b) := by
 have hl := congrArg List.length h
 simp only [bB,List.length_drop,List.length_append,List.length_singleton] at hl
 have hg:a.getD c 0=if b then 1 else 0 := by
  rw [List.getD_eq_getElem?_getD]
  have := congrArg (fun l=>l[0]?) h
  simp only [List.getElem?_drop,bB,List.singleton_append,List.getElem?_cons_zero,Nat.add_zero] at this
  rw [this]
  rfl
 unfold boolS
 rw [hg,if_pos (by constructor; omega; cases b <;> decide)]
 cases b <;> rfl
theorem K2l {a t:List Int} {c:Nat} {x:Rc} (hx:recW x) (h:a.drop c=recB x ++ t):recS a c=some (c+(recB x).length,x) := by
 obtain ⟨h0,h1,⟨h2,h2'⟩,h3,h4⟩ := hx
 unfold recB at h ⊢
 simp only [List.append_assoc] at h
 unfold isT at h1
 have d1 := Q0s h
 have d2 := Q0s d1
 have d3 := Q0s d2
 have d4 := Q0s d3
 unfold recS
 simp only [Q1b h0 h,Q5y d1 (by omega) h1,Q8f d2 (by omega) h2,Q1b h3 d3,Q1b h4 d4,Qb]
 simp only [List.length_append,Nat.add_assoc]
theorem X2s {α:Type} {S:List Int→Nat→Option (Nat×α)} {enc:α→List Int} {W:α→Prop} (hS:∀ a t c x,W x→a.drop c=enc x ++ t→S a c=some (c+(enc x).length,x)) :
  ∀ (l s:List α) (a t:List Int) (c:Nat),(∀ x ∈ l,W x)→a.drop c=l.flatMap enc ++ t→repS S a l.length s c=some (c+(l.flatMap enc).length,s ++ l)
 | [],s,a,t,c,_,h=>by simp [repS]
 | x :: l,s,a,t,c,hw,h=>by
  rw [List.flatMap_cons,List.append_assoc] at h
  simp only [repS,List.length_cons,hS a _ c x (hw x (by simp)) h,Qb]
  rw [X2s hS l (s ++ [x]) a t _ (fun y hy=>hw y (by simp [hy])) (Q0s h),List.flatMap_cons,List.length_append,Nat.add_assoc,List.append_assoc]
  rfl
theorem K2m {α:Type} {enc:α→List Int} (he:∀ x,1≤(enc x).length) (l:List α):l.length≤(l.flatMap enc).length := by
 induction l with
 | nil=>simp
 | cons x l ih =>
  have := he x
  rw [List.flatMap_cons,List.length_append,List.length_cons]
  omega
theorem K2n {α:Type} {S:List Int→Nat→Option (Nat×α)} {enc:α→List Int} {W:α→Prop} (hS:∀ a t c x,W x→a.drop c=enc x ++ t→S a c=some (c+(enc x).length,x)) (he:∀ x,1≤(enc x).length)
  {l:List α} {a t:List Int} {c:Nat} {m:Int} (hw:∀ x ∈ l,W x) (hm:(l.length:Int)≤m) (hl:l.length≤140737488355328) (h:a.drop c=lB enc l ++ t):listS S m a c=some (c+(lB enc l).length,l) := by
 unfold lB at h ⊢
 rw [List.append_assoc] at h
 have hg := K2m he l
 unfold listS
 rw [X2q h hl hm (by rw [List.length_append]; omega),Qb,Int.toNat_natCast]
 rw [X2s hS l [] a t _ hw (Q0s h),List.length_append,Nat.add_assoc]
 rfl
theorem K2o (n:Nat):1≤(ub n).length := by
 by_cases h:n<128
 ·rw [Q2q h]
  simp
 ·rw [Q3i h]
  simp
theorem K2p (x:Rc):1≤(recB x).length := by
 unfold recB
 rw [List.length_append]
 have:1≤(uB x.1).length := K2o _
 omega
end
section
variable {fu:Nat}
def Cz {α:Type} (S:List Int→Nat→Option (Nat×α)) (enc:α→List Int) (W:α→Prop):Prop :=
 ∀ (a:List Int) (c c':Nat) (v:α),byt a→S a c=some (c',v)→W v∧a.drop c=enc v ++ a.drop c'
theorem X2t {a:List Int} (h:byt a) (c:Nat):byt (a.drop c) := fun x hx=>h x (List.mem_of_mem_drop hx)
theorem Cn_u:Cz uS uB isU := by
 intro a c c' v hb h
 unfold uS at h
 split at h
 ·rename_i h0
  injection h with h
  injection h with h1 h2
  have hnum:numS 0 0 (a.drop c)=((numS 0 0 (a.drop c)).1,(numS 0 0 (a.drop c)).2.1,0) := by rw [← h0]
  have hu := Q7z (a.drop c) 0 0 _ _ (X2t hb c) (by omega) (by decide) hnum
  obtain ⟨w,m,e1,e2,e3,_⟩ := X2d (a.drop c) 0 0 (numS 0 0 (a.drop c)).1 (numS 0 0 (a.drop c)).2.1 (X2t hb c) hnum
  rw [h2] at hu
  rw [e2] at h1
  rw [e1] at h2
  simp only [Nat.pow_zero,Nat.mul_one,Nat.zero_add,Int.toNat_natCast] at h1 h2
  subst h1 h2
  refine ⟨hu,?_⟩
  show _=ub w ++ _
  rw [← e3,← List.drop_drop,List.take_append_drop]
 ·cases h
theorem Cn_i:Cz iS iB isI := by
 intro a c c' v hb h
 unfold iS at h
 obtain ⟨⟨c0,v0⟩,e0,h⟩ := Option.bind_eq_some_iff.1 h
 injection h with h
 injection h with h1 h2
 subst h1 h2
 obtain ⟨g,e⟩ := Cn_u a c c0 v0 hb e0
 refine ⟨Q8a g,?_⟩
 unfold iB
 dsimp only
 rw [K1p g]
 exact e
theorem Cn_b {m:Int}:Cz (bytS m) tB fun l=>(l.length:Int)≤m∧byt l := by
 intro a c c' v hb h
 unfold bytS cntS at h
 obtain ⟨⟨c0,v0⟩,e0,h⟩ := Option.bind_eq_some_iff.1 h
 obtain ⟨⟨c1,v1⟩,e1,h1⟩ := Option.bind_eq_some_iff.1 e0
 injection h with h
 injection h with h2 h3
 dsimp only at h1 h2 h3
 split at h1
 ·cases h1
 ·rename_i hc
  injection h1 with h1
  injection h1 with h4 h5
  subst h4 h5 h2 h3
  obtain ⟨g,e⟩ := Cn_u a c c1 v1 hb e1
  obtain ⟨n,rfl⟩ := Int.eq_ofNat_of_zero_le g.1
  have hl:((a.drop c1).take (Int.toNat (n:Int))).length=n := by
   rw [Int.toNat_natCast,List.length_take,List.length_drop]
   omega
  refine ⟨⟨by rw [hl]; omega,fun x hx=>hb x (List.mem_of_mem_drop (List.mem_of_mem_take hx))⟩,?_⟩
  unfold tB
  rw [hl,List.append_assoc,← List.drop_drop,List.take_append_drop]
  exact e
theorem K2q {l:List Int} (h:byt l):numsOf (strOfNums l)=l := by
 show ((l.map fun n=>UInt8.ofNat n.toNat).toArray.toList.map fun b=>((b.toNat:Nat):Int))=l
 rw [List.toList_toArray,List.map_map]
 have:l.map ((fun b:UInt8=>((b.toNat:Nat):Int)) ∘ fun n:Int=>UInt8.ofNat n.toNat)=l := by
  rw [List.map_congr_left (g := id) (fun b hb=>by
   have := h b hb
   simp only [Function.comp,UInt8.toNat_ofNat',id]
   omega),List.map_id]
 exact this
theorem Cn_s {m:Int}:Cz (strS m) sB (isT m) := by
 intro a c c' v hb h
 unfold strS at h
 obtain ⟨⟨c0,v0⟩,e0,h⟩ := Option.bind_eq_some_iff.1 h
 injection h with h
 injection h with h1 h2
 subst h1 h2
 obtain ⟨⟨g1,g2⟩,e⟩ := Cn_b a c c0 v0 hb e0
 refine ⟨by unfold isT; rw [X2i]; exact g1,?_⟩
 rw [Q5x,K2q g2]
 exact e
end
section
variable {fu:Nat}
theorem K2r (s:ByteArray):byt (numsOf s) := fun x hx=>by
 obtain ⟨b,_,rfl⟩ := List.mem_map.1 hx
 have := b.toNat_lt
 omega
theorem Q5z (s:ByteArray):byt (sB s) := by
 rw [Q5x]
 exact Q8b (K2r s)
theorem K2s {x:Cmd} (h:cmdW x):byt (cmdB x) := by
 obtain ⟨k,ep,pr,sq,key,v,off,most,name,plan,⟨⟩⟩ := x
 obtain ⟨g0,g1,g2,g3,g4,⟨_,g5⟩,g6,g7,g8,g9⟩ := h
 dsimp only at g5
 unfold cmdB cmdF iB
 dsimp only
 split
 ·refine Q0v (Q1a _) (Q0v (Q1a _) ?_)
  split
  ·exact Q0v (Q1a _) (Q0v (Q1a _) (Q0v (Q5z _) (Q8b g5)))
  ·split
   ·exact Q0v (Q1a _) (Q1a _)
   ·split
    ·exact Q0v (Q1a _) (Q0v (Q1a _) (Q0v (Q5z _) (Q1a _)))
    ·split
     ·exact Q5z _
     ·exact Q1a _
 ·exact fun x hx=>by simp at hx
theorem K2t {x:Cmd} (h:cmdW x):(cmdB x).length≤140737488355328 := by
 obtain ⟨k,ep,pr,sq,key,v,off,most,name,plan,⟨⟩⟩ := x
 obtain ⟨g0,g1,g2,g3,g4,⟨g5,_⟩,g6,g7,g8,g9⟩ := h
 dsimp only at g0 g1 g2 g3 g4 g5 g6 g7 g8 g9
 have a0 := Q3s g0
 have a1 := Q0n g1
 have a2 := Q0n g2
 have a3 := Q0n g3
 have a4 := Q5w g4
 have a5 := X2p g5
 have a6 := Q0n g6
 have a7 := Q3s g7
 have a8 := Q5w g8
 have a9 := Q0n g9
 unfold cmdB cmdF
 dsimp only
 split
 ·simp only [List.length_append]
  split
  ·simp only [List.length_append]; omega
  ·split
   ·simp only [List.length_append]; omega
   ·split
    ·simp only [List.length_append]; omega
    ·split <;> omega
 ·simp
theorem i0:isI 0 := by unfold isI; omega
theorem u0:isU 0 := by unfold isU; omega
theorem K2u {a:List Int} {c:Nat} {x:Cmd} (hb:byt a) (h:cmdR a=some (c,x)) (hk:1≤x.1∧x.1≤6):cmdW x∧a=cmdB x ++ a.drop c := by
 have s0:(⟨#[]⟩:ByteArray).size≤1048576 := by decide
 have l0:([]:List Int).length≤1048576∧byt [] := ⟨by simp,X2a⟩
 unfold cmdR at h
 obtain ⟨⟨c0,m⟩,e0,h⟩ := Option.bind_eq_some_iff.1 h
 obtain ⟨⟨c1,u⟩,e1,h⟩ := Option.bind_eq_some_iff.1 h
 obtain ⟨g0,d0⟩ := Cn_i _ _ _ _ hb e0
 obtain ⟨g1,d1⟩ := Cn_u _ _ _ _ hb e1
 have d:a=a.drop 0 := rfl
 dsimp only at h d1
 unfold cmdK at h
 by_cases k1:m=1
 ·rw [if_pos k1] at h
  subst k1
  obtain ⟨⟨c2,v2⟩,e2,h⟩ := Option.bind_eq_some_iff.1 h
  obtain ⟨⟨c3,v3⟩,e3,h⟩ := Option.bind_eq_some_iff.1 h
  obtain ⟨⟨c4,v4⟩,e4,h⟩ := Option.bind_eq_some_iff.1 h
  obtain ⟨⟨c5,v5⟩,e5,h⟩ := Option.bind_eq_some_iff.1 h
  injection h with h
  injection h with h1 h2
  subst h1 h2
  obtain ⟨g2,d2⟩ := Cn_u _ _ _ _ hb e2
  obtain ⟨g3,d3⟩ := Cn_u _ _ _ _ hb e3
  obtain ⟨g4,d4⟩ := Cn_s _ _ _ _ hb e4
  obtain ⟨g5,d5⟩ := Cn_b _ _ _ _ hb e5
  dsimp only at d3 d4 d5
  refine ⟨⟨g0,g1,g2,g3,by have := g4; unfold isT at this; dsimp only; omega,⟨by have := g5.1; dsimp only; omega,g5.2⟩,u0,i0,s0,u0⟩,?_⟩
  conv=>lhs; rw [d,d0,d1,d2,d3,d4,d5]
  unfold cmdB cmdF
  rw [if_pos hk]
  dsimp only
  rw [if_pos rfl]
  simp only [List.append_assoc]
 rw [if_neg k1] at h
 by_cases k2:m=2
 ·rw [if_pos k2] at h
  subst k2
  obtain ⟨⟨c2,v2⟩,e2,h⟩ := Option.bind_eq_some_iff.1 h
  obtain ⟨⟨c3,v3⟩,e3,h⟩ := Option.bind_eq_some_iff.1 h
  injection h with h
  injection h with h1 h2
  subst h1 h2
  obtain ⟨g2,d2⟩ := Cn_u _ _ _ _ hb e2
  obtain ⟨g3,d3⟩ := Cn_i _ _ _ _ hb e3
  dsimp only at d3
  refine ⟨⟨g0,g1,u0,u0,s0,l0,g2,g3,s0,u0⟩,?_⟩
  conv=>lhs; rw [d,d0,d1,d2,d3]
  unfold cmdB cmdF
  rw [if_pos hk]
  dsimp only
  rw [if_neg (by decide)]
  rw [if_pos rfl]
  simp only [List.append_assoc]
 rw [if_neg k2] at h
 by_cases k3:m=3
 ·rw [if_pos k3] at h
  subst k3
  obtain ⟨⟨c2,v2⟩,e2,h⟩ := Option.bind_eq_some_iff.1 h
  obtain ⟨⟨c3,v3⟩,e3,h⟩ := Option.bind_eq_some_iff.1 h
  obtain ⟨⟨c4,v4⟩,e4,h⟩ := Option.bind_eq_some_iff.1 h
  obtain ⟨⟨c5,v5⟩,e5,h⟩ := Option.bind_eq_some_iff.1 h
  injection h with h
  injection h with h1 h2
  subst h1 h2
  obtain ⟨g2,d2⟩ := Cn_u _ _ _ _ hb e2
  obtain ⟨g3,d3⟩ := Cn_u _ _ _ _ hb e3
  obtain ⟨g4,d4⟩ := Cn_s _ _ _ _ hb e4
  obtain ⟨g5,d5⟩ := Cn_u _ _ _ _ hb e5
  dsimp only at d3 d4 d5
  refine ⟨⟨g0,g1,g2,g3,s0,l0,g5,i0,by have := g4; unfold isT at this; dsimp only; omega,u0⟩,?_⟩
  conv=>lhs; rw [d,d0,d1,d2,d3,d4,d5]
  unfold cmdB cmdF
  rw [if_pos hk]
  dsimp only
  rw [if_neg (by decide)]
  rw [if_neg (by decide)]
  rw [if_pos rfl]
  simp only [List.append_assoc]
 rw [if_neg k3] at h
 by_cases k4:m=4
 ·rw [if_pos k4] at h
  subst k4
  obtain ⟨⟨c2,v2⟩,e2,h⟩ := Option.bind_eq_some_iff.1 h
  injection h with h
  injection h with h1 h2
  subst h1 h2
  obtain ⟨g2,d2⟩ := Cn_s _ _ _ _ hb e2
  refine ⟨⟨g0,g1,u0,u0,s0,l0,u0,i0,by have := g2; unfold isT at this; dsimp only; omega,u0⟩,?_⟩
  conv=>lhs; rw [d,d0,d1,d2]
  unfold cmdB cmdF
  rw [if_pos hk]
  dsimp only
  rw [if_neg (by decide)]
  rw [if_neg (by decide)]
  rw [if_neg (by decide)]
  rw [if_pos rfl]
  simp only [List.append_assoc]
 rw [if_neg k4] at h
 by_cases k56:m=5 ∨ m=6
 ·rw [if_pos k56] at h
  obtain ⟨⟨c2,v2⟩,e2,h⟩ := Option.bind_eq_some_iff.1 h
  injection h with h
  injection h with h1 h2
  subst h1 h2
  obtain ⟨g2,d2⟩ := Cn_u _ _ _ _ hb e2
  refine ⟨⟨g0,g1,u0,u0,s0,l0,u0,i0,s0,g2⟩,?_⟩
  conv=>lhs; rw [d,d0,d1,d2]
  unfold cmdB cmdF
  rw [if_pos hk]
  dsimp only
  rw [if_neg k1,if_neg k2,if_neg k3,if_neg k4]
  simp only [List.append_assoc]
 rw [if_neg k56] at h
 injection h with h
 injection h with h1 h2
 subst h2
 dsimp only at hk
 omega
theorem X2u {y:List Int} (h:okA fu y):readCX wfS y=(cmdZ,161,()) ∨ ∃ x,readCX wfS y=(x,0,())∧cmdW x∧cmdB x=y := by
 unfold readCX
 rcases hr:cmdR y with _ | ⟨c,x⟩
 ·exact .inl rfl
 ·dsimp only
  split
  ·exact .inl rfl
  ·rename_i hc
   split
   ·rename_i h0
    have hk := Q4l h0
    obtain ⟨h1,h2⟩ := K2u h.hb hr (by omega)
    refine .inr ⟨x,rfl,h1,?_⟩
    rw [List.drop_eq_nil_of_le (by omega),List.append_nil] at h2
    exact h2.symm
   ·exact .inl rfl
theorem K2v {ep pr sq off most plan:Int} {key name:ByteArray} {v:List Int} (h:¬ (key.size:Int)≤32):wfS (1,ep,pr,sq,key,v,off,most,name,plan,())=false := by
 have:¬ key.size≤32 := by omega
 show (((judge [] pr sq).1 != 4) && (decide (key.size≤32) && decide (v.length≤256)))=false
 rw [decide_eq_false this,Bool.false_and,Bool.and_false]
theorem K2w {ep pr sq off most plan:Int} {key name:ByteArray} {v:List Int} (h:¬ (v.length:Int)≤256):wfS (1,ep,pr,sq,key,v,off,most,name,plan,())=false := by
 have:¬ v.length≤256 := by omega
 show (((judge [] pr sq).1 != 4) && (decide (key.size≤32) && decide (v.length≤256)))=false
 rw [decide_eq_false this,Bool.and_false,Bool.and_false]
theorem X2v {k ep pr sq off most plan:Int} {key name:ByteArray} {v:List Int} (hk:k=3 ∨ k=4) (h:¬ (name.size:Int)≤32):wfS (k,ep,pr,sq,key,v,off,most,name,plan,())=false := by
 have hn:nameB name=false := by
  cases hn:nameB name with
  | false=>rfl
  | true =>
   have := X1t hn
   omega
 rcases hk with rfl | rfl
 ·show (((judge [] pr sq).1 != 4) && nameB name)=false
  rw [hn,Bool.and_false]
 ·exact hn
def norm:Cmd→Cmd
 | (k,ep,pr,sq,key,v,off,most,name,plan,_) =>
  if k=1 then (k,ep,pr,sq,key,v,0,0,⟨#[]⟩,0,()) else if k=2 then (k,ep,0,0,⟨#[]⟩,[],off,most,⟨#[]⟩,0,()) else if k=3 then (k,ep,pr,sq,⟨#[]⟩,[],off,0,name,0,())
  else if k=4 then (k,ep,0,0,⟨#[]⟩,[],0,0,name,0,()) else (k,ep,0,0,⟨#[]⟩,[],0,0,⟨#[]⟩,plan,())
theorem X2w {x:Cmd} (h:cmdW x):readCX wfS (cmdB x)=if wfS x=true then (norm x,0,()) else (cmdZ,161,()) := by
 by_cases hk:1≤x.1∧x.1≤6
 rotate_left
 ·have hw:wfS x=false := by
   cases hw:wfS x with
   | false=>rfl
   | true =>
    have := Q4l hw
    omega
  unfold readCX cmdB
  rw [if_neg hk,hw]
  rfl
 obtain ⟨k,ep,pr,sq,key,v,off,most,name,plan,⟨⟩⟩ := x
 obtain ⟨g0,g1,g2,g3,g4,⟨g5,_⟩,g6,g7,g8,g9⟩ := h
 dsimp only at g0 g1 g2 g3 g4 g5 g6 g7 g8 g9 hk
 have hB:cmdB (k,ep,pr,sq,key,v,off,most,name,plan,())=iB k ++ (uB ep ++ cmdF (k,ep,pr,sq,key,v,off,most,name,plan,())) := if_pos hk
 generalize hb:cmdB (k,ep,pr,sq,key,v,off,most,name,plan,())=b at hB ⊢
 have d0:b.drop 0=iB k ++ (uB ep ++ (cmdF (k,ep,pr,sq,key,v,off,most,name,plan,()) ++ [])) := by
  rw [List.append_nil,hB]
  rfl
 have d1 := Q0s d0
 have d2 := Q0s d1
 have hl:b.length=0+(iB k).length+(uB ep).length+(cmdF (k,ep,pr,sq,key,v,off,most,name,plan,())).length := by
  rw [hB]
  simp only [List.length_append]
  omega
 clear hb hB
 unfold readCX cmdR
 rw [Q8e g0 d0,Qb]
 dsimp only
 rw [Q1b g1 d1,Qb]
 dsimp only
 generalize 0+(iB k).length+(uB ep).length=c at *
 unfold cmdF at d2 hl
 unfold cmdK
 by_cases k1:k=1
 ·subst k1
  dsimp only at d2 hl
  rw [if_pos rfl] at d2 hl
  rw [if_pos rfl]
  simp only [List.append_assoc] at d2
  have e0 := d2
  have e1 := Q0s e0
  have e2 := Q0s e1
  have e3 := Q0s e2
  rw [Q1b g2 e0,Qb]
  dsimp only
  rw [Q1b g3 e1,Qb]
  dsimp only
  by_cases hs:(key.size:Int)≤32
  rotate_left
  ·have hw:wfS (1,ep,pr,sq,key,v,off,most,name,plan,())=false := K2v hs
   rw [Q8g e2 (by omega) hs,hw]
   rfl
  rw [Q5y e2 (by omega) hs,Qb]
  dsimp only
  by_cases hv:(v.length:Int)≤256
  rotate_left
  ·have hw:wfS (1,ep,pr,sq,key,v,off,most,name,plan,())=false := K2w hv
   rw [X2r e3 (by omega) hv,hw]
   rfl
  rw [Q8f e3 (by omega) hv,Qb]
  dsimp only
  rw [if_neg (by simp only [List.length_append] at hl; omega)]
  rw [show wfS (1,ep,pr,sq,key,v,0,0,⟨#[]⟩,0,())=wfS (1,ep,pr,sq,key,v,off,most,name,plan,()) from rfl]
  split <;> rfl
 by_cases k2:k=2
 ·subst k2
  dsimp only at d2 hl
  rw [if_neg (by decide),if_pos rfl] at d2 hl
  rw [if_neg (by decide),if_pos rfl]
  simp only [List.append_assoc] at d2
  have e0 := d2
  have e1 := Q0s e0
  rw [Q1b g6 e0,Qb]
  dsimp only
  rw [Q8e g7 e1,Qb]
  dsimp only
  rw [if_neg (by simp only [List.length_append] at hl; omega)]
  rw [show wfS (2,ep,0,0,⟨#[]⟩,[],off,most,⟨#[]⟩,0,())=wfS (2,ep,pr,sq,key,v,off,most,name,plan,()) from rfl]
  split <;> rfl
 by_cases k3:k=3
 ·subst k3
  dsimp only at d2 hl
  rw [if_neg (by decide),if_neg (by decide),if_pos rfl] at d2 hl
  rw [if_neg (by decide),if_neg (by decide),if_pos rfl]
  simp only [List.append_assoc] at d2
  have e0 := d2
  have e1 := Q0s e0
  have e2 := Q0s e1
  have e3 := Q0s e2
  rw [Q1b g2 e0,Qb]
  dsimp only
  rw [Q1b g3 e1,Qb]
  dsimp only
  by_cases hs:(name.size:Int)≤32
  rotate_left
  ·have hw:wfS (3,ep,pr,sq,key,v,off,most,name,plan,())=false := X2v (by omega) hs
   rw [Q8g e2 (by omega) hs,hw]
   rfl
  rw [Q5y e2 (by omega) hs,Qb]
  dsimp only
  rw [Q1b g6 e3,Qb]
  dsimp only
  rw [if_neg (by simp only [List.length_append] at hl; omega)]
  rw [show wfS (3,ep,pr,sq,⟨#[]⟩,[],off,0,name,0,())=wfS (3,ep,pr,sq,key,v,off,most,name,plan,()) from rfl]
  split <;> rfl
 by_cases k4:k=4
 ·subst k4
  dsimp only at d2 hl
  rw [if_neg (by decide),if_neg (by decide),if_neg (by decide),if_pos rfl] at d2 hl
  rw [if_neg (by decide),if_neg (by decide),if_neg (by decide),if_pos rfl]
  have e0 := d2
  by_cases hs:(name.size:Int)≤32
  rotate_left
  ·have hw:wfS (4,ep,pr,sq,key,v,off,most,name,plan,())=false := X2v (by omega) hs
   rw [Q8g e0 (by omega) hs,hw]
   rfl
  rw [Q5y e0 (by omega) hs,Qb]
  dsimp only
  rw [if_neg (by omega)]
  rw [show wfS (4,ep,0,0,⟨#[]⟩,[],0,0,name,0,())=wfS (4,ep,pr,sq,key,v,off,most,name,plan,()) from rfl]
  split <;> rfl
 by_cases k5:k=5
 ·subst k5
  dsimp only at d2 hl
  rw [if_neg (by decide),if_neg (by decide),if_neg (by decide),if_neg (by decide)] at d2 hl
  rw [if_neg (by decide),if_neg (by decide),if_neg (by decide),if_neg (by decide),if_pos (by decide),Q1b g9 d2,Qb]
  dsimp only
  rw [if_neg (by omega)]
  rw [show wfS (5,ep,0,0,⟨#[]⟩,[],0,0,⟨#[]⟩,plan,())=wfS (5,ep,pr,sq,key,v,off,most,name,plan,()) from rfl]
  split <;> rfl
 by_cases k6:k=6
 ·subst k6
  dsimp only at d2 hl
  rw [if_neg (by decide),if_neg (by decide),if_neg (by decide),if_neg (by decide)] at d2 hl
  rw [if_neg (by decide),if_neg (by decide),if_neg (by decide),if_neg (by decide),if_pos (by decide),Q1b g9 d2,Qb]
  dsimp only
  rw [if_neg (by omega)]
  rw [show wfS (6,ep,0,0,⟨#[]⟩,[],0,0,⟨#[]⟩,plan,())=wfS (6,ep,pr,sq,key,v,off,most,name,plan,()) from rfl]
  split <;> rfl
 omega
end
section
variable {fu:Nat}
def inW (p:St16):Prop := isU p.2.2.1∧isU p.2.2.2.1∧(∀ x ∈ p.2.2.2.2.1,isU x.1∧byt x.2.2.1∧isU x.2.2.2.1∧isU x.2.2.2.2)∧(∀ x ∈ p.2.2.2.2.2.1,isU x.1∧isU x.2.1∧isU x.2.2.2) ∧ ∀ x ∈ p.2.2.2.2.2.2.1,isU x.2
def Iv (p:St16):Prop := chkS p=true∧inW p
theorem Iv.inv {p:St16} (h:Iv p):InvP p := ⟨h.1,fun y hy=>(h.2.2.2.2.1 y hy).2.2.1,fun y hy=>(h.2.2.2.2.2 y hy).1⟩
theorem Iv.recs {p:St16} (h:Iv p):∀ x ∈ p.2.2.2.2.1,recW x := by
 obtain ⟨lo,up,e,z,l,ps,cs,⟨⟩⟩ := p
 intro x hx
 obtain ⟨h1,h2⟩ := h
 dsimp only at hx
 have hl := (Q0y ((Q3h lo up e z l ps cs).1 h1).2.2.1).2
 obtain ⟨b1,b2,b3,b4⟩ := h2.2.2.1 x hx
 obtain ⟨i,hi,rfl⟩ := List.mem_iff_getElem.1 hx
 obtain ⟨c1,c2,c3⟩ := hl i hi
 exact ⟨b1,by unfold isT; omega,⟨by omega,b2⟩,b3,b4⟩
def resW (r:Rs16):Prop := isI r.1∧isU r.2.1∧(∀ x ∈ r.2.2.2.1,recW x)∧r.2.2.2.1.length≤64
theorem Q3t {n:Int} {b:Bool} (h:isI n):resW (n,0,b,[],()) := ⟨h,u0,fun x hx=>by simp at hx,by simp⟩
theorem Q3l {n:Int} {b:Bool} (h:isU n):resW (0,n,b,[],()) := ⟨i0,h,fun x hx=>by simp at hx,by simp⟩
theorem K2x {p:St16} {c:Cm16} {n:Int} (h:mayS p c=some (.inl n)):isI n := by
 obtain ⟨lo,up,e,z,l,ps,cs,⟨⟩⟩ := p
 obtain ⟨k,ep,pr,sq,key,v,off,most,name,plan,⟨⟩⟩ := c
 unfold mayS at h
 unfold isI
 simp only at h
 repeat' split at h
 all_goals first | (simp only [Option.some.injEq,Sum.inl.injEq] at h; omega) | (simp at h; done)
theorem K2y {ps:List Pr} {pr sq:Int} (h:∀ x ∈ ps,isU x.2.2.2):isU (judge ps pr sq).2 := by
 unfold judge
 split
 ·exact u0
 ·split
  ·exact u0
  ·cases hf:find ps pr with
   | none=>exact u0
   | some x =>
    have hx:x ∈ ps := List.mem_of_find?_eq_some hf
    dsimp only
    split
    ·exact u0
    ·split
     ·exact h x hx
     ·exact u0
theorem K2z {p:St16} {c:Cm16} {r:Int×Bool} (hp:∀ x ∈ p.2.2.2.2.2.1,isU x.2.2.2) (h:mayS p c=some (.inr r)):isU r.1 := by
 obtain ⟨lo,up,e,z,l,ps,cs,⟨⟩⟩ := p
 obtain ⟨k,ep,pr,sq,key,v,off,most,name,plan,⟨⟩⟩ := c
 have hj := K2y (pr := pr) (sq := sq) hp
 unfold mayS at h
 simp only at h
 repeat' split at h
 all_goals first | (simp only [Option.some.injEq,Sum.inr.injEq] at h; rw [← h]; first | exact hj | exact u0) | (simp at h; done)
theorem X2x (ps:List Pr) (x:Pr):isI (putS ps x).2 := by
 unfold putS isI
 repeat' split
 all_goals first | omega | (dsimp only; omega)
theorem K3a {cs:List Cn} (h:∀ x ∈ cs,isU x.2) (s:ByteArray):isU (readC cs s).1 := by
 unfold readC
 cases hf:cs.find? (fun x=>x.1.toList==s.toList) with
 | none=>exact u0
 | some x=>exact h x (List.mem_of_find?_eq_some hf)
theorem K3b (cs:List Cn) (name:ByteArray) (off h:Int):isI (commitS cs name off h).2 := by
 unfold commitS isI
 cases !okC cs <;> cases !nameB name <;> cases decide (off>h) <;> cases decide ((insS cs (name,off)).length≤64) <;> (simp only [Qt,Qf]; omega)
theorem X2y {p:St16} {c:Cmd} (hI:Iv p) (hc:cmdW c):Iv (doS p c).1∧resW (doS p c).2 := by
 have hchk := hI.1
 have still:∀ r:Rs16,doS p c=(p,r)→resW r→Iv (doS p c).1∧resW (doS p c).2 := fun r h1 h2=>by rw [h1]; exact ⟨hI,h2⟩
 cases hw:wfS c with
 | false =>
  refine still (161,0,false,[],()) ?_ (Q3t (by unfold isI; omega))
  rw [Q1k hchk]
  unfold wkS
  simp only [hw,if_true]
 | true =>
  by_cases he:c.2.1=p.2.2.1
  rotate_left
  ·refine still (162,0,false,[],()) ?_ (Q3t (by unfold isI; omega))
   rw [Q1k hchk]
   unfold wkS
   simp only [hw,Bool.true_eq_false,if_false,he]
  ·have hwk := K1g (p := p) hw he
   cases hm:mayS p c with
   | some r =>
    rw [hm] at hwk
    cases r with
    | inl n =>
     refine still (n,0,false,[],()) ?_ (Q3t (K2x hm))
     rw [Q1k hchk,hwk]
    | inr r =>
     refine still (0,r.1,r.2,[],()) ?_ (Q3l (K2z (fun x hx=>(hI.2.2.2.2.1 x hx).2.2) hm))
     rw [Q1k hchk,hwk]
   | none =>
    rw [hm] at hwk
    simp only at hwk
    have hrec := hI.recs
    obtain ⟨lo,up,e,z,l,ps,cs,⟨⟩⟩ := p
    obtain ⟨k,ep,pr,sq,key,v,off,most,name,plan,⟨⟩⟩ := c
    obtain ⟨g0,g1,g2,g3,g4,⟨g5,g5'⟩,g6,g7,g8,g9⟩ := hc
    obtain ⟨w0,w1,w2,w3,w4⟩ := hI.2
    dsimp only at g0 g1 g2 g3 g4 g5 g5' g6 g7 g8 g9 w0 w1 w2 w3 w4 hrec
    have hll := (Q0y ((Q3h lo up e z l ps cs).1 hchk).2.2.1).1
    simp only at he
    subst he
    have hk := Q4l hw
    simp only at hk
    rw [Q3g] at hm
    rcases hk with rfl | rfl | rfl | rfl | rfl | rfl
    ·simp only [if_true] at hm
     by_cases hh:hasB lo up key=true
     ·rw [if_pos hh] at hm
      have j1:(judge ps pr sq).1=1 := by
       by_cases j1:(judge ps pr sq).1=1
       ·exact j1
       ·unfold nwS at hm
        by_cases j2:(judge ps pr sq).1=2 <;> simp [j1,j2] at hm
      have hwf := hw
      simp only [wfS,if_true,Bool.and_eq_true,decide_eq_true_eq] at hwf
      by_cases hp:(prodS l ps pr sq key v).2.2.2=0
      ·obtain ⟨q1,q2⟩ := K1e hchk (fun y hy=>(w3 y hy).2.2.1) hh j1 hwf.2.1 hwf.2.2 hp
       have hd:doS (lo,up,ep,z,l,ps,cs,()) (1,ep,pr,sq,key,v,off,most,name,plan,())=((lo,up,ep,z,l ++ [((l.length:Int),key,v,pr,sq)],ins ps (pr,sq,true,(l.length:Int)),cs,()),(0,(l.length:Int),false,[],())) := by
        rw [Q1k hchk,hwk]
        unfold actS errF
        simp only [q1,if_true]
       rw [hd]
       have hu:isU (l.length:Int) := Q1t (by omega)
       refine ⟨⟨q2,w0,w1,fun x hx => ?_,fun x hx => ?_,w4⟩,Q3l hu⟩
       ·rcases List.mem_append.1 hx with hx | hx
        ·exact w2 x hx
        ·rw [List.mem_singleton] at hx
         rw [hx]
         exact ⟨hu,g5',g2,g3⟩
       ·rcases Q3e hx with rfl | hx
        ·exact ⟨g2,g3,hu⟩
        ·exact w3 x hx
      ·refine still ((prodS l ps pr sq key v).2.2.2,0,false,[],()) ?_ (Q3t ?_)
       ·rw [Q1k hchk,hwk]
        unfold actS errF
        simp only [if_true,hp,if_false]
       ·unfold prodS
        split
        ·split
         ·exact i0
         ·exact X2x _ _
        ·unfold isI; dsimp only; omega
     ·rw [if_neg hh] at hm; simp at hm
    ·by_cases hp:(fetchS l off most).2.2=0
     ·refine still (0,(fetchS l off most).2.1,false,(fetchS l off most).1,()) ?_ ?_
      ·rw [Q1k hchk,hwk]
       unfold actS errF
       simp only [hp,if_true,if_false,show ¬ ((2:Int)=1) by decide]
      ·unfold fetchS at hp ⊢
       split
       ·rename_i ho
        have ho0 := g6.1
        refine ⟨i0,?_,fun x hx=>hrec x (List.mem_of_mem_drop (List.mem_of_mem_take hx)),?_⟩
        ·have:((l.drop off.toNat).take (min (min most.toNat 64) (l.length-off.toNat))).length≤64 := by rw [List.length_take]; omega
         unfold isU
         dsimp only
         omega
        ·dsimp only
         rw [List.length_take]
         omega
       ·exact Q3l u0
     ·refine still ((fetchS l off most).2.2,0,false,[],()) ?_ (Q3t ?_)
      ·rw [Q1k hchk,hwk]
       unfold actS errF
       simp only [hp,if_true,if_false,show ¬ ((2:Int)=1) by decide]
      ·unfold fetchS isI
       split <;> (dsimp only; omega)
    ·have j1:(judge ps pr sq).1=1 := by
      by_cases j1:(judge ps pr sq).1=1
      ·exact j1
      ·unfold nwS at hm
       simp [j1] at hm
     by_cases hp:(comS cs ps pr sq name off (l.length:Int)).2.2.2=0
     ·obtain ⟨q1,q2⟩ := K1f hchk j1 hp
      have hd:doS (lo,up,ep,z,l,ps,cs,()) (3,ep,pr,sq,key,v,off,most,name,plan,())=((lo,up,ep,z,l,ins ps (pr,sq,false,0),insS cs (name,off),()),(0,off,false,[],())) := by
       rw [Q1k hchk,hwk]
       unfold actS errF
       simp only [q1,if_true,if_false,show ¬ ((3:Int)=1) by decide,show ¬ ((3:Int)=2) by decide]
      rw [hd]
      refine ⟨⟨q2,w0,w1,w2,fun x hx => ?_,fun x hx => ?_⟩,Q3l g6⟩
      ·rcases Q3e hx with rfl | hx
       ·exact ⟨g2,g3,u0⟩
       ·exact w3 x hx
      ·rcases Q4j hx with rfl | hx
       ·exact g6
       ·exact w4 x hx
     ·refine still ((comS cs ps pr sq name off (l.length:Int)).2.2.2,0,false,[],()) ?_ (Q3t ?_)
      ·rw [Q1k hchk,hwk]
       unfold actS errF
       simp only [hp,if_true,if_false,show ¬ ((3:Int)=1) by decide,show ¬ ((3:Int)=2) by decide]
      ·unfold comS
       split
       ·split
        ·exact i0
        ·exact X2x _ _
       ·exact K3b _ _ _ _
    ·refine still (0,(readC cs name).1,(readC cs name).2,[],()) ?_ (Q3l (K3a w4 name))
     rw [Q1k hchk,hwk]
     rfl
    ·have hd:doS (lo,up,ep,z,l,ps,cs,()) (5,ep,pr,sq,key,v,off,most,name,plan,())=((lo,up,ep,plan,l,ps,cs,()),(0,0,z != 0,[],())) := by
      rw [Q1k hchk,hwk]
      rfl
     rw [hd]
     exact ⟨⟨hchk,w0,g9,w2,w3,w4⟩,Q3l u0⟩
    ·have hd:doS (lo,up,ep,z,l,ps,cs,()) (6,ep,pr,sq,key,v,off,most,name,plan,())=((lo,up,ep,0,l,ps,cs,()),(0,0,z==0,[],())) := by
      rw [Q1k hchk,hwk]
      rfl
     rw [hd]
     exact ⟨⟨hchk,w0,u0,w2,w3,w4⟩,Q3l u0⟩
theorem K3c {p:St16} {c:Cmd} (hw:wfS c=true):doS p (norm c)=doS p c := by
 obtain ⟨lo,up,e,z,l,ps,cs,⟨⟩⟩ := p
 obtain ⟨k,ep,pr,sq,key,v,off,most,name,plan,⟨⟩⟩ := c
 have hk := Q4l hw
 simp only at hk
 rcases hk with rfl | rfl | rfl | rfl | rfl | rfl <;> rfl
theorem Q6a {p:St16} {c:Cmd} (h:chkS p=true) (hw:wfS c=false):doS p c=(p,(161,0,false,[],())) := by
 rw [Q1k h]
 unfold wkS
 simp only [hw,if_true]
end
section
variable {fu:Nat}
theorem PR.at {α:Type} {a:List Int} {d:α} {r:Option (Nat×α)} {P:α→Prop} {o:Option ((PT×Unit×Unit)×α)} (h:PR a d r P o) {c:Nat} {v:α} (hr:r=some (c,v)):c≤a.length ∧ ∃ x y,o=some ((stO a c x y,(),()),v) := by
 rcases h with ⟨c1,v1,x,y,h1,h2,h3,h4⟩ | ⟨h1,_⟩
 ·rw [h1] at hr
  injection hr with hr
  injection hr with e1 e2
  subst e1 e2
  exact ⟨h2,x,y,h4⟩
 ·rw [h1] at hr
  cases hr
theorem PX.at {α:Type} {a:List Int} {r:Option (Nat×List α)} {P:α→Prop} {m:Int} {o:Option ((PT×Unit×Unit)×List α)} (h:PX a r P m o) {c:Nat} {v:List α} (hr:r=some (c,v)):c≤a.length ∧ ∃ x y,o=some ((stO a c x y,(),()),v) := by
 rcases h with ⟨c1,v1,x,y,h1,h2,h3,h4,h5⟩ | ⟨h1,_⟩
 ·rw [h1] at hr
  injection hr with hr
  injection hr with e1 e2
  subst e1 e2
  exact ⟨h2,x,y,h5⟩
 ·rw [h1] at hr
  cases hr
def resB (r:Rs16):List Int := iB r.1 ++ (uB r.2.1 ++ (bB r.2.2.1 ++ lB recB r.2.2.2.1))
theorem X2z {l:List Rc} (h:∀ x ∈ l,recW x) (hl:l.length≤64):(lB recB l).length≤2000000 := X2n (enc := recB) (fun x hx=>X2m (h x hx)) (by omega)
theorem K3d {r:Rs16} (h:resW r) (hf:4194304<fu):p23 fu (r,())=some ((),resB r) := by
 obtain ⟨e,o,b,l,⟨⟩⟩ := r
 obtain ⟨h0,h1,h2,h3⟩ := h
 dsimp only at h0 h1 h2 h3
 have a0 := Q3s h0
 have a1 := Q0n h1
 have a2 := X2z h2 h3
 have hfu:10<fu := by omega
 unfold p23 resB
 simp only [p73Z h0 hfu,Qb,Q0a,Qt]
 rw [Q0z h1 (by omega) hfu]
 simp only [Qb]
 rw [K2b (by rw [List.length_append]; omega)]
 simp only [Qb]
 rw [K2g h2 (by omega) (by simp only [List.length_append,bB,List.length_singleton]; omega) hf]
 simp only [Qb]
 rw [Q3k (by simp only [List.length_append,bB,List.length_singleton]; omega)]
 simp only [Qb,List.append_assoc]
theorem K3e {α:Type} {enc:α→List Int} {l:List α} (h:∀ x ∈ l,byt (enc x)):byt (l.flatMap enc) := fun x hx=>by
 obtain ⟨y,hy,hx⟩ := List.mem_flatMap.1 hx
 exact h y hy x hx
theorem K3f {r:Rs16} (h:resW r) (hfu:10<fu):okA fu (resB r) := by
 obtain ⟨e,o,b,l,⟨⟩⟩ := r
 obtain ⟨h0,h1,h2,h3⟩ := h
 dsimp only at h0 h1 h2 h3
 have a0 := Q3s h0
 have a1 := Q0n h1
 have a2 := X2z h2 h3
 refine ⟨?_,?_,hfu⟩
 ·unfold resB lB iB
  refine Q0v (Q1a _) (Q0v (Q1a _) (Q0v (fun y hy => ?_) (Q0v (Q1a _) (K3e fun x hx => ?_))))
  ·unfold bB at hy
   rw [List.mem_singleton] at hy
   rw [hy]
   split <;> omega
  ·unfold recB
   exact Q0v (Q1a _) (Q0v (Q5z _) (Q0v (Q8b (h2 x hx).2.2.1.2) (Q0v (Q1a _) (Q1a _))))
 ·unfold resB bB
  simp only [List.length_append,List.length_singleton]
  omega
theorem K3g {r:Rs16} (h:resW r) (hf:4194304<fu):p28 fu (resB r,())=some ((),(r,0,())) := by
 have ha := K3f (fu := fu) h (by omega)
 obtain ⟨e,o,b,l,⟨⟩⟩ := r
 obtain ⟨h0,h1,h2,h3⟩ := h
 dsimp only at h0 h1 h2 h3
 generalize hA:resB (e,o,b,l,())=a at ha ⊢
 have d0:a.drop 0=iB e ++ (uB o ++ (bB b ++ (lB recB l ++ []))) := by
  rw [List.append_nil,← hA]
  rfl
 have d1 := Q0s d0
 have d2 := Q0s d1
 have d3 := Q0s d2
 have hl:a.length=0+(iB e).length+(uB o).length+(bB b).length+(lB recB l).length := by
  rw [← hA]
  unfold resB
  simp only [List.length_append]
  omega
 have z0:((0:Nat):Int)=0 := rfl
 have h82 := X2l (fu := fu) ha.hn
 obtain ⟨c1,x1,y1,o1⟩ := (z0 ▸ p83N ha (Nat.zero_le _)).at (Q8e h0 d0)
 obtain ⟨c2,x2,y2,o2⟩ := (p84P (x := x1) (y := y1) ha c1).at (Q1b h1 d1)
 obtain ⟨c3,x3,y3,o3⟩ := (p90P (x := x2) (y := y2) ha c2).at (K2k d2)
 obtain ⟨c4,x4,y4,o4⟩ := (p91P (x := x3) (y := y3) ha c3 hf).at (K2n (fun a t c x=>K2l) K2p h2 (by omega) (by omega) d3)
 have hn:¬ ((0+(iB e).length+(uB o).length+(bB b).length+(lB recB l).length:Nat):Int)<(a.length:Int) := by omega
 unfold p28
 simp only [h82,o1,o2,o3,o4,Q1g,if_neg hn,Qb,Q0a,Qt,bne_self_eq_false,Qf]
theorem Iv.bnd {p:St16} (h:Iv p):bndS p := K1c h.inv
theorem X3a {c:Cmd} (h:cmdW c):bndC c := ⟨h.2.2.2.2.2.2.2.2.1,h.2.2.2.2.2.2.1.1⟩
theorem K3h:cmdW cmdZ := ⟨i0,u0,u0,u0,by decide,⟨by decide,X2a⟩,u0,i0,by decide,u0⟩
def appC (y:List Int):Cmd := if (readCX wfS y).2.1=0 then (readCX wfS y).1 else cmdZ
theorem K3i {y:List Int} (h:okA fu y):cmdW (appC y) := by
 unfold appC
 rcases X2u h with h0 | ⟨z,h0,h1,_⟩
 ·rw [h0]
  exact K3h
 ·rw [h0]
  exact h1
theorem Q8h {y:List Int} (h:okA fu y) (hf:4194304<fu):p26 fu (y,())=some ((),readCX wfS y) :=
 K2a wfS h fun p hp=>by
  obtain ⟨k,ep,pr,sq,key,v,off,most,name,plan,⟨⟩⟩ := p
  unfold isT at hp
  dsimp only at hp
  exact Q1s k ep pr sq key v off most name plan (by omega) hf
theorem X3b {p:St16} {y:List Int} (hI:Iv p) (hy:okA fu y) (hf:4194304<fu):p32 fu (p,y,())=some ((),((doS p (appC y)).1,resB (doS p (appC y)).2,())) := by
 have h26 := Q8h hy hf
 have hW := K3i hy
 have h14 := X1q (fu := fu) p (appC y) hI.bnd (X3a hW) hf
 have h23 := K3d (fu := fu) (X2y hI hW).2 hf
 obtain ⟨lo,up,e,z,l,ps,cs,⟨⟩⟩ := p
 rcases hd:doS (lo,up,e,z,l,ps,cs,()) (appC y) with ⟨⟨a1,a2,a3,a4,a5,a6,a7,⟨⟩⟩,⟨b1,b2,b3,b4,⟨⟩⟩⟩
 rw [hd] at h14 h23
 unfold appC at h14
 rcases hr:readCX wfS y with ⟨⟨k,ep,pr,sq,key,v,off,most,name,plan,⟨⟩⟩,er,⟨⟩⟩
 rw [hr] at h26 h14
 unfold p32
 simp only [h26,Qb]
 by_cases he:er=0
 ·subst he
  dsimp only at h14
  rw [if_pos rfl] at h14
  simp only [bne_self_eq_false,Qf,Q0a,Qt,Q0e,h14,h23,Qb]
 ·dsimp only at h14
  rw [if_neg he] at h14
  unfold cmdZ at h14
  simp only [bne_iff_ne.2 he,Q0a,Qt,Q0e,h14,h23,Qb]
theorem X3c {p:St16} (h:Iv p) (hf:4194304<fu):p16 fu (p,p,())=some ((),true) := by
 obtain ⟨b1,b2,b3,b4⟩ := h.bnd
 obtain ⟨lo,up,e,z,l,ps,cs,⟨⟩⟩ := p
 dsimp only at b1 b2 b3
 unfold p16
 simp only [X0w l b1 hf,X9i ps (by omega) (show ps.length<fu by omega),X8t cs b3.1 hf,Qb,Qt,beq_self_eq_true,Q7m lo,Q7m up,Bool.and_true]
theorem K3j {r:Rs16} (h:resW r) (hf:4194304<fu):p17 fu (r,r,())=some ((),true) := by
 obtain ⟨e,o,b,l,⟨⟩⟩ := r
 have h3 := h.2.2.2
 dsimp only at h3
 unfold p17
 simp only [X0w l (by omega) hf,Qb,Qt,beq_self_eq_true]
theorem K3k {p:St16} {c:Cmd} (h:chkS p=true) (hc:cmdW c):doS p (appC (cmdB c))=doS p c := by
 unfold appC
 rw [X2w hc]
 cases hw:wfS c with
 | true=>exact K3c hw
 | false =>
  rw [Q6a h hw]
  exact Q6a h rfl
theorem K3l (h9:p9 fu ()=some ((),true)) (hf:4194304<fu) (p:St16) (hb:bndS p) (hp:inW p) (l:List D_api_PartCommand) (hl:l.length≤2097152) (hc:∀ x ∈ l,cmdW (x.1,x.2.1,x.2.2.1,x.2.2.2.1,x.2.2.2.2.1,x.2.2.2.2.2.1,x.2.2.2.2.2.2.1,x.2.2.2.2.2.2.2.1,x.2.2.2.2.2.2.2.2.1,x.2.2.2.2.2.2.2.2.2,()))
  (y:List Int) (hy:okA fu y):p8 fu (p,l,y,())=some ((),true) := by
 have h10 := X1p (fu := fu) p hb hf
 obtain ⟨lo,up,e,z,r,ps,cs,⟨⟩⟩ := p
 unfold p8
 simp only [h9,h10,Qb]
 cases hk:chkS (lo,up,e,z,r,ps,cs,()) with
 | false=>rfl
 | true =>
  simp only [Qt,show ((0:Int) != 0)=false from rfl,Qf]
  refine Q7n (I := fun s => ∃ (i:Nat) (q:St16),s=(((i:Int),()),(q,()))∧i≤l.length∧Iv q) (m := fun s=>l.length-Int.toNat s.1.1) ⟨0,_,rfl,Nat.zero_le _,⟨hk,hp⟩⟩ (by simp only [Int.toNat_zero]; omega) fun s hs => ?_
  obtain ⟨i,q,rfl,h1,hI⟩ := hs
  by_cases hi:i<l.length
  ·have hg:∀ d,l.getD i d=l[i] := fun d=>Q0k hi
   have hcm := hc l[i] (List.getElem_mem hi)
   generalize l[i]=x at hg hcm
   obtain ⟨k,ep,pr,sq,key,v,off,most,name,plan⟩ := x
   dsimp only at hcm
   have oc:okA fu (cmdB (k,ep,pr,sq,key,v,off,most,name,plan,())) := ⟨K2s hcm,K2t hcm,by omega⟩
   have e14 := X1q (fu := fu) q _ hI.bnd (X3a hcm) hf
   have e21 := K2h (fu := fu) hcm (by omega)
   have e32 := X3b hI oc hf
   have e26 := Q8h oc hf
   rw [K3k hI.1 hcm] at e32
   rw [X2w hcm] at e26
   obtain ⟨hO,hR⟩ := X2y hI hcm
   have e28 := K3g (fu := fu) hR hf
   have e16 := X3c (fu := fu) hO hf
   have e17 := K3j (fu := fu) hR hf
   have hno := fun hw=>Q6a (p := q) (c := (k,ep,pr,sq,key,v,off,most,name,plan,())) hI.1 hw
   generalize hD:doS q (k,ep,pr,sq,key,v,off,most,name,plan,())=D at *
   obtain ⟨⟨a1,a2,a3,a4,a5,a6,a7,⟨⟩⟩,⟨b1,b2,b3,b4,⟨⟩⟩⟩ := D
   dsimp only at e14 e32 e28 e16 e17 hO
   obtain ⟨q1,q2,q3,q4,q5,q6,q7,⟨⟩⟩ := q
   refine ⟨.inl ((((i+1:Nat):Int),()),((a1,a2,a3,a4,a5,a6,a7,()),())),?_,⟨i+1,_,rfl,hi,hO⟩,by simp only [Int.toNat_natCast]; omega⟩
   simp only [Int.ofNat_lt,Int.natCast_nonneg,hi,Qd,Q0a,Qt,and_self,Int.toNat_natCast,hg,Q0x hi (by omega),e14,e21,e32,e28,e26,e16,e17,Qb,Bool.not_true,Qf,bne_self_eq_false]
   cases hw:wfS (k,ep,pr,sq,key,v,off,most,name,plan,())
   ·have hb1:b1=161 := congrArg (fun t=>t.2.1) (hno hw)
    subst hb1
    rfl
   ·rfl
  ·refine ⟨.inr ((),true),?_,rfl⟩
   obtain rfl:i=l.length := by omega
   have e26 := Q8h hy hf
   have e32 := X3b hI hy hf
   have e16 := X3c (fu := fu) hI hf
   rcases X2u hy with h0 | ⟨w,h0,_,_⟩
   ·have ha:appC y=cmdZ := by
     unfold appC
     rw [h0]
     rfl
    rw [ha,Q6a hI.1 rfl] at e32
    rw [h0] at e26
    unfold cmdZ at e26
    obtain ⟨q1,q2,q3,q4,q5,q6,q7,⟨⟩⟩ := q
    simp only [Int.ofNat_lt,Nat.lt_irrefl,decide_false,Qf,e26,e32,e16,Qb,Qt,Q0a,show ((161:Int)==0)=false from rfl,inrO,Option.map_some]
   ·rw [h0] at e26
    obtain ⟨q1,q2,q3,q4,q5,q6,q7,⟨⟩⟩ := q
    simp only [Int.ofNat_lt,Nat.lt_irrefl,decide_false,Qf,e26,e32,Qb,Qt,BEq.rfl,inrO,Option.map_some]
set_option maxRecDepth 100000 in
theorem p9_b:p9 8388608 ()=some ((),true) := by decide +kernel
end
end Go.Proofs.YthlgaodaofpgoaaGreatDoor
