/-
  Layer 16, from layer 14: names, consumers, records, ranges.
-/
import Derived.Test.YthlgaodaofpgoaaGreatDoorPtS
import Derived.Test.YthlgaodaofpgoaaGreatDoorDaP
namespace Go.Proofs.YthlgaodaofpgoaaGreatDoor
open Go.RowKit
section
variable {fu:Nat}
abbrev Cn := D_runtime_errorAddressString
theorem loop_any {X S R:Type} {f:S→Option (S ⊕ R)}:∀ (l:List X) (mk:Nat→S) (q:X→Bool) (r fin:R),l.length<fu →
    (∀ i (h:i<l.length),f (mk i)=some (bif q l[i] then .inr r else .inl (mk (i+1))))→f (mk l.length)=some (.inr fin)→loopO fu f (mk 0)=some (bif l.any q then r else fin) := by
  intro l mk q r fin hf hs he
  have key:∀ k i n,i+k=l.length→k<n→loopO n f (mk i)=some (bif (l.drop i).any q then r else fin) := by
    intro k
    induction k with
    | zero =>
      intro i n hi hn
      obtain ⟨m,rfl⟩:∃ m,n=m+1 := ⟨n-1,by omega⟩
      obtain rfl:i=l.length := by omega
      simp only [loopO,he,List.drop_length,List.any_nil,cond_false]
    | succ k ih =>
      intro i n hi hn
      obtain ⟨m,rfl⟩:∃ m,n=m+1 := ⟨n-1,by omega⟩
      have hlt:i<l.length := by omega
      rw [List.drop_eq_getElem_cons hlt]
      simp only [loopO,hs i hlt,List.any_cons]
      cases q l[i] with
      | true=>rfl
      | false=>exact ih (i+1) m (by omega) (by omega)
  exact key l.length 0 fu (by omega) hf
theorem loop_for {X S R:Type} {f:S→Option (S ⊕ R)} {res:R} (l:List X) (mk:Nat→S) (q:X→Bool) (r fin:R) (hf:l.length<fu)
    (hs:∀ i (h:i<l.length),f (mk i)=some (bif q l[i] then .inr r else .inl (mk (i+1)))) (he:f (mk l.length)=some (.inr fin)) (hr:(bif l.any q then r else fin)=res):loopO fu f (mk 0)=some res :=
  hr ▸ loop_any l mk q r fin hf hs he
abbrev ky (s:ByteArray):List UInt8 := s.data.toList
theorem ky_inj {a b:ByteArray} (h:ky a=ky b):a=b := by
  cases a; cases b
  simp only [ky] at h
  congr 1
  exact Array.toList_inj.1 h
theorem toList_ky (s:ByteArray):s.toList=ky s := Lib.toList_data s
theorem less_lists:∀ x y:List UInt8,Op.bytesLess x y=decide (x<y)
  | [],[]=>by simp [Op.bytesLess]
  | [],_ :: _=>by simp [Op.bytesLess]
  | _ :: _,[]=>by simp [Op.bytesLess]
  | a :: xs,b :: ys=>by
    rw [Op.bytesLess,less_lists xs ys,Bool.eq_iff_iff]
    by_cases h:a<b
    · simp [h,List.cons_lt_cons_iff]
    · by_cases h':b<a
      · have:a ≠ b := fun e=>by subst e; exact h h'
        simp [h,h',this,List.cons_lt_cons_iff]
      · have:a=b := UInt8.le_antisymm (UInt8.not_lt.1 h') (UInt8.not_lt.1 h)
        subst this
        simp [h,List.cons_lt_cons_iff]
theorem less_ky (a b:ByteArray):Op.bytesLess a.toList b.toList=decide (ky a<ky b) := by
  rw [toList_ky,toList_ky,less_lists]
theorem eq_ky (a b:ByteArray):(a.toList==b.toList)=decide (a=b) := by
  rw [toList_ky,toList_ky,Bool.eq_iff_iff]; simp only [beq_iff_eq,decide_eq_true_eq]
  exact ⟨ky_inj,fun h=>h ▸ rfl⟩
theorem cmp_lists:∀ a b:List UInt8,Lib.compareBytes a b=if a<b then -1 else if b<a then 1 else 0
  | [],[]=>by simp [Lib.compareBytes]
  | [],_ :: _=>by simp [Lib.compareBytes]
  | _ :: _,[]=>by simp [Lib.compareBytes]
  | a :: xs,b :: ys=>by
    rw [Lib.compareBytes,cmp_lists xs ys]
    simp only [List.cons_lt_cons_iff]
    by_cases h:a<b
    · simp [h]
    · by_cases h':b<a
      · have:a ≠ b := fun e=>by subst e; exact h h'
        simp [h,h',this]
      · have:a=b := UInt8.le_antisymm (UInt8.not_lt.1 h') (UInt8.not_lt.1 h)
        subst this
        simp [h]
theorem cmpI_ky (a b:ByteArray):cmpI a b=if ky a<ky b then -1 else if ky b<ky a then 1 else 0 := cmp_lists _ _
theorem lt_irr (x:List UInt8):¬ x<x := List.lt_irrefl x
theorem lt_lt {x y z:List UInt8} (h:x<y) (h':y<z):x<z := List.lt_trans h h'
theorem both_not {x y:List UInt8} (h:¬ x<y) (h':¬ y<x):x=y := List.le_antisymm h' h
/-! ### Names -/
def sq (x:Int):Bool := bif x != 45 then bif x != 95 then bif x != 46 then true else false else false else false
def qb (x:Int):Bool := bif decide (x<97) then (bif decide (x<48) then sq x else bif decide (x>57) then sq x else false) else bif decide (x>122) then (bif decide (x<48) then sq x else bif decide (x>57) then sq x else false) else false
def nameB (a:ByteArray):Bool := bif (numsOf a).any qb then false else decide (1≤a.size∧a.size≤32)
theorem step_qb {S R:Type} {r:R} {s:S} (x:Int):(bif decide (x<97) then
   bif decide (x<48) then
    bif x != 45 then bif x != 95 then bif x != 46 then some (.inr r) else some (.inl s) else some (.inl s) else some (.inl s)
   else bif decide (x>57) then
    bif x != 45 then bif x != 95 then bif x != 46 then some (.inr r) else some (.inl s) else some (.inl s) else some (.inl s)
   else some (.inl s)
  else bif decide (x>122) then
   bif decide (x<48) then
    bif x != 45 then bif x != 95 then bif x != 46 then some (.inr r) else some (.inl s) else some (.inl s) else some (.inl s)
   else bif decide (x>57) then
    bif x != 45 then bif x != 95 then bif x != 46 then some (.inr r) else some (.inl s) else some (.inl s) else some (.inl s)
   else some (.inl s)
  else some (.inl s):Option (S ⊕ R))=some (bif qb x then .inr r else .inl s) := by
  unfold qb sq
  generalize decide (x<97)=b1; generalize decide (x<48)=b2; generalize decide (x>57)=b3; generalize decide (x>122)=b4
  generalize (x != 45)=b5; generalize (x != 95)=b6; generalize (x != 46)=b7
  cases b1 <;> cases b2 <;> cases b3 <;> cases b4 <;> cases b5 <;> cases b6 <;> cases b7 <;> rfl
theorem p102_is (a:ByteArray) (ha:a.size≤1048576) (hf:a.size<fu):p102 fu (a,())=some ((),nameB a) := by
  unfold p102 nameB
  have hl := numsOf_length a
  refine loop_for (numsOf a) (fun i=>(((i:Int),()),())) qb ((),false) ((),decide (1≤a.size∧a.size≤32)) (by omega) (fun i h => ?_) ?_ (by cases (numsOf a).any qb <;> rfl)
  · simp only [Int.ofNat_lt,Int.natCast_nonneg,h,decide_true,cond_true,and_self,Int.toNat_natCast,getD_lt h,i64_succ h (by omega)]
    exact step_qb _
  · simp only [Int.ofNat_lt,Nat.lt_irrefl,decide_false,cond_false]
    by_cases h1:1≤a.size
    · have h2:(a.size:Int)≥1 := by omega
      have h3:decide ((a.size:Int)≤32)=decide (a.size≤32) := decide_eq_decide.2 (by omega)
      simp only [h1,h2,h3,decide_true,cond_true,true_and]; rfl
    · have h2:¬ (a.size:Int)≥1 := by omega
      simp only [h1,h2,decide_false,cond_false,false_and]; rfl
theorem loop_find {X S R:Type} {f:S→Option (S ⊕ R)} {res:R} (l:List X) (mk:Nat→S) (q:X→Bool) (g:Option X→R) (hf:l.length<fu)
    (hs:∀ i (h:i<l.length),f (mk i)=some (bif q l[i] then .inr (g (some l[i])) else .inl (mk (i+1)))) (he:f (mk l.length)=some (.inr (g none))) (hr:g (l.find? q)=res):loopO fu f (mk 0)=some res := by
  subst hr
  have key:∀ k i n,i+k=l.length→k<n→loopO n f (mk i)=some (g ((l.drop i).find? q)) := by
    intro k
    induction k with
    | zero =>
      intro i n hi hn
      obtain ⟨m,rfl⟩:∃ m,n=m+1 := ⟨n-1,by omega⟩
      obtain rfl:i=l.length := by omega
      simp only [loopO,he,List.drop_length,List.find?_nil]
    | succ k ih =>
      intro i n hi hn
      obtain ⟨m,rfl⟩:∃ m,n=m+1 := ⟨n-1,by omega⟩
      have hlt:i<l.length := by omega
      rw [List.drop_eq_getElem_cons hlt]
      simp only [loopO,hs i hlt,List.find?_cons]
      cases q l[i] with
      | true=>rfl
      | false=>exact ih (i+1) m (by omega) (by omega)
  exact key l.length 0 fu (by omega) hf
def okL (l:List Cn):Prop := l.length≤2097152 ∧ ∀ x ∈ l,x.1.size≤1048576∧0≤x.2∧x.2<18446744073709551616
theorem okL_at {l:List Cn} (h:okL l) {i:Nat} (hi:i<l.length):l[i].1.size≤1048576 := (h.2 _ (List.getElem_mem hi)).1
def bad (l:List Cn) (i:Nat):Bool := bif !nameB (l.getD i (⟨#[]⟩,0)).1 then true else bif decide (0<i) then !Op.bytesLess (l.getD (i-1) (⟨#[]⟩,0)).1.toList (l.getD i (⟨#[]⟩,0)).1.toList else false
def okC (l:List Cn):Bool := bif (List.range l.length).any (bad l) then false else decide (l.length≤64)
theorem p39_is (l:List Cn) (hl:okL l) (hf:4194304<fu):p39 fu (l,())=some ((),okC l) := by
  unfold p39 okC
  have hn:l.length≤2097152 := hl.1
  refine loop_for (List.range l.length) (fun i=>(((i:Int),()),())) (bad l) ((),false) ((),decide (l.length≤64)) (by simp only [List.length_range]; omega) (fun i h => ?_) ?_ (by cases (List.range l.length).any (bad l) <;> rfl)
  · simp only [List.length_range] at h
    have hs := okL_at hl h
    have hg:∀ d,l.getD i d=l[i] := fun d=>getD_lt h
    simp only [List.getElem_range,Int.ofNat_lt,Int.natCast_nonneg,h,decide_true,cond_true,and_self,Int.toNat_natCast,hg,p102_is _ hs (fu := fu) (by omega),bind_val,i64_succ h (by omega),bad]
    cases nameB l[i].1
    · rfl
    simp only [Bool.not_true,cond_false]
    by_cases h0:0<i
    · have h1:(i:Int)>0 := by omega
      have h2:i-1<l.length := by omega
      have h3:∀ d,l.getD (i-1) d=l[i-1] := fun d=>getD_lt h2
      simp only [h0,h1,decide_true,cond_true,i64_pred h0 (by omega),Int.natCast_nonneg,Int.ofNat_lt,h2,and_self,Int.toNat_natCast,h3]
      cases Op.bytesLess l[i-1].1.toList l[i].1.toList <;> rfl
    · have h1:¬ (i:Int)>0 := by omega
      simp only [h0,h1,decide_false,cond_false]
  · simp only [List.length_range,Int.ofNat_lt,Nat.lt_irrefl,decide_false,cond_false]
    have h3:decide ((l.length:Int)≤64)=decide (l.length≤64) := decide_eq_decide.2 (by omega)
    rw [h3]; rfl
def readO (o:Option Cn):Int×Bool := match o with | some x=>(x.2,true) | none=>(0,false)
def readC (l:List Cn) (c:ByteArray):Int×Bool := readO (l.find? fun x=>x.1.toList==c.toList)
theorem p118_is (l:List Cn) (c:ByteArray) (hl:l.length≤2097152) (hf:4194304<fu):p118 fu (l,c,())=some ((),(readC l c).1,(readC l c).2,()) := by
  unfold p118
  refine loop_find l (fun i=>(((i:Int),()),())) (fun x=>x.1.toList==c.toList) (fun o=>((),(readO o).1,(readO o).2,())) (by omega) (fun i h => ?_) ?_ rfl
  · have hg:∀ d,l.getD i d=l[i] := fun d=>getD_lt h
    simp only [Int.ofNat_lt,Int.natCast_nonneg,h,decide_true,cond_true,and_self,Int.toNat_natCast,hg,i64_succ h (by omega)]
    cases l[i].1.toList==c.toList <;> rfl
  · simp only [Int.ofNat_lt,Nat.lt_irrefl,decide_false,cond_false]; rfl
theorem any_no {α:Type} (l:List α):l.any (fun _=>false)=false := by induction l <;> simp_all
theorem self_beq (s:ByteArray):(s==s)=true := by
  cases s with
  | mk d=>show (d==d)=true; exact beq_self_eq_true d
theorem p72_is (l:List Cn) (hl:l.length≤2097152) (hf:4194304<fu):p72 fu (l,l,())=some ((),true) := by
  unfold p72
  simp only [bne_self_eq_false,cond_false]
  refine loop_for l (fun i=>(((i:Int),()),())) (fun _=>false) ((),false) ((),true) (by omega) (fun i h => ?_) ?_ (by rw [any_no]; rfl)
  · simp only [Int.ofNat_lt,Int.natCast_nonneg,h,decide_true,cond_true,and_self,Int.toNat_natCast,i64_succ h (by omega),beq_self_eq_true,Bool.and_true]
    generalize (l.getD i (dflt T_runtime_errorAddressString)).fst=s
    have:(s==s)=true := self_beq s
    simp only [this,Bool.not_true,cond_false]
  · simp only [Int.ofNat_lt,Nat.lt_irrefl,decide_false,cond_false]; rfl
theorem loop_val {S R:Type} {f:S→Option (S ⊕ R)} (I:S→Prop) (m:S→Nat) {n:Nat} {s:S} {r:R} (hI:I s) (hm:m s<n) (h:∀ s,I s → ∃ o,f s=some o∧LStep I m (fun q=>q=r) s o):loopO n f s=some r := by
  obtain ⟨q,e,rfl⟩ := loopO_rule I m (fun q=>q=r) h n s hI hm
  exact e
theorem mid_is {lo hi:Nat} (h:lo+hi≤9223372036854775807):IntKind.wrap .i64 (Int.fdiv (IntKind.wrap .u64 (IntKind.wrap .i64 ((lo:Int)+(hi:Int)))) (2 ^ (min (Int.toNat (1:Int)) (IntKind.bits .u64))))=(((lo+hi) / 2:Nat):Int) := by
  have e1:IntKind.wrap .i64 ((lo:Int)+(hi:Int))=((lo+hi:Nat):Int) := by rw [i64_wrap (by omega) (by omega)]; omega
  have e2:IntKind.wrap .u64 ((lo+hi:Nat):Int)=((lo+hi:Nat):Int) := wrap_u64 (by omega) (by omega)
  have e3:(2:Int) ^ (min (Int.toNat (1:Int)) (IntKind.bits .u64))=2 := rfl
  have e4:Int.fdiv ((lo+hi:Nat):Int) 2=(((lo+hi) / 2:Nat):Int) := by
    rw [Int.fdiv_eq_ediv_of_nonneg _ (by omega)]; omega
  rw [e1,e2,e3,e4,i64_wrap (by omega) (by omega)]
def Rises (l:List Cn):Prop := l.Pairwise fun x y=>ky x.1<ky y.1
def isB (e:Cn) (x:Cn):Bool := !(x.1.toList==e.1.toList)
def insS:List Cn→Cn→List Cn
  | [],e=>[e]
  | x :: l,e=>bif Op.bytesLess x.1.toList e.1.toList then x :: insS l e else e :: (x :: l).filter (isB e)
theorem guardE {p:Prop} [Decidable p] {α:Type} {a:α} (h:p):(bif decide p then some a else none)=some a := by rw [decide_eq_true h]; rfl
theorem isB_iff (e x:Cn):isB e x=true ↔ x.1 ≠ e.1 := by
  unfold isB; rw [eq_ky]; simp
theorem copyL_all {α:Type} (l:List α) (d:α):copyL (List.replicate l.length d) 0 l.length l=l := by
  simp [copyL]
theorem p112_is (l:List Cn) (hl:l.length≤2097152):p112 fu (l,())=some ((),l) := by
  unfold p112
  cases l with
  | nil=>rfl
  | cons a l =>
    have h0:(((a :: l).length:Int)==0)=false := by simp; omega
    have h1:(0:Int)≤((a :: l).length:Int)∧((a :: l).length:Int)≤((a :: l).length:Int)∧((a :: l).length:Int)≤9223372036854775807∧(24:Int) * ((a :: l).length:Int)≤140737488355328 := by omega
    simp only [h0,cond_false,h1,and_self,decide_true,cond_true,Int.toNat_natCast,List.length_replicate,copyL_all]
theorem p162_is (a c:ByteArray) (x y:Int):p162 fu ((a,x,()),(c,y,()),())=some ((),cmpI a c) := rfl
def At (l:List Cn) (c:ByteArray) (n:Nat):Prop := n≤l.length∧(∀ k (h:k<l.length),k<n→ky l[k].1<ky c) ∧ ∀ k (h:k<l.length),n≤k → ¬ ky l[k].1<ky c
theorem at_some (c:ByteArray):∀ l:List Cn,Rises l → ∃ n,At l c n
  | [],_=>⟨0,Nat.le_refl _,fun k h=>absurd h (Nat.not_lt_zero _),fun k h=>absurd h (Nat.not_lt_zero _)⟩
  | x :: l,hr=>by
    obtain ⟨hx,hr'⟩ := List.pairwise_cons.1 hr
    by_cases h:ky x.1<ky c
    · obtain ⟨n,h1,h2,h3⟩ := at_some c l hr'
      refine ⟨n+1,Nat.succ_le_succ h1,fun k hk hn => ?_,fun k hk hn => ?_⟩
      · cases k with
        | zero=>exact h
        | succ k=>exact h2 k (Nat.lt_of_succ_lt_succ hk) (by omega)
      · cases k with
        | zero=>omega
        | succ k=>exact h3 k (Nat.lt_of_succ_lt_succ hk) (by omega)
    · refine ⟨0,Nat.zero_le _,fun k hk hn=>absurd hn (Nat.not_lt_zero _),fun k hk _ => ?_⟩
      cases k with
      | zero=>exact h
      | succ k=>exact fun g=>h (lt_lt (hx _ (List.getElem_mem (Nat.lt_of_succ_lt_succ hk))) g)
theorem p169_is (l:List Cn) (c:ByteArray) (f:Int) (n:Nat) (hl:l.length≤2097152) (hf:4194304<fu) (ha:At l c n) :
    p169 fu (l,(c,f,()),((),()),())=some ((),(n:Int),(if h:n<l.length then decide (l[n].1=c) else false),()) := by
  obtain ⟨hn,ha1,ha2⟩ := ha
  unfold p169
  refine loop_val (I := fun s => ∃ h i:Nat,s=(((h:Int),(i:Int),()),())∧h≤n∧n≤i∧i≤l.length) (m := fun s=>Int.toNat s.1.2.1-Int.toNat s.1.1) ⟨0,l.length,rfl,Nat.zero_le _,hn,Nat.le_refl _⟩ (by simp only [Int.toNat_natCast]; omega) fun s hs => ?_
  obtain ⟨h,i,rfl,h1,h2,h3⟩ := hs
  by_cases hlt:h<i
  · have hm:(h+i) / 2<l.length := by omega
    have hg:∀ d,l.getD ((h+i) / 2) d=l[(h+i) / 2] := fun d=>getD_lt hm
    simp only [mid_is (lo := h) (hi := i) (by omega),Int.ofNat_lt,hlt,Int.natCast_nonneg,hm,decide_true,cond_true,and_self,Int.toNat_natCast,hg,p162_is,bind_val,cmpI_ky]
    by_cases hc:ky l[(h+i) / 2].1<ky c
    · simp only [hc,if_true,show decide ((-1:Int)<0)=true from rfl,cond_true,i64_succ hm (by omega)]
      refine ⟨_,rfl,⟨_,_,rfl,?_,h2,h3⟩,by simp only [Int.toNat_natCast]; omega⟩
      rcases Nat.lt_or_ge ((h+i) / 2) n with g | g
      · exact g
      · exact absurd hc (ha2 _ hm g)
    · have hz:decide ((if ky c<ky l[(h+i) / 2].1 then (1:Int) else 0)<0)=false := by split <;> rfl
      simp only [hc,if_false,hz,cond_false]
      refine ⟨_,rfl,⟨_,_,rfl,h1,?_,by omega⟩,by simp only [Int.toNat_natCast]; omega⟩
      rcases Nat.lt_or_ge ((h+i) / 2) n with g | g
      · exact absurd (ha1 _ hm g) hc
      · exact g
  · obtain rfl:h=n := by omega
    simp only [Int.ofNat_lt,hlt,decide_false,cond_false]
    by_cases hm:h<l.length
    · have hg:∀ d,l.getD h d=l[h] := fun d=>getD_lt hm
      simp only [hm,Int.natCast_nonneg,decide_true,cond_true,and_self,Int.toNat_natCast,hg,p162_is,bind_val,cmpI_ky,ha2 _ hm (Nat.le_refl _),if_false,dite_true]
      refine ⟨_,rfl,?_⟩
      have:((if ky c<ky l[h].1 then (1:Int) else 0)==0)=decide (l[h].1=c) := by
        by_cases hx:ky c<ky l[h].1
        · have:¬ l[h].1=c := fun e=>lt_irr _ (e ▸ hx)
          simp [hx,this]
        · have:l[h].1=c := ky_inj (both_not (ha2 _ hm (Nat.le_refl _)) hx)
          simp [hx,this]
      rw [this]
    · simp only [hm,decide_false,cond_false,dite_false]
      exact ⟨_,rfl,rfl⟩
theorem filter_all {l:List Cn} {e:Cn} (h:∀ y ∈ l,y.1 ≠ e.1):l.filter (isB e)=l := List.filter_eq_self.2 fun y hy=>(isB_iff e y).2 (h y hy)
theorem ky_ne {a b:ByteArray} (h:ky a<ky b):a ≠ b := fun e=>lt_irr _ (e ▸ h)
theorem less_not {x e:Cn} (h:¬ ky x.1<ky e.1):Op.bytesLess x.1.toList e.1.toList=false := by rw [less_ky,decide_eq_false h]
theorem less_yes {x e:Cn} (h:ky x.1<ky e.1):Op.bytesLess x.1.toList e.1.toList=true := by rw [less_ky,decide_eq_true h]
theorem insS_place (e:Cn):∀ (l:List Cn) (n:Nat),Rises l→At l e.1 n→insS l e=if h:n<l.length then (if l[n].1=e.1 then l.set n e else l.take n ++ [e] ++ l.drop n) else l.take n ++ [e] ++ l.drop n
  | [],n,_,h=>by
    obtain rfl:n=0 := Nat.le_zero.1 h.1
    rfl
  | x :: l,0,hr,h=>by
    obtain ⟨hx,hr'⟩ := List.pairwise_cons.1 hr
    have h0:¬ ky x.1<ky e.1 := h.2.2 0 (Nat.succ_pos _) (Nat.le_refl _)
    simp only [insS,less_not h0,cond_false,List.length_cons,Nat.succ_pos,dite_true,List.getElem_cons_zero,List.set_cons_zero,List.take_zero,List.nil_append,List.drop_zero,List.filter_cons]
    by_cases hq:x.1=e.1
    · have hk:isB e x=false := by rw [← Bool.not_eq_true,isB_iff]; exact fun g=>g hq
      simp only [hq,if_true,hk,Bool.false_eq_true,if_false]
      rw [filter_all fun y hy g=>ky_ne (hx y hy) (hq.trans g.symm)]
    · have hk:isB e x=true := (isB_iff e x).2 hq
      have hlt:ky e.1<ky x.1 := by
        rcases Classical.em (ky e.1<ky x.1) with g | g
        · exact g
        · exact absurd (ky_inj (both_not h0 g)) hq
      simp only [hq,if_false,hk,if_true]
      rw [filter_all fun y hy g=>ky_ne (lt_lt hlt (hx y hy)) g.symm]
      rfl
  | x :: l,n+1,hr,h=>by
    obtain ⟨hx,hr'⟩ := List.pairwise_cons.1 hr
    have h0:ky x.1<ky e.1 := h.2.1 0 (Nat.succ_pos _) (Nat.succ_pos _)
    have ha:At l e.1 n := ⟨Nat.le_of_succ_le_succ h.1,fun k hk hn=>h.2.1 (k+1) (Nat.succ_lt_succ hk) (Nat.succ_lt_succ hn),fun k hk hn=>h.2.2 (k+1) (Nat.succ_lt_succ hk) (Nat.succ_le_succ hn)⟩
    simp only [insS,less_yes h0,cond_true,insS_place e l n hr' ha,List.length_cons,Nat.add_lt_add_iff_right,List.getElem_cons_succ,List.set_cons_succ,List.take_succ_cons,List.drop_succ_cons,List.cons_append]
    split
    · split <;> rfl
    · rfl
theorem mem_insS {e y:Cn}:∀ {l:List Cn},y ∈ insS l e→y=e ∨ y ∈ l
  | [],h => .inl (List.mem_singleton.1 h)
  | x :: l,h=>by
    unfold insS at h
    cases hb:Op.bytesLess x.1.toList e.1.toList with
    | true =>
      rw [hb,cond_true] at h
      rcases List.mem_cons.1 h with h | h
      · exact .inr (h ▸ List.mem_cons_self)
      · exact (mem_insS h).imp id (List.mem_cons_of_mem _)
    | false =>
      rw [hb,cond_false] at h
      exact (List.mem_cons.1 h).imp id fun h=>(List.mem_filter.1 h).1
theorem rises_insS {e:Cn}:∀ {l:List Cn},Rises l→Rises (insS l e)
  | [],_=>List.pairwise_singleton _ _
  | x :: l,hr=>by
    obtain ⟨hx,hr'⟩ := List.pairwise_cons.1 hr
    unfold insS
    by_cases h0:ky x.1<ky e.1
    · rw [less_yes h0,cond_true]
      refine List.pairwise_cons.2 ⟨fun y hy => ?_,rises_insS hr'⟩
      rcases mem_insS hy with rfl | hy
      · exact h0
      · exact hx y hy
    · rw [less_not h0,cond_false]
      refine List.pairwise_cons.2 ⟨fun y hy => ?_,hr.sublist (List.filter_sublist)⟩
      obtain ⟨hm,hb⟩ := List.mem_filter.1 hy
      have hne := (isB_iff e y).1 hb
      have key:∀ z:Cn,¬ ky z.1<ky e.1→z.1 ≠ e.1→ky e.1<ky z.1 := fun z hz hn=>by
        rcases Classical.em (ky e.1<ky z.1) with g | g
        · exact g
        · exact absurd (ky_inj (both_not hz g)) hn
      refine key y (fun g => ?_) hne
      rcases List.mem_cons.1 hm with rfl | hm
      · exact h0 g
      · exact h0 (lt_lt (hx y hm) g)
theorem p161_is (l:List Cn) (c:ByteArray) (f:Int) (hr:Rises l) (hl:l.length≤2097151) (hf:4194304<fu):p161 fu (l,(c,f,()),((),()),())=some ((),insS l (c,f)) := by
  obtain ⟨n,ha⟩ := at_some c l hr
  rw [insS_place (c,f) l n hr ha]
  have hn := ha.1
  unfold p161
  simp only [p169_is l c f n (by omega) hf ha,p112_is l (by omega),bind_val]
  have hins:pInsertC fu (l,(n:Int),[(c,f)],())=some (((),(),()),l.take n ++ [(c,f)] ++ l.drop n) := by
    unfold pInsertC
    exact guardE ⟨Int.natCast_nonneg _,by simpa using hn,by simp,by simp only [List.length_singleton]; omega⟩
  by_cases h:n<l.length
  · by_cases hq:l[n].1=c
    · simp only [h,hq,dite_true,decide_true,cond_true,if_true,Int.natCast_nonneg,Int.ofNat_lt,and_self,Int.toNat_natCast,List.length_set]
    · simp only [h,hq,dite_true,decide_false,cond_false,if_false,hins,bind_val,decide_true,cond_true]
  · simp only [h,dite_false,cond_false,hins,bind_val,decide_true,cond_true]
/-! ### Commit -/
theorem rises_adj:∀ l:List Cn,(∀ i (h:i+1<l.length),ky (l[i]'(Nat.lt_of_succ_lt h)).1<ky l[i+1].1)→Rises l
  | [],_=>List.Pairwise.nil
  | [x],_=>List.pairwise_singleton _ _
  | x :: y :: l,h=>by
    have h1:Rises (y :: l) := rises_adj (y :: l) fun i hi=>h (i+1) (Nat.succ_lt_succ hi)
    have h2:ky x.1<ky y.1 := h 0 (Nat.succ_lt_succ (Nat.succ_pos _))
    refine List.pairwise_cons.2 ⟨fun z hz => ?_,h1⟩
    rcases List.mem_cons.1 hz with rfl | hz
    · exact h2
    · exact lt_lt h2 ((List.pairwise_cons.1 h1).1 z hz)
theorem okC_rises {l:List Cn} (h:okC l=true):Rises l∧l.length≤64 := by
  unfold okC at h
  cases hb:(List.range l.length).any (bad l) with
  | true=>rw [hb] at h; exact absurd h Bool.false_ne_true
  | false =>
    rw [hb,cond_false] at h
    refine ⟨rises_adj l fun i hi => ?_,of_decide_eq_true h⟩
    have := List.any_eq_false.1 hb (i+1) (List.mem_range.2 hi)
    unfold bad at this
    have g1:∀ d,l.getD (i+1) d=l[i+1] := fun d=>getD_lt hi
    have g2:∀ d,l.getD i d=l[i]'(Nat.lt_of_succ_lt hi) := fun d=>getD_lt _
    simp only [g1,g2,Nat.succ_pos,decide_true,cond_true,Nat.add_sub_cancel,less_ky] at this
    cases hn:nameB l[i+1].1 with
    | false=>rw [hn] at this; exact absurd rfl this
    | true =>
      rw [hn] at this
      simpa using this
def commitS (l:List Cn) (c:ByteArray) (f h:Int):List Cn×Int :=
  bif !okC l then ([],1) else bif !nameB c then ([],142) else bif decide (f>h) then ([],141) else bif decide ((insS l (c,f)).length≤64) then (insS l (c,f),0) else ([],143)
theorem p150_is (l:List Cn) (c:ByteArray) (f h:Int) (hl:okL l) (hc:c.size≤1048576) (hf:4194304<fu):p150 fu (l,(c,f,()),h,())=some ((),(commitS l c f h).1,(commitS l c f h).2,()) := by
  unfold p150 commitS
  simp only [p39_is l hl hf,p102_is c hc (fu := fu) (by omega),bind_val]
  cases ho:okC l
  · rfl
  cases nameB c
  · rfl
  simp only [Bool.not_true,cond_false]
  by_cases hh:f>h
  · simp only [hh,decide_true,cond_true]
  simp only [hh,decide_false,cond_false,p161_is l c f (okC_rises ho).1 (by have := (okC_rises ho).2; omega) hf,bind_val]
  by_cases h6:(insS l (c,f)).length≤64
  · have h7:((insS l (c,f)).length:Int)≤64 := by omega
    simp only [h6,h7,decide_true,cond_true]
  · have h7:¬ ((insS l (c,f)).length:Int)≤64 := by omega
    simp only [h6,h7,decide_false,cond_false]
abbrev Rd := D_api_Record
theorem u64_wrap {x:Int} (h1:0≤x) (h2:x<18446744073709551616):IntKind.wrap .u64 x=x := by
  show x % 18446744073709551616=x
  omega
/-! ### Logs -/
def noRec:Rd := (0,⟨#[]⟩,[],0,0)
def wrong (l:List Rd) (i:Nat):Bool := bif ((l.getD i noRec).1 != (i:Int)) then true else bif decide ((l.getD i noRec).2.1.size>32) then true else decide ((l.getD i noRec).2.2.1.length>256)
def logOk (l:List Rd):Bool := bif (List.range l.length).any (wrong l) then false else decide (l.length≤4096)
theorem p99_is (a:Int) (c:ByteArray) (l:List Int) (x y:Int):p99 fu ((a,c,l,x,y,()),())=some ((),bif decide (c.size>32) then 131 else bif decide (l.length>256) then 144 else 0) := by
  unfold p99
  have h1:decide ((c.size:Int)>32)=decide (c.size>32) := decide_eq_decide.2 (by omega)
  have h2:decide ((l.length:Int)>256)=decide (l.length>256) := decide_eq_decide.2 (by omega)
  simp only [h1,h2]
  cases decide (c.size>32) <;> cases decide (l.length>256) <;> rfl
theorem p37_is (l:List Rd) (hl:l.length≤2097152) (hf:4194304<fu):p37 fu (l,())=some ((),logOk l) := by
  unfold p37 logOk
  refine loop_for (List.range l.length) (fun i=>(((i:Int),()),())) (wrong l) ((),false) ((),decide (l.length≤4096)) (by simp only [List.length_range]; omega) (fun i h => ?_) ?_ (by cases (List.range l.length).any (wrong l) <;> rfl)
  · simp only [List.length_range] at h
    have hg:∀ d,l.getD i d=l[i] := fun d=>getD_lt h
    have hw:IntKind.wrap .u64 (i:Int)=(i:Int) := u64_wrap (by omega) (by omega)
    simp only [List.getElem_range,Int.ofNat_lt,Int.natCast_nonneg,h,decide_true,cond_true,and_self,Int.toNat_natCast,hg,hw,p99_is,bind_val,i64_succ h (by omega),wrong]
    cases (l[i].1 != (i:Int))
    · simp only [cond_false]
      cases decide (l[i].2.1.size>32) <;> cases decide (l[i].2.2.1.length>256) <;> rfl
    · rfl
  · simp only [List.length_range,Int.ofNat_lt,Nat.lt_irrefl,decide_false,cond_false]
    have h3:decide ((l.length:Int)≤4096)=decide (l.length≤4096) := decide_eq_decide.2 (by omega)
    rw [h3]; rfl
theorem p172_is (l:List Int) (h:l.length≤140737488355328):p172 fu (l,())=some ((),l) := by
  unfold p172
  cases l with
  | nil=>rfl
  | cons a l =>
    have h0:(((a :: l).length:Int)==0)=false := beq_eq_false_iff_ne.2 (by simp only [List.length_cons]; omega)
    have h1:(0:Int)≤((a :: l).length:Int)∧((a :: l).length:Int)≤((a :: l).length:Int)∧((a :: l).length:Int)≤9223372036854775807∧(1:Int) * ((a :: l).length:Int)≤140737488355328 := by omega
    simp only [h0,cond_false,h1,and_self,decide_true,cond_true,Int.toNat_natCast,List.length_replicate,copyL_all]
def numR (n:List Rd) (x:Rd):Rd := ((n.length:Int),x.2.1,x.2.2.1,x.2.2.2.1,x.2.2.2.2)
theorem p159_is (n:List Rd) (x:Rd) (hn:n.length≤2097152) (hx:x.2.2.1.length≤140737488355328):p159 fu (n,(x.1,x.2.1,x.2.2.1,x.2.2.2.1,x.2.2.2.2,()),())=some (((),()),n ++ [numR n x]) := by
  unfold p159 p165
  have hw:IntKind.wrap .u64 (n.length:Int)=(n.length:Int) := u64_wrap (by omega) (by omega)
  simp only [p172_is _ hx,bind_val,decide_true,cond_true,hw]
  exact guardE ⟨by unfold maxLen; simp only [List.length_singleton]; omega,by simp only [List.length_singleton]; omega⟩
def befB (c f:ByteArray):Bool := bif (ByteArray.toList c==ByteArray.toList (⟨#[]⟩:ByteArray)) then true else !(Op.bytesLess (ByteArray.toList c) (ByteArray.toList f)||ByteArray.toList c==ByteArray.toList f)
def chkB (a c:ByteArray):Int := bif !decide ((a.size:Int)≤32) then 131 else bif !decide ((c.size:Int)≤32) then 131 else bif !befB c a then 132 else 0
def hasB (a c f:ByteArray):Bool := bif (chkB a c==0) then (bif decide ((f.size:Int)≤32) then (bif !Op.bytesLess f.toList a.toList then befB c f else false) else false) else false
theorem p98_is (c f:ByteArray):p98 fu ((c,ByteArray.toList c==ByteArray.toList (⟨#[]⟩:ByteArray),()),f,())=some ((),befB c f) := by
  unfold p98 befB
  cases (ByteArray.toList c==ByteArray.toList (⟨#[]⟩:ByteArray)) <;> rfl
theorem p36_is (a c:ByteArray):p36 fu ((a,c,()),())=some ((),chkB a c) := by
  unfold p36 chkB
  simp only [p96,p97,bind_val,p98_is]
  cases decide ((a.size:Int)≤32)
  · rfl
  cases decide ((c.size:Int)≤32)
  · rfl
  cases befB c a <;> rfl
theorem p106_is (a c f:ByteArray):p106 fu ((a,c,()),f,())=some ((),hasB a c f) := by
  unfold p106 hasB
  simp only [p36_is,p96,p97,bind_val,p98_is]
  cases (chkB a c==0)
  · rfl
  cases decide ((f.size:Int)≤32)
  · rfl
  cases Op.bytesLess f.toList a.toList <;> rfl
theorem p70_same (l:List Rd) (hl:l.length≤2097152) (hf:4194304<fu):p70 fu (l,l,())=some ((),true) := by
  unfold p70
  simp only [bne_self_eq_false,cond_false]
  refine loop_for l (fun i=>(((i:Int),()),())) (fun _=>false) ((),false) ((),true) (by omega) (fun i h => ?_) ?_ (by rw [any_no]; rfl)
  · simp only [Int.ofNat_lt,Int.natCast_nonneg,h,decide_true,cond_true,and_self,Int.toNat_natCast,i64_succ h (by omega),bne_self_eq_false,cond_false,beq_self_eq_true,Bool.not_true]
  · simp only [Int.ofNat_lt,Nat.lt_irrefl,decide_false,cond_false]; rfl
end
section
variable {fu:Nat}
abbrev Pr := Int×Int×Bool×Int
def seqB (s:Int):Bool := decide (1≤s) && decide (s≤9223372036854775807)
def cmpZ (a b:Int):Int := if a<b then -1 else if a>b then 1 else 0
theorem p101_is (s:Int):p101 fu (s,())=some ((),seqB s) := by
  unfold p101 seqB
  by_cases h:1≤s
  · simp [h]
  · simp [h]
theorem p140_is (a:Int):p140 fu (a,())=some ((),false) := by simp [p140]
theorem p105_is (a b:Int):p105 fu (a,b,())=some ((),cmpZ a b) := by
  simp only [p105,p140_is,bind_val,cond_false]
  unfold cmpZ
  by_cases h:a<b
  · simp [h]
  · by_cases h2:a>b
    · simp [h,h2]
    · simp [h,h2]
theorem p100_is (x y:Pr):p100 fu ((x.1,x.2.1,x.2.2.1,x.2.2.2,()),(y.1,y.2.1,y.2.2.1,y.2.2.2,()),())=some ((),cmpZ x.1 y.1) := by
  simp only [p100,p105_is,bind_val]
def findI (l:List Pr) (id:Int):Nat := l.findIdx fun x=>x.1==id
theorem findI_eq {l:List Pr} {id:Int} {i:Nat} (h:i≤findI l id) (hi:i<l.length) (hx:(l[i].1==id)=true):findI l id=i := by
  rcases Nat.lt_or_ge i (findI l id) with h1 | h1
  · have := List.not_of_lt_findIdx h1
    rw [hx] at this; simp at this
  · omega
theorem findI_lt {l:List Pr} {id:Int} {i:Nat} (h:i≤findI l id) (hi:i<l.length) (hx:(l[i].1==id)=false):i+1≤findI l id := by
  rcases Nat.lt_or_ge i (findI l id) with h1 | h1
  · exact h1
  · exfalso
    have e:findI l id=i := by omega
    have hw:findI l id<l.length := by omega
    have := List.findIdx_getElem (w := hw)
    simp only [show l.findIdx (fun x=>x.1==id)=i from e] at this
    rw [hx] at this; cases this
theorem findI_le (l:List Pr) (id:Int):findI l id≤l.length := List.findIdx_le_length
theorem p163_is (l:List Pr) (id:Int) (hl:l.length≤9223372036854775806) (hf:l.length<fu) :
    p163 fu (l,((),((id,()),())),())=some (((id,()),()),(((findI l id:Nat):Int),decide (findI l id<l.length),())) := by
  unfold p163
  refine loopO_eq (I := fun s => ∃ i:Nat,s=(((i:Int),()),())∧i≤l.length∧i≤findI l id) (m := fun s=>l.length-s.1.1.toNat)
    (g := fun _=>(((id,()),()),(((findI l id:Nat):Int),decide (findI l id<l.length),()))) ?_ fu _ ⟨0,rfl,Nat.zero_le _,Nat.zero_le _⟩ (by simpa using hf)
  rintro s ⟨i,rfl,h1,h2⟩
  by_cases hi:i<l.length
  · cases hx:(l[i].1==id) with
    | true =>
      right
      have e := findI_eq h2 hi hx
      simp [hi,p164,inrO,hx,e]
    | false =>
      left
      refine ⟨((((i+1:Nat):Int),()),()),?_,⟨i+1,rfl,hi,findI_lt h2 hi hx⟩,?_,rfl⟩
      · simp [hi,p164,hx,i64_succ hi (by omega)]
      · simp; omega
  · right
    have e:i=l.length := by omega
    have e2:findI l id=l.length := by have := findI_le l id; omega
    subst e
    simp [inrO,e2]
def find (l:List Pr) (id:Int):Option Pr := l.find? fun x=>x.1==id
theorem findP_is (l:List Pr) (id:Int) (d:Pr):find l id=if findI l id<l.length then some (l.getD (findI l id) d) else none := by
  unfold find findI
  induction l with
  | nil=>rfl
  | cons x l ih =>
    rw [List.find?_cons,List.findIdx_cons]
    cases hx:(x.1==id) with
    | true=>simp
    | false =>
      simp only [cond_false,List.length_cons,Nat.add_lt_add_iff_right,List.getD_cons_succ]
      exact ih
def judge (l:List Pr) (id seq:Int):Int×Int :=
  if id=0 then (4,0) else if seqB seq=false then (4,0) else match find l id with
    | none=>(1,0)
    | some x=>if seq>x.2.1 then (1,0) else if seq=x.2.1∧x.2.2.1=true then (2,x.2.2.2) else (3,0)
theorem p157_is (l:List Pr) (id seq:Int) (hl:l.length≤9223372036854775806) (hf:l.length<fu):p157 fu (l,id,seq,())=some ((),((judge l id seq).1,(judge l id seq).2,())) := by
  unfold p157 judge
  by_cases h0:id=0
  · simp [h0]
  · simp only [h0,if_false,show (id==(0:Int))=false by simpa using h0,cond_false,p101_is,bind_val]
    cases hs:seqB seq with
    | false=>simp
    | true =>
      simp only [Bool.not_true,cond_false,p163_is l id hl hf,bind_val,Bool.true_eq_false,if_false,findP_is l id (dflt T_api_Producer)]
      by_cases hk:findI l id<l.length
      · simp only [hk,decide_true,Bool.not_true,cond_false,if_true,Int.toNat_natCast,Int.natCast_nonneg,true_and,Int.ofNat_lt,cond_true,orK_inl]
        by_cases h1:seq>(l.getD (findI l id) (dflt T_api_Producer)).2.1
        · simp only [h1,decide_true,cond_true,if_true]
        · by_cases h2:seq=(l.getD (findI l id) (dflt T_api_Producer)).2.1
          · have h3:(seq==(l.getD (findI l id) (dflt T_api_Producer)).2.1)=true := by rw [← h2]; exact beq_self_eq_true _
            simp only [h1,h3,decide_false,cond_false,cond_true,if_false,orK_inl,eq_true h2,true_and]
            cases (l.getD (findI l id) (dflt T_api_Producer)).2.2.1 <;> simp
          · have h3:(seq==(l.getD (findI l id) (dflt T_api_Producer)).2.1)=false := by simpa using h2
            simp only [h1,h2,h3,decide_false,cond_false,if_false,orK_inl,false_and]
      · simp [hk,orK]
def okP (x:Pr):Bool := !(x.1==0) && (seqB x.2.1 && (x.2.2.1||x.2.2.2==0))
def rowOK (l:List Pr) (i:Nat):Bool := (i==0||decide ((l.getD (i-1) (dflt T_api_Producer)).1<(l.getD i (dflt T_api_Producer)).1)) && okP (l.getD i (dflt T_api_Producer))
def tabI (l:List Pr):Bool := (List.range l.length).all (rowOK l) && decide (l.length≤256)
theorem tabI_no {l:List Pr} {i:Nat} (hi:i<l.length) (h:rowOK l i=false):tabI l=false := by
  unfold tabI
  have:(List.range l.length).all (rowOK l)=false := by
    rw [List.all_eq_false]
    exact ⟨i,List.mem_range.2 hi,by simp [h]⟩
  rw [this]; rfl
theorem cmpZ_neg (a b:Int):decide (cmpZ a b<0)=decide (a<b) := by
  unfold cmpZ
  by_cases h:a<b
  · simp [h]
  · by_cases h2:a>b
    · simp [h,h2]
    · simp [h,h2]
theorem p38_is (l:List Pr) (hl:l.length≤9223372036854775806) (hf:l.length<fu):p38 fu (l,())=some ((),tabI l) := by
  unfold p38
  refine loopO_eq (I := fun s => ∃ i:Nat,s=(((i:Int),()),())∧i≤l.length ∧ ∀ j,j<i→rowOK l j=true) (m := fun s=>l.length-s.1.1.toNat)
    (g := fun _=>((),tabI l)) ?_ fu _ ⟨0,rfl,Nat.zero_le _,fun j hj=>absurd hj (Nat.not_lt_zero _)⟩ (by simpa using hf)
  rintro s ⟨i,rfl,h1,h2⟩
  by_cases hi:i<l.length
  · -- what stands ahead of it
    have hd:∀ {R:Type} (k:(Bool×Unit)×Unit→Option R),orK (E := (Bool×Unit)×Unit)
        (bif ((i:Int)==(0:Int)) then some (.inl ((true,()),())) else
          bif decide ((0:Int)≤IntKind.wrap .i64 ((i:Int)-(1:Int))∧IntKind.wrap .i64 ((i:Int)-(1:Int))<(List.length l:Int)) then
           bif decide (Int.toNat (IntKind.wrap .i64 ((i:Int)-(1:Int)))<List.length l) then
            Option.bind (p100 fu (((List.getD l (Int.toNat (IntKind.wrap .i64 ((i:Int)-(1:Int)))) (dflt T_api_Producer)).1,((List.getD l (Int.toNat (IntKind.wrap .i64 ((i:Int)-(1:Int)))) (dflt T_api_Producer)).2).1,(((List.getD l (Int.toNat (IntKind.wrap .i64 ((i:Int)-(1:Int)))) (dflt T_api_Producer)).2).2).1,(((List.getD l (Int.toNat (IntKind.wrap .i64 ((i:Int)-(1:Int)))) (dflt T_api_Producer)).2).2).2,()),((List.getD l i (dflt T_api_Producer)).1,((List.getD l i (dflt T_api_Producer)).2).1,(((List.getD l i (dflt T_api_Producer)).2).2).1,(((List.getD l i (dflt T_api_Producer)).2).2).2,()),())) fun ⟨_,r33⟩ =>
            some (.inl ((decide (r33<(0:Int)),()),()))
           else none
          else none) k=k ((i==0||decide ((l.getD (i-1) (dflt T_api_Producer)).1<(l.getD i (dflt T_api_Producer)).1),()),()) := by
      intro R k
      by_cases h0:i=0
      · subst h0; simp [orK]
      · have hw := i64_pred (i := i) (by omega) (by omega)
        have hlt:i-1<l.length := by omega
        have h0':((i:Int)==0)=false := by simpa using h0
        have h0'':(i==0)=false := by simpa using h0
        simp only [h0',h0'',cond_false,hw,Int.natCast_nonneg,Int.ofNat_lt,hlt,true_and,decide_true,cond_true,Int.toNat_natCast,p100_is,bind_val,orK_inl,cmpZ_neg,Bool.false_or]
    simp only [Int.ofNat_lt,hi,decide_true,cond_true,Int.natCast_nonneg,true_and,Int.toNat_natCast,hd]
    generalize hb:(i==0||decide ((l.getD (i-1) (dflt T_api_Producer)).1<(l.getD i (dflt T_api_Producer)).1))=b
    generalize hx:l.getD i (dflt T_api_Producer)=x
    obtain ⟨x1,x2,x3,x4⟩ := x
    have hrow:rowOK l i=(b && okP (x1,x2,x3,x4)) := by unfold rowOK; rw [hb,hx]
    have bad:rowOK l i=false→((),tabI l)=((),false) := fun h=>by rw [tabI_no hi h]
    have good:rowOK l i=true→(∃ s':((Int×Unit)×Unit),(some (.inl ((IntKind.wrap .i64 ((i:Int)+(1:Int)),()),())):Option (((Int×Unit)×Unit) ⊕ (Unit×Bool)))=some (.inl s') ∧
        (∃ i:Nat,s' = (((i:Int),()),())∧i≤l.length ∧ ∀ j,j<i→rowOK l j=true)∧l.length-s'.1.1.toNat<l.length-i∧((),tabI l)=((),tabI l)) := fun h =>
      ⟨((((i+1:Nat):Int),()),()),by rw [i64_succ hi (by omega)],⟨i+1,rfl,hi,fun j hj=>by
        rcases Nat.lt_succ_iff_lt_or_eq.1 hj with h' | rfl
        · exact h2 j h'
        · exact h⟩,by simp; omega,rfl⟩
    simp only [okP] at hrow
    by_cases hz:x1=0
    · right; rw [bad (by rw [hrow]; simp [hz])]; simp [hz,inrO]
    · have hz':(x1==(0:Int))=false := by simpa using hz
      simp only [hz',cond_false,p101_is,bind_val,Bool.not_false,Bool.true_and] at hrow ⊢
      cases hs:seqB x2 with
      | false=>right; rw [bad (by rw [hrow,hs]; simp)]; simp [inrO]
      | true =>
        cases b with
        | false=>right; rw [bad (by rw [hrow]; simp)]; simp [inrO]
        | true =>
          cases x3 with
          | true =>
            have hr:rowOK l i=true := by rw [hrow,hs]; rfl
            left; simpa using good hr
          | false =>
            by_cases h4:x4=0
            · have hr:rowOK l i=true := by rw [hrow,hs]; simp [h4]
              left; simpa [h4] using good hr
            · right; rw [bad (by rw [hrow,hs]; simp [h4])]
              have h4':(x4 != (0:Int))=true := by simpa using h4
              simp [h4',inrO]
  · right
    have e:i=l.length := by omega
    subst e
    have:(List.range l.length).all (rowOK l)=true := List.all_eq_true.2 fun j hj=>h2 j (List.mem_range.1 hj)
    simp [inrO,tabI,this]
    omega
def mrg (both:Pr→Pr→Pr):Nat→List Pr→List Pr→List Pr
  | 0,a,b=>a ++ b
  | _+1,[],b=>b
  | _+1,x :: a,[]=>x :: a
  | n+1,x :: a,y :: b=>if x.1<y.1 then x :: mrg both n a (y :: b) else if x.1>y.1 then y :: mrg both n (x :: a) b else both x y :: mrg both n a b
def newest (_ y:Pr):Pr := y
theorem p166_is (x y:Pr):p166 fu ((x.1,x.2.1,x.2.2.1,x.2.2.2,()),(y.1,y.2.1,y.2.2.1,y.2.2.2,()),())=some ((),((newest x y).1,(newest x y).2.1,(newest x y).2.2.1,(newest x y).2.2.2,())) := rfl
theorem mrg_more (both:Pr→Pr→Pr):∀ (n m:Nat) (a b:List Pr),a.length+b.length≤n→a.length+b.length≤m→mrg both n a b=mrg both m a b
  | 0,m,a,b,h,_=>by
    have ha:a=[] := List.eq_nil_of_length_eq_zero (by omega)
    have hb:b=[] := List.eq_nil_of_length_eq_zero (by omega)
    subst ha hb
    cases m <;> rfl
  | n+1,0,a,b,_,h=>by
    have ha:a=[] := List.eq_nil_of_length_eq_zero (by omega)
    have hb:b=[] := List.eq_nil_of_length_eq_zero (by omega)
    subst ha hb
    rfl
  | n+1,m+1,[],b,_,_=>rfl
  | n+1,m+1,x :: a,[],_,_=>rfl
  | n+1,m+1,x :: a,y :: b,h1,h2=>by
    simp only [List.length_cons] at h1 h2
    simp only [mrg]
    rw [mrg_more both n m a (y :: b) (by simp; omega) (by simp; omega),mrg_more both n m (x :: a) b (by simp; omega) (by simp; omega),mrg_more both n m a b (by omega) (by omega)]
def merge (both:Pr→Pr→Pr) (a b:List Pr):List Pr := mrg both (a.length+b.length) a b
theorem merge_nil (both:Pr→Pr→Pr) (b:List Pr):merge both [] b=b := by
  unfold merge
  cases b <;> rfl
theorem merge_nil' (both:Pr→Pr→Pr) (a:List Pr):merge both a []=a := by
  unfold merge
  cases a <;> rfl
theorem merge_cons (both:Pr→Pr→Pr) (x y:Pr) (a b:List Pr):merge both (x :: a) (y :: b)=if x.1<y.1 then x :: merge both a (y :: b) else if x.1>y.1 then y :: merge both (x :: a) b else both x y :: merge both a b := by
  unfold merge
  have e:(x :: a).length+(y :: b).length=(a.length+b.length+1)+1 := by simp; omega
  rw [e]
  simp only [mrg]
  rw [mrg_more both (a.length+b.length+1) (a.length+(y :: b).length) a (y :: b) (by simp; omega) (by omega),
    mrg_more both (a.length+b.length+1) ((x :: a).length+b.length) (x :: a) b (by simp; omega) (by omega),
    mrg_more both (a.length+b.length+1) (a.length+b.length) a b (by omega) (by omega)]
theorem p168_is (l r:List Pr) (hb:(l.length+r.length) * 32≤140737488355328) (hf:l.length+r.length<fu) :
    p168 fu (l,r,((),()),((),()),())=some ((),merge newest l r) := by
  unfold p168
  refine orK_loop (I := fun s => ∃ v0 v1 v9:List Pr,s=((v0,v1,v9,()),())∧v9 ++ merge newest v0 v1=merge newest l r∧v9.length+v0.length+v1.length≤l.length+r.length)
      (m := fun s=>s.1.1.length+s.1.2.1.length)
      (Q := fun z => ∃ v0 v1 v9:List Pr,z = .inl ((v0,v1,v9,()),())∧(v0=[] ∨ v1=[])∧v9 ++ merge newest v0 v1=merge newest l r∧v9.length+v0.length+v1.length≤l.length+r.length)
      ⟨l,r,[],rfl,rfl,by simp⟩ (by simpa using hf) ?_ ?_
  · rintro s ⟨v0,v1,v9,rfl,h1,h2⟩
    cases v0 with
    | nil=>exact ⟨.inr (.inl (([],v1,v9,()),())),by simp [inrO],[],v1,v9,rfl,.inl rfl,h1,h2⟩
    | cons x a =>
      cases v1 with
      | nil=>exact ⟨.inr (.inl ((x :: a,[],v9,()),())),by simp [inrO],x :: a,[],v9,rfl,.inr rfl,h1,h2⟩
      | cons y b =>
        rw [merge_cons] at h1
        simp only [List.length_cons] at h2
        have hp := p100_is (fu := fu) x y
        have hm:v9.length+1≤maxLen∧(v9.length+1) * 32≤140737488355328 := by unfold maxLen; omega
        by_cases c1:x.1<y.1
        · rw [if_pos c1] at h1
          have hc:cmpZ x.1 y.1 = -1 := by simp [cmpZ,c1]
          refine ⟨.inl ((a,y :: b,v9 ++ [x],()),()),?_,⟨a,y :: b,v9 ++ [x],rfl,by simpa using h1,by simp; omega⟩,by simp⟩
          simp [hp,hc,hm]
        · rw [if_neg c1] at h1
          by_cases c2:x.1>y.1
          · rw [if_pos c2] at h1
            have hc:cmpZ x.1 y.1=1 := by simp [cmpZ,c1,c2]
            refine ⟨.inl ((x :: a,b,v9 ++ [y],()),()),?_,⟨x :: a,b,v9 ++ [y],rfl,by simpa using h1,by simp; omega⟩,by simp⟩
            simp [hp,hc,hm]
          · rw [if_neg c2] at h1
            have hc:cmpZ x.1 y.1=0 := by simp [cmpZ,c1,c2]
            refine ⟨.inl ((a,b,v9 ++ [newest x y],()),()),?_,⟨a,b,v9 ++ [newest x y],rfl,by simpa using h1,by simp; omega⟩,by simp; omega⟩
            simp [hp,hc,hm,p166_is,newest]
  rintro z ⟨v0,v1,v9,rfl,h1,h2,h3⟩
  simp only [orK_inl,decide_true,cond_true]
  have b1:v9.length+v0.length≤maxLen∧(v9.length+v0.length) * 32≤140737488355328 := by unfold maxLen; omega
  have b2:(v9 ++ v0).length+v1.length≤maxLen∧((v9 ++ v0).length+v1.length) * 32≤140737488355328 := by unfold maxLen; simp; omega
  simp only [b1,b2,and_self,decide_true,cond_true]
  rcases h1 with rfl | rfl
  · rw [merge_nil] at h2; simp [h2]
  · rw [merge_nil'] at h2; simp [h2]
def SP (l:List Pr):Prop := l.Pairwise fun a b=>a.1<b.1
theorem tab_iff (l:List Pr):tabI l=true ↔ (∀ x ∈ l,okP x=true)∧SP l∧l.length≤256 := by
  unfold tabI
  simp only [Bool.and_eq_true,List.all_eq_true,List.mem_range,decide_eq_true_eq]
  constructor
  · rintro ⟨h1,h2⟩
    refine ⟨fun x hx => ?_,?_,h2⟩
    · obtain ⟨i,hi,rfl⟩ := List.getElem_of_mem hx
      have := h1 i hi
      unfold rowOK at this
      rw [getD_lt hi] at this
      simp only [Bool.and_eq_true] at this
      exact this.2
    · have step:∀ i (hi:i+1<l.length),(l[i]'(by omega)).1<l[i+1].1 := fun i hi=>by
        have := h1 (i+1) hi
        unfold rowOK at this
        simp only [Bool.and_eq_true] at this
        have h3 := this.1
        rw [show i+1-1=i by omega,getD_lt hi,getD_lt (show i<l.length by omega)] at h3
        simpa using h3
      unfold SP
      rw [List.pairwise_iff_getElem]
      have key:∀ d i (hi:i+d+1<l.length),(l[i]'(by omega)).1<(l[i+d+1]'hi).1 := by
        intro d
        induction d with
        | zero=>intro i hi; exact step i hi
        | succ d ih =>
          intro i hi
          have h1 := ih i (by omega)
          have h2 := step (i+d+1) (by omega)
          have e:i+(d+1)+1=i+d+1+1 := by omega
          simp only [e]
          omega
      intro i j hi hj hij
      have := key (j-i-1) i (by omega)
      have e:i+(j-i-1)+1=j := by omega
      simp only [e] at this
      exact this
  · rintro ⟨h1,h2,h3⟩
    refine ⟨fun i hi => ?_,h3⟩
    unfold rowOK
    rw [getD_lt hi]
    simp only [Bool.and_eq_true]
    refine ⟨?_,h1 _ (List.getElem_mem _)⟩
    cases i with
    | zero=>rfl
    | succ i =>
      have := (List.pairwise_iff_getElem.1 h2) i (i+1) (by omega) hi (by omega)
      rw [show i+1-1=i by omega,getD_lt (show i<l.length by omega)]
      simp [this]
def ins (l:List Pr) (x:Pr):List Pr := merge newest l [x]
theorem ins_nil (x:Pr):ins [] x=[x] := merge_nil _ _
theorem ins_cons (y x:Pr) (l:List Pr):ins (y :: l) x=if y.1<x.1 then y :: ins l x else if y.1>x.1 then x :: y :: l else x :: l := by
  unfold ins
  rw [merge_cons,merge_nil',merge_nil']; rfl
theorem ins_mem {x z:Pr}:∀ {l:List Pr},z ∈ ins l x→z=x ∨ z ∈ l
  | [],h=>by rw [ins_nil] at h; exact .inl (by simpa using h)
  | y :: l,h=>by
    rw [ins_cons] at h
    split at h
    · rcases List.mem_cons.1 h with rfl | h
      · exact .inr (List.mem_cons_self ..)
      · rcases ins_mem h with h | h
        · exact .inl h
        · exact .inr (List.mem_cons_of_mem _ h)
    · split at h
      · rcases List.mem_cons.1 h with h | h
        · exact .inl h
        · exact .inr h
      · rcases List.mem_cons.1 h with h | h
        · exact .inl h
        · exact .inr (List.mem_cons_of_mem _ h)
theorem ins_sp {x:Pr}:∀ {l:List Pr},SP l→SP (ins l x)
  | [],_=>by rw [ins_nil]; exact List.pairwise_singleton ..
  | y :: l,h=>by
    rw [ins_cons]
    have h' := List.pairwise_cons.1 h
    split
    · rename_i c
      refine List.pairwise_cons.2 ⟨fun z hz => ?_,ins_sp h'.2⟩
      rcases ins_mem hz with rfl | hz
      · exact c
      · exact h'.1 z hz
    · split
      · rename_i c1 c2
        refine List.pairwise_cons.2 ⟨fun z hz => ?_,h⟩
        rcases List.mem_cons.1 hz with rfl | hz
        · exact c2
        · have := h'.1 z hz; omega
      · rename_i c1 c2
        refine List.pairwise_cons.2 ⟨fun z hz => ?_,h'.2⟩
        have := h'.1 z hz; omega
theorem find_cons (y:Pr) (l:List Pr) (id:Int):find (y :: l) id=if y.1=id then some y else find l id := by
  unfold find
  rw [List.find?_cons]
  by_cases h:y.1=id
  · simp [h]
  · have:(y.1==id)=false := by simpa using h
    simp [h,this]
theorem ins_find (x:Pr) (id:Int):∀ l:List Pr,find (ins l x) id=if x.1=id then some x else find l id
  | []=>by rw [ins_nil,find_cons]
  | y :: l=>by
    rw [ins_cons,find_cons]
    split
    · rename_i c
      rw [find_cons,ins_find x id l]
      by_cases h:y.1=id
      · rw [if_pos h,if_neg (by omega),if_pos h]
      · rw [if_neg h]
        by_cases h2:x.1=id
        · rw [if_pos h2,if_pos h2]
        · rw [if_neg h2,if_neg h2,if_neg h]
    · split
      · rw [find_cons,find_cons]
      · rename_i c1 c2
        rw [find_cons]
        by_cases h2:x.1=id
        · rw [if_pos h2,if_pos h2]
        · rw [if_neg h2,if_neg h2,if_neg (by omega)]
theorem ins_tab {l:List Pr} {x:Pr} (h:tabI l=true) (hx:okP x=true) (hl:(ins l x).length≤256):tabI (ins l x)=true := by
  rw [tab_iff] at h ⊢
  refine ⟨fun z hz => ?_,ins_sp h.2.1,hl⟩
  rcases ins_mem hz with rfl | hz
  · exact hx
  · exact h.1 z hz
def putS (l:List Pr) (x:Pr):List Pr×Int :=
  if tabI l=false then ([],1) else if (judge l x.1 x.2.1).1=4 then ([],151) else if (judge l x.1 x.2.1).1=2 then ([],152) else if (judge l x.1 x.2.1).1=3 then ([],152)
  else if (ins l x).length>256 then ([],153) else (ins l x,0)
theorem p160_is (l:List Pr) (x:Pr) (hl:l.length≤9223372036854775806) (hf:l.length+1<fu):p160 fu (l,(x.1,x.2.1,x.2.2.1,x.2.2.2,()),())=some ((),((putS l x).1,(putS l x).2,())) := by
  unfold p160 putS
  have e16 := p38_is (fu := fu) l hl (by omega)
  have e11 := p157_is (fu := fu) l x.1 x.2.1 hl (by omega)
  simp only [e16,bind_val]
  cases ht:tabI l with
  | false=>simp
  | true =>
    have h256:l.length≤256 := ((tab_iff l).1 ht).2.2
    simp only [Bool.not_true,cond_false,e11,bind_val,Bool.true_eq_false,if_false]
    by_cases h4:(judge l x.1 x.2.1).1=4
    · simp [h4]
    · by_cases h2:(judge l x.1 x.2.1).1=2
      · simp [h2]
      · by_cases h3:(judge l x.1 x.2.1).1=3
        · simp [h3]
        · have e4:((judge l x.1 x.2.1).1==(4:Int))=false := by simpa using h4
          have e2:((judge l x.1 x.2.1).1==(2:Int))=false := by simpa using h2
          have e3:((judge l x.1 x.2.1).1==(3:Int))=false := by simpa using h3
          have hm := p168_is (fu := fu) l [x] (by simp; omega) (by simpa using hf)
          simp only [e4,e2,e3,h4,h2,h3,cond_false,if_false]
          have hm':p168 fu (l,[(x.1,x.2.1,x.2.2.1,x.2.2.2)],((),()),((),()),())=some ((),ins l x) := hm
          simp only [hm',bind_val,decide_true,cond_true,p167_1]
          by_cases h5:(ins l x).length>256
          · have h5':((ins l x).length:Int)>256 := by omega
            simp [h5,h5']
          · have h5':¬ ((ins l x).length:Int)>256 := by omega
            simp [h5,h5']
theorem p148_is (l:List Pr) (id seq off:Int) (hl:l.length≤9223372036854775806) (hf:l.length+1<fu):p148 fu (l,id,seq,off,())=some ((),((putS l (id,seq,true,off)).1,(putS l (id,seq,true,off)).2,())) := by
  unfold p148
  have := p160_is (fu := fu) l (id,seq,true,off) hl hf
  simp only at this
  simp only [this,bind_val,decide_true,cond_true]
theorem p71_refl (l:List Pr) (hl:l.length≤9223372036854775806) (hf:l.length<fu):p71 fu (l,l,())=some ((),true) := by
  unfold p71
  simp only [bne_self_eq_false,cond_false]
  refine loopO_eq (I := fun s => ∃ i:Nat,s=(((i:Int),()),())∧i≤l.length) (m := fun s=>l.length-s.1.1.toNat) (g := fun _=>((),true)) ?_ fu _ ⟨0,rfl,Nat.zero_le _⟩ (by simpa using hf)
  rintro s ⟨i,rfl,h1⟩
  by_cases hi:i<l.length
  · left
    refine ⟨((((i+1:Nat):Int),()),()),?_,⟨i+1,rfl,hi⟩,by simp only [Int.toNat_natCast]; omega,rfl⟩
    simp only [Int.ofNat_lt,hi,decide_true,cond_true,Int.natCast_nonneg,true_and,Int.toNat_natCast,beq_self_eq_true,Bool.and_self,Bool.not_true,cond_false,i64_succ hi (by omega)]
  · right
    obtain rfl:i=l.length := by omega
    simp [inrO]
theorem p151_is (l:List Pr) (id seq:Int) (hl:l.length≤9223372036854775806) (hf:l.length+1<fu):p151 fu (l,id,seq,())=some ((),((putS l (id,seq,false,0)).1,(putS l (id,seq,false,0)).2,())) := by
  unfold p151
  have := p160_is (fu := fu) l (id,seq,false,0) hl hf
  simp only at this
  simp only [this,bind_val,decide_true,cond_true]
end
section
variable {fu:Nat}
theorem p144_is (a b:List Int) (h:a.length+b.length≤140737488355328):p144 fu ((a,()),b,())=some (((a ++ b,()),(),()),b) := by
  unfold p144
  cases b with
  | nil=>simp
  | cons c b =>
    have h0:(((c :: b).length:Int)==0)=false := by simp; omega
    have h1:a.length+(c :: b).length≤maxLen∧(a.length+(c :: b).length) * 1≤140737488355328 := ⟨by unfold maxLen; omega,by omega⟩
    have h2:slice' (a ++ c :: b) a.length (some (a ++ c :: b).length)=c :: b := by
      cases a with
      | nil=>simp [slice']
      | cons x a=>simp [slice']
    have h3:a.length≤(a ++ c :: b).length∧(a ++ c :: b).length≤(a ++ c :: b).length∧(a ++ c :: b).length≤(a ++ c :: b).length∧0+(a ++ c :: b).length≤(a ++ c :: b).length := by simp
    simp only [h0,cond_false,h1,and_self,decide_true,cond_true,Int.natCast_nonneg,Int.toNat_natCast,h3,h2]
theorem p143_is (x:Rd) (r:List Int) (hd:r.length+x.2.2.1.length≤140737488355328) :
    p143 fu ((x.1,x.2.1,x.2.2.1,x.2.2.2.1,x.2.2.2.2,()),((r,()),()),())=some ((((),()),(r ++ x.2.2.1,()),(),()),(x.1,x.2.1,x.2.2.1,x.2.2.2.1,x.2.2.2.2,())) := by
  unfold p143
  simp only [p144_is _ _ hd,bind_val,decide_true,cond_true]
def valsR (l:List Rd):List Int := l.flatMap fun x=>x.2.2.1
theorem valsR_app (a b:List Rd):valsR (a ++ b)=valsR a ++ valsR b := List.flatMap_append
theorem valsR_snoc (l:List Rd) (x:Rd):valsR (l ++ [x])=valsR l ++ x.2.2.1 := by simp [valsR]
def fitsR (l:List Rd):Prop := l.length * 64≤140737488355328∧(valsR l).length≤140737488355328
theorem take_snoc' {α:Type} {l:List α} {i:Nat} (h:i<l.length) (d:α):l.take (i+1)=l.take i ++ [l.getD i d] := by
  rw [List.take_add_one,List.getD_eq_getElem?_getD,List.getElem?_eq_getElem h]; rfl
theorem valsR_take {l:List Rd} {i:Nat} (h:i<l.length):(valsR (l.take i)).length+(l.getD i (dflt T_api_Record)).2.2.1.length≤(valsR l).length := by
  have h1 := congrArg valsR (take_snoc' h (dflt T_api_Record))
  rw [valsR_snoc] at h1
  have h2:valsR l=valsR (l.take (i+1)) ++ valsR (l.drop (i+1)) := by rw [← valsR_app,List.take_append_drop]
  rw [h2,h1]
  simp only [List.length_append]
  omega
theorem p142_is (l:List Rd) (h:fitsR l) (hf:l.length<fu):p142 fu (l,((),(((([]:List Int),()),()),())),())=some ((((),()),(valsR l,()),(),()),l) := by
  unfold p142
  obtain ⟨h1,h2⟩ := h
  cases hl0:l with
  | nil=>rfl
  | cons a0 l0 =>
    rw [← hl0]
    have h0:((l.length:Int)==0)=false := by rw [hl0]; simp; omega
    have h4:(0:Int)≤(l.length:Int)∧(l.length:Int)≤(l.length:Int)∧(l.length:Int)≤9223372036854775807∧(64:Int) * (l.length:Int)≤140737488355328 := by omega
    simp only [h0,cond_false,h4,and_self,decide_true,cond_true,Int.toNat_natCast,List.length_replicate]
    refine loopO_eq (I := fun s => ∃ i:Nat,s=((l.take i ++ List.replicate (l.length-i) (dflt T_api_Record),(i:Int),()),(((),()),(valsR (l.take i),()),()))∧i≤l.length)
      (m := fun s=>l.length-s.1.2.1.toNat) (g := fun _=>((((),()),(valsR l,()),(),()),l)) ?_ fu _ ⟨0,by simp only [List.take_zero,List.nil_append,Nat.sub_zero,valsR,List.flatMap_nil]; rfl,Nat.zero_le _⟩ (by simpa using hf)
    rintro s ⟨i,rfl,hi⟩
    by_cases hi':i<l.length
    · left
      have hx := valsR_take hi'
      have e52 := p143_is (fu := fu) (l.getD i (dflt T_api_Record)) (valsR (l.take i)) (by omega)
      have hlen:(l.take i ++ List.replicate (l.length-i) (dflt T_api_Record)).length=l.length := by simp; omega
      refine ⟨((l.take (i+1) ++ List.replicate (l.length-(i+1)) (dflt T_api_Record),((i+1:Nat):Int),()),(((),()),(valsR (l.take (i+1)),()),())),?_,⟨i+1,rfl,hi'⟩,by simp only [Int.toNat_natCast]; omega,rfl⟩
      have hs:(l.take i ++ List.replicate (l.length-i) (dflt T_api_Record)).set i (l.getD i (dflt T_api_Record))=l.take (i+1) ++ List.replicate (l.length-(i+1)) (dflt T_api_Record) := by
        have ht:(l.take i).length=i := by simp; omega
        rw [List.set_append_right _ _ (by omega),ht,Nat.sub_self,show l.length-i=(l.length-(i+1))+1 by omega,List.replicate_succ,List.set_cons_zero,take_snoc' hi' (dflt T_api_Record)]
        simp
      rw [take_snoc' hi' (dflt T_api_Record),valsR_snoc,← take_snoc' hi' (dflt T_api_Record),← hs]
      simp only [Int.ofNat_lt,hi',decide_true,cond_true,Int.natCast_nonneg,true_and,and_self,Int.toNat_natCast,e52,bind_val,hlen,List.length_set,i64_succ hi' (show l.length≤9223372036854775807 by omega)]
    · right
      obtain rfl:i=l.length := by omega
      simp [inrO]
theorem p141_is (n:Nat) (h:n≤140737488355328):p141 fu ((n:Int),())=some ((),([],())) := by
  unfold p141
  have h1:(0:Int)≤0∧(0:Int)≤(n:Int)∧(n:Int)≤9223372036854775807∧(1:Int) * (n:Int)≤140737488355328 := by omega
  simp only [h1,and_self,decide_true,cond_true]; rfl
theorem p110_is (l:List Rd) (h:fitsR l) (hf:l.length<fu):p110 fu (l,())=some ((),l) := by
  unfold p110
  refine loopO_eq (I := fun s => ∃ i:Nat,s=((((valsR (l.take i)).length:Int),(i:Int),()),())∧i≤l.length) (m := fun s=>l.length-s.1.2.1.toNat) (g := fun _=>((),l)) ?_ fu _ ⟨0,by simp [valsR],Nat.zero_le _⟩ (by simpa using hf)
  rintro s ⟨i,rfl,hi⟩
  have h1 := h.1
  have h2 := h.2
  by_cases hi':i<l.length
  · left
    have hx := valsR_take hi'
    refine ⟨((((valsR (l.take (i+1))).length:Int),((i+1:Nat):Int),()),()),?_,⟨i+1,rfl,hi'⟩,by simp only [Int.toNat_natCast]; omega,rfl⟩
    have hw:IntKind.wrap .i64 (((valsR (l.take i)).length:Int)+((l.getD i (dflt T_api_Record)).2.2.1.length:Int))=((valsR (l.take (i+1))).length:Int) := by
      rw [take_snoc' hi' (dflt T_api_Record),valsR_snoc,i64_wrap (by omega) (by omega),List.length_append]; omega
    simp only [Int.ofNat_lt,hi',decide_true,cond_true,Int.natCast_nonneg,true_and,and_self,Int.toNat_natCast,hw,i64_succ hi' (show l.length≤9223372036854775807 by omega)]
  · right
    obtain rfl:i=l.length := by omega
    rw [List.take_length]
    simp only [Int.lt_irrefl,decide_false,cond_false,p141_is (fu := fu) _ h2,bind_val,decide_true,cond_true,p142_is l h hf,inrO_val]
theorem p111_is (l:List Pr) (h:l.length≤2097152):p111 fu (l,())=some ((),l) := by
  unfold p111
  cases l with
  | nil=>rfl
  | cons a l =>
    have h0:(((a :: l).length:Int)==0)=false := by simp; omega
    have h1:(0:Int)≤((a :: l).length:Int)∧((a :: l).length:Int)≤((a :: l).length:Int)∧((a :: l).length:Int)≤9223372036854775807∧(32:Int) * ((a :: l).length:Int)≤140737488355328 := by omega
    simp only [h0,cond_false,h1,and_self,decide_true,cond_true,Int.toNat_natCast,List.length_replicate,copyL_all]
theorem logOk_parts {l:List Rd} (h:logOk l=true):l.length≤4096 ∧ ∀ i (hi:i<l.length),l[i].1=(i:Int)∧l[i].2.1.size≤32∧l[i].2.2.1.length≤256 := by
  unfold logOk at h
  cases ha:(List.range l.length).any (wrong l) with
  | true=>rw [ha] at h; cases h
  | false =>
    rw [ha] at h
    refine ⟨by simpa using h,fun i hi => ?_⟩
    rw [List.any_eq_false] at ha
    have hw := ha i (List.mem_range.2 hi)
    unfold wrong at hw
    rw [getD_lt hi] at hw
    by_cases h1:l[i].1=(i:Int)
    · by_cases h2:l[i].2.1.size≤32
      · refine ⟨h1,h2,?_⟩
        have g2:¬ l[i].2.1.size>32 := by omega
        simpa [h1,g2] using hw
      · have g2:l[i].2.1.size>32 := by omega
        simp [h1,g2] at hw
    · have g1:(l[i].1 != (i:Int))=true := by simpa using h1
      simp [g1] at hw
theorem valsR_le {l:List Rd} (h:∀ x ∈ l,x.2.2.1.length≤256):(valsR l).length≤l.length * 256 := by
  induction l with
  | nil=>simp [valsR]
  | cons x l ih =>
    have h1 := h x (List.mem_cons_self ..)
    have h2 := ih fun y hy=>h y (List.mem_cons_of_mem _ hy)
    have e:(valsR (x :: l)).length=x.2.2.1.length+(valsR l).length := by simp [valsR]
    rw [e,List.length_cons]
    omega
theorem logOk_fits {l:List Rd} (h:logOk l=true):fitsR l := by
  obtain ⟨h1,h2⟩ := logOk_parts h
  have h3 := valsR_le (l := l) fun x hx=>by
    obtain ⟨i,hi,rfl⟩ := List.getElem_of_mem hx
    exact (h2 i hi).2.2
  exact ⟨by omega,by omega⟩
theorem fitsR_sub {l m:List Rd} (h:logOk l=true) (hm:∀ x ∈ m,x ∈ l) (hn:m.length≤4096):fitsR m := by
  obtain ⟨h1,h2⟩ := logOk_parts h
  have h3 := valsR_le (l := m) fun x hx=>by
    obtain ⟨i,hi,rfl⟩ := List.getElem_of_mem (hm x hx)
    exact (h2 i hi).2.2
  exact ⟨by omega,by omega⟩
theorem p147_is (l:List Rd) (x:Rd) (hl:logOk l=true) (hk:x.2.1.size≤32) (hv:x.2.2.1.length≤256) (hf:4194304<fu) :
    p147 fu (l,(x.1,x.2.1,x.2.2.1,x.2.2.2.1,x.2.2.2.2,()),())=some ((),if l.length<4096 then (l ++ [numR l x],(l.length:Int),0,()) else ([],0,143,())) := by
  have hn := (logOk_parts hl).1
  have g1:¬ x.2.1.size>32 := by omega
  have g2:¬ x.2.2.1.length>256 := by omega
  unfold p147
  simp only [p37_is l (by omega) hf,bind_val,hl,Bool.not_true,cond_false,p99_is,g1,g2,decide_false,show ((0:Int) != 0)=false from rfl]
  by_cases h:l.length<4096
  · have h':¬ (l.length:Int)≥4096 := by omega
    simp only [h,h',if_true,decide_false,cond_false,p110_is l (logOk_fits hl) (show l.length<fu by omega),bind_val,decide_true,cond_true,p159_is l x (by omega) (by omega),u64_wrap (x := (l.length:Int)) (by omega) (by omega)]
  · have h':(l.length:Int)≥4096 := by omega
    simp only [h,h',if_false,decide_true,cond_true]
theorem slice_none {α:Type} (l:List α) (n:Nat):slice' l n none=l.drop n := by
  cases n with
  | zero=>rfl
  | succ n=>rfl
theorem p149_is (l:List Rd) (c f:Int) (hl:logOk l=true) (h0:0≤c) (hf:4194304<fu) :
    p149 fu (l,c,f,())=some ((),if c≤(l.length:Int) then ((l.drop c.toNat).take (min (min f.toNat 64) (l.length-c.toNat)),0,()) else ([],141,())) := by
  have hn := (logOk_parts hl).1
  unfold p149
  simp only [p37_is l (by omega) hf,bind_val,hl,Bool.not_true,cond_false,u64_wrap (x := (l.length:Int)) (by omega) (by omega)]
  by_cases h:c≤(l.length:Int)
  · have h1:¬ c>(l.length:Int) := by omega
    have h2:c.toNat≤l.length := by omega
    have hs:(slice' l c.toNat none).length=l.length-c.toNat := by rw [slice_none]; simp
    have hz:(if ((l.length-c.toNat:Nat):Int)<(if (64:Int)<(if (0:Int)>f then (0:Int) else f) then (64:Int) else (if (0:Int)>f then (0:Int) else f)) then ((l.length-c.toNat:Nat):Int) else (if (64:Int)<(if (0:Int)>f then (0:Int) else f) then (64:Int) else (if (0:Int)>f then (0:Int) else f)))=((min (min f.toNat 64) (l.length-c.toNat):Nat):Int) := by
      split <;> split <;> (try split) <;> (try split) <;> omega
    simp only [hs]
    simp only [h,h1,h0,h2,if_true,decide_true,decide_false,cond_true,cond_false,hz,Int.natCast_nonneg,Int.toNat_natCast,hs,Nat.zero_le,true_and,Nat.min_le_right]
    rw [slice_none,p110_is _ (fitsR_sub hl (fun x hx=>List.drop_subset _ _ (List.take_subset _ _ hx)) (by simp; omega)) (by simp; omega)]
    simp only [bind_val,decide_true,cond_true]
  · have h1:c>(l.length:Int) := by omega
    simp only [h,h1,if_false,decide_true,cond_true]
def AtP (l:List Pr) (c:Int) (n:Nat):Prop := n≤l.length∧(∀ k (h:k<l.length),k<n→l[k].1<c) ∧ ∀ k (h:k<l.length),n≤k → ¬ l[k].1<c
theorem atP_some (c:Int):∀ l:List Pr,SP l → ∃ n,AtP l c n
  | [],_=>⟨0,Nat.le_refl _,fun k h=>absurd h (Nat.not_lt_zero _),fun k h=>absurd h (Nat.not_lt_zero _)⟩
  | x :: l,hr=>by
    obtain ⟨hx,hr'⟩ := List.pairwise_cons.1 hr
    by_cases h:x.1<c
    · obtain ⟨n,h1,h2,h3⟩ := atP_some c l hr'
      refine ⟨n+1,Nat.succ_le_succ h1,fun k hk hn => ?_,fun k hk hn => ?_⟩
      · cases k with
        | zero=>exact h
        | succ k=>exact h2 k (Nat.lt_of_succ_lt_succ hk) (by omega)
      · cases k with
        | zero=>omega
        | succ k=>exact h3 k (Nat.lt_of_succ_lt_succ hk) (by omega)
    · refine ⟨0,Nat.zero_le _,fun k hk hn=>absurd hn (Nat.not_lt_zero _),fun k hk _ => ?_⟩
      cases k with
      | zero=>exact h
      | succ k =>
        have := hx _ (List.getElem_mem (Nat.lt_of_succ_lt_succ hk))
        simp only [List.getElem_cons_succ]
        omega
theorem p104_is (x:Pr) (c:Int):p104 fu ((x.1,x.2.1,x.2.2.1,x.2.2.2,()),c,())=some ((),cmpZ x.1 c) := by
  unfold p104
  simp only [p105_is,bind_val]
theorem p103_is (l:List Pr) (c:Int) (n:Nat) (hl:l.length≤2097152) (hf:4194304<fu) (ha:AtP l c n) :
    p103 fu (l,c,((),()),())=some ((),(n:Int),(if h:n<l.length then decide (l[n].1=c) else false),()) := by
  obtain ⟨hn,ha1,ha2⟩ := ha
  unfold p103
  refine loop_val (I := fun s => ∃ h i:Nat,s=(((h:Int),(i:Int),()),())∧h≤n∧n≤i∧i≤l.length) (m := fun s=>Int.toNat s.1.2.1-Int.toNat s.1.1) ⟨0,l.length,rfl,Nat.zero_le _,hn,Nat.le_refl _⟩ (by simp only [Int.toNat_natCast]; omega) fun s hs => ?_
  obtain ⟨h,i,rfl,h1,h2,h3⟩ := hs
  by_cases hlt:h<i
  · have hm:(h+i) / 2<l.length := by omega
    have hg:∀ d,l.getD ((h+i) / 2) d=l[(h+i) / 2] := fun d=>getD_lt hm
    simp only [mid_is (lo := h) (hi := i) (by omega),Int.ofNat_lt,hlt,Int.natCast_nonneg,hm,decide_true,cond_true,and_self,Int.toNat_natCast,hg,p104_is,bind_val,cmpZ_neg]
    by_cases hc:l[(h+i) / 2].1<c
    · simp only [hc,decide_true,cond_true,i64_succ hm (by omega)]
      refine ⟨_,rfl,⟨_,_,rfl,?_,h2,h3⟩,by simp only [Int.toNat_natCast]; omega⟩
      rcases Nat.lt_or_ge ((h+i) / 2) n with g | g
      · exact g
      · exact absurd hc (ha2 _ hm g)
    · simp only [hc,decide_false,cond_false]
      refine ⟨_,rfl,⟨_,_,rfl,h1,?_,by omega⟩,by simp only [Int.toNat_natCast]; omega⟩
      rcases Nat.lt_or_ge ((h+i) / 2) n with g | g
      · exact absurd (ha1 _ hm g) hc
      · exact g
  · obtain rfl:h=n := by omega
    simp only [Int.ofNat_lt,hlt,decide_false,cond_false]
    by_cases hm:h<l.length
    · have hg:∀ d,l.getD h d=l[h] := fun d=>getD_lt hm
      simp only [hm,Int.natCast_nonneg,decide_true,cond_true,and_self,Int.toNat_natCast,hg,p104_is,bind_val,dite_true]
      refine ⟨_,rfl,?_⟩
      have:(cmpZ l[h].1 c==0)=decide (l[h].1=c) := by
        have h5 := ha2 _ hm (Nat.le_refl _)
        unfold cmpZ
        by_cases hx:l[h].1>c
        · have:¬ l[h].1=c := by omega
          simp [h5,hx,this]
        · have:l[h].1=c := by omega
          simp [this]
      rw [this]
    · simp only [hm,decide_false,cond_false,dite_false]
      exact ⟨_,rfl,rfl⟩
theorem p103_find (l:List Pr) (c:Int) (hl:l.length≤2097152) (hf:4194304<fu) (hs:SP l) :
    ∃ n:Nat,p103 fu (l,c,((),()),())=some ((),(n:Int),decide (findI l c<l.length),())∧(findI l c<l.length→n=findI l c) := by
  obtain ⟨n,hn⟩ := atP_some c l hs
  have key:(if h:n<l.length then decide (l[n].1=c) else false)=decide (findI l c<l.length)∧(findI l c<l.length→n=findI l c) := by
    by_cases hk:findI l c<l.length
    · have e1:l[findI l c].1=c := by
        have hw:findI l c<l.length := hk
        have := List.findIdx_getElem (w := hw)
        have h2:l[List.findIdx (fun x=>x.1==c) l].1=c := by simpa using this
        exact h2
      have e2:n=findI l c := by
        rcases Nat.lt_trichotomy n (findI l c) with g | g | g
        · have hnl:n<l.length := by omega
          have h1 := hn.2.2 n hnl (Nat.le_refl _)
          have h2 := List.pairwise_iff_getElem.1 hs n (findI l c) hnl hk g
          omega
        · exact g
        · have := hn.2.1 _ hk g
          omega
      subst e2
      simp [hk,e1]
    · have hne:∀ h:n<l.length,¬ l[n].1=c := fun h e=>by
        have := findI_le l c
        have h1:findI l c≤n := by
          rcases Nat.lt_or_ge n (findI l c) with g | g
          · have := List.not_of_lt_findIdx g
            rw [e] at this
            simp at this
          · exact g
        omega
      refine ⟨?_,fun h=>absurd h hk⟩
      by_cases h:n<l.length
      · simp [h,hne h,hk]
      · simp [h,hk]
  refine ⟨n,?_,key.2⟩
  rw [p103_is l c n hl hf hn,key.1]
end
section
variable {fu:Nat}
def noPr:Pr := (0,0,false,0)
def lastS (rs:List Rd) (id:Int):Int := rs.foldl (fun a x=>if x.2.2.2.1=id then x.2.2.2.2 else a) 0
theorem lastS_snoc (rs:List Rd) (x:Rd) (id:Int):lastS (rs ++ [x]) id=if x.2.2.2.1=id then x.2.2.2.2 else lastS rs id := by
  unfold lastS
  rw [List.foldl_append]
  rfl
def recOk1 (lo hi:ByteArray) (ps:List Pr) (before:List Rd) (x:Rd):Bool :=
  decide (findI ps x.2.2.2.1<ps.length) && (hasB lo hi x.2.1 && (decide (lastS before x.2.2.2.1<x.2.2.2.2) && decide (x.2.2.2.2≤(ps.getD (findI ps x.2.2.2.1) noPr).2.1)))
def recOk (lo hi:ByteArray) (ps:List Pr) (l:List Rd) (j:Nat):Bool := recOk1 lo hi ps (l.take j) (l.getD j noRec)
def lastL (ps:List Pr) (l:List Rd) (i:Nat):List Int := ps.map fun y=>lastS (l.take i) y.1
theorem find_id {ps:List Pr} {id:Int} (hk:findI ps id<ps.length):(ps[findI ps id]).1=id := by
  have hw:findI ps id<ps.length := hk
  have := List.findIdx_getElem (w := hw)
  have h2:ps[List.findIdx (fun x=>x.1==id) ps].1=id := by simpa using this
  exact h2
theorem sp_inj {ps:List Pr} (hs:SP ps) {i j:Nat} (hi:i<ps.length) (hj:j<ps.length) (h:ps[i].1=ps[j].1):i=j := by
  rcases Nat.lt_trichotomy i j with g | g | g
  · have := List.pairwise_iff_getElem.1 hs i j hi hj g; omega
  · exact g
  · have := List.pairwise_iff_getElem.1 hs j i hj hi g; omega
theorem last_set {ps:List Pr} (hs:SP ps) {id s:Int} (F:Int→Int) (hk:findI ps id<ps.length) :
    (ps.map fun y=>F y.1).set (findI ps id) s=ps.map fun y=>if id=y.1 then s else F y.1 := by
  apply List.ext_getElem
  · simp
  · intro j h1 h2
    have hj:j<ps.length := by simpa using h2
    rw [List.getElem_set,List.getElem_map,List.getElem_map]
    by_cases e:findI ps id=j
    · subst e
      simp [find_id hk]
    · have:¬ id=ps[j].1 := fun g=>e (sp_inj hs hk hj ((find_id hk).trans g))
      simp [e,this]
theorem lastL_get {ps:List Pr} {l:List Rd} {i:Nat} {id:Int} (hk:findI ps id<ps.length) (d:Int):(lastL ps l i).getD (findI ps id) d=lastS (l.take i) id := by
  have hlen:findI ps id<(ps.map fun y=>lastS (l.take i) y.1).length := by simpa using hk
  show (ps.map fun y=>lastS (l.take i) y.1).getD _ d=_
  rw [getD_lt hlen,List.getElem_map,find_id hk]
theorem lastL_succ {ps:List Pr} {l:List Rd} {i:Nat} (hs:SP ps) (hi:i<l.length) (hk:findI ps l[i].2.2.2.1<ps.length) :
    (lastL ps l i).set (findI ps l[i].2.2.2.1) l[i].2.2.2.2=lastL ps l (i+1) := by
  unfold lastL
  rw [last_set hs (fun id=>lastS (l.take i) id) hk]
  apply List.map_congr_left
  intro y _
  rw [take_snoc' hi noRec,getD_lt hi,lastS_snoc]
theorem p40_is (lo up:ByteArray) (e z:Int) (l:List Rd) (ps:List Pr) (cs:List Cn) (hl:l.length≤2097152) (hp:ps.length≤2097152) (hs:SP ps) (hf:4194304<fu) :
    p40 fu ((lo,up,e,z,l,ps,cs,()),())=some ((),(List.range l.length).all (recOk lo up ps l)) := by
  unfold p40
  have h1:(0:Int)≤(ps.length:Int)∧(ps.length:Int)≤(ps.length:Int)∧(ps.length:Int)≤9223372036854775807∧(8:Int) * (ps.length:Int)≤140737488355328 := by omega
  simp only [h1,and_self,decide_true,cond_true,Int.toNat_natCast,List.length_replicate]
  have e0:((List.replicate ps.length (0:Int),(0:Int),()),())=(fun i:Nat=>((lastL ps l i,(i:Int),()),())) 0 := by
    simp only [lastL,List.take_zero,lastS,List.foldl_nil,List.map_const']
    rfl
  rw [e0]
  refine loop_for (List.range l.length) (fun i:Nat=>((lastL ps l i,(i:Int),()),())) (fun j => !recOk lo up ps l j) ((),false) ((),true) (by simp; omega) (fun i h => ?_) ?_ ?_
  · have hi:i<l.length := by simpa using h
    have hll:(lastL ps l i).length=ps.length := by simp [lastL]
    obtain ⟨n,e1,e2⟩ := p103_find (fu := fu) ps l[i].2.2.2.1 hp hf hs
    have hg:∀ d,l.getD i d=l[i] := fun d=>getD_lt hi
    simp only [Int.ofNat_lt,hi,decide_true,cond_true,Int.natCast_nonneg,true_and,Int.toNat_natCast,hg,e1,bind_val,List.getElem_range,p106_is,recOk,recOk1]
    by_cases hk:findI ps l[i].2.2.2.1<ps.length
    · obtain rfl := e2 hk
      have hgp:∀ d,ps.getD (findI ps l[i].2.2.2.1) d=ps[findI ps l[i].2.2.2.1] := fun d=>getD_lt hk
      simp only [hk,decide_true,Bool.not_true,cond_false,Bool.true_and]
      cases hh:hasB lo up l[i].2.1 with
      | false=>simp only [Bool.not_false,cond_true,Bool.false_and,inrO_val]
      | true =>
        simp only [Bool.not_true,cond_false,Bool.true_and,hll,Int.ofNat_lt,hk,and_self,Int.natCast_nonneg,decide_true,cond_true,Int.toNat_natCast,lastL_get hk,hgp,List.length_set]
        by_cases h3:lastS (l.take i) l[i].2.2.2.1<l[i].2.2.2.2
        · have h3':¬ l[i].2.2.2.2≤lastS (l.take i) l[i].2.2.2.1 := by omega
          by_cases h4:l[i].2.2.2.2≤(ps[findI ps l[i].2.2.2.1]).2.1
          · have h4':¬ l[i].2.2.2.2>(ps[findI ps l[i].2.2.2.1]).2.1 := by omega
            simp only [h3,h3',h4,h4',decide_true,decide_false,cond_false,Bool.and_self,Bool.not_true,lastL_succ hs hi hk,i64_succ hi (by omega)]
          · have h4':l[i].2.2.2.2>(ps[findI ps l[i].2.2.2.1]).2.1 := by omega
            simp only [h3,h3',h4,h4',decide_true,decide_false,cond_false,cond_true,Bool.and_false,Bool.not_false,inrO_val]
        · have h3':l[i].2.2.2.2≤lastS (l.take i) l[i].2.2.2.1 := by omega
          simp only [h3,h3',decide_true,decide_false,cond_true,Bool.false_and,Bool.not_false,inrO_val]
    · simp only [hk,decide_false,Bool.not_false,cond_true,Bool.false_and,inrO_val]
  · simp only [List.length_range,Int.lt_irrefl,decide_false,cond_false,inrO_val]
  · rw [← List.not_all_eq_any_not]
    cases (List.range l.length).all (recOk lo up ps l) <;> rfl
def proOk (l:List Rd) (y:Pr):Bool := !y.2.2.1||(decide (y.2.2.2<(l.length:Int)) && ((l.getD y.2.2.2.toNat noRec).2.2.2.1==y.1 && (l.getD y.2.2.2.toNat noRec).2.2.2.2==y.2.1))
theorem p41_is (lo up:ByteArray) (e z:Int) (l:List Rd) (ps:List Pr) (cs:List Cn) (hl:l.length≤2097152) (hp:ps.length≤2097152) (h0:∀ y ∈ ps,0≤y.2.2.2) (hf:4194304<fu) :
    p41 fu ((lo,up,e,z,l,ps,cs,()),())=some ((),ps.all (proOk l)) := by
  unfold p41
  refine loop_for ps (fun i:Nat=>(((i:Int),()),())) (fun y => !proOk l y) ((),false) ((),true) (by omega) (fun i hi => ?_) ?_ ?_
  · have hg:∀ d,ps.getD i d=ps[i] := fun d=>getD_lt hi
    have hz := h0 _ (List.getElem_mem hi)
    simp only [Int.ofNat_lt,hi,decide_true,cond_true,Int.natCast_nonneg,true_and,Int.toNat_natCast,hg,proOk,u64_wrap (x := (l.length:Int)) (by omega) (by omega)]
    cases hh:ps[i].2.2.1 with
    | false=>simp only [Bool.not_false,cond_true,Bool.true_or,Bool.not_true,cond_false,i64_succ hi (by omega)]
    | true =>
      simp only [Bool.not_true,cond_false,Bool.false_or]
      by_cases h3:ps[i].2.2.2<(l.length:Int)
      · have h3':¬ ps[i].2.2.2≥(l.length:Int) := by omega
        have h3n:ps[i].2.2.2.toNat<l.length := by omega
        have hgl:∀ d,l.getD ps[i].2.2.2.toNat d=l[ps[i].2.2.2.toNat] := fun d=>getD_lt h3n
        simp only [h3,h3',h3n,hz,and_self,decide_true,decide_false,cond_true,cond_false,hgl,Bool.true_and]
        cases h4:(l[ps[i].2.2.2.toNat].2.2.2.1==ps[i].1) with
        | false=>simp only [bne,h4,Bool.not_false,cond_true,Bool.false_and,inrO_val]
        | true =>
          simp only [bne,h4,Bool.not_true,cond_false,Bool.true_and]
          cases h5:(l[ps[i].2.2.2.toNat].2.2.2.2==ps[i].2.1) with
          | false=>simp only [Bool.not_false,cond_true,inrO_val]
          | true=>simp only [Bool.not_true,cond_false,i64_succ hi (by omega)]
      · have h3':ps[i].2.2.2≥(l.length:Int) := by omega
        simp only [h3,h3',decide_true,decide_false,cond_true,Bool.false_and,Bool.not_false,inrO_val]
  · simp only [Int.lt_irrefl,decide_false,cond_false,inrO_val]
  · rw [← List.not_all_eq_any_not]
    cases ps.all (proOk l) <;> rfl
def conOk (l:List Rd) (y:Cn):Bool := decide (y.2≤(l.length:Int))
theorem p42_is (lo up:ByteArray) (e z:Int) (l:List Rd) (ps:List Pr) (cs:List Cn) (hl:l.length≤2097152) (hp:cs.length≤2097152) (hf:4194304<fu) :
    p42 fu ((lo,up,e,z,l,ps,cs,()),())=some ((),cs.all (conOk l)) := by
  unfold p42
  refine loop_for cs (fun i:Nat=>(((i:Int),()),())) (fun y => !conOk l y) ((),false) ((),true) (by omega) (fun i hi => ?_) ?_ ?_
  · have hg:∀ d,cs.getD i d=cs[i] := fun d=>getD_lt hi
    simp only [Int.ofNat_lt,hi,decide_true,cond_true,Int.natCast_nonneg,true_and,Int.toNat_natCast,hg,conOk,u64_wrap (x := (l.length:Int)) (by omega) (by omega)]
    by_cases h3:cs[i].2≤(l.length:Int)
    · have h3':¬ cs[i].2>(l.length:Int) := by omega
      simp only [h3,h3',decide_true,decide_false,cond_false,Bool.not_true,i64_succ hi (by omega)]
    · have h3':cs[i].2>(l.length:Int) := by omega
      simp only [h3,h3',decide_true,decide_false,cond_true,Bool.not_false,inrO_val]
  · simp only [Int.lt_irrefl,decide_false,cond_false,inrO_val]
  · rw [← List.not_all_eq_any_not]
    cases cs.all (conOk l) <;> rfl
abbrev St16 := ByteArray×ByteArray×Int×Int×List Rd×List Pr×List Cn×Unit
def chkS:St16→Bool
  | (lo,hi,e,_,l,ps,cs,_)=>(chkB lo hi==0) && ((e != 0) && (logOk l && (tabI ps && (okC cs && ((List.range l.length).all (recOk lo hi ps l) && (ps.all (proOk l) && cs.all (conOk l)))))))
def bndS:St16→Prop
  | (_,_,_,_,l,ps,cs,_)=>l.length≤2097152∧ps.length≤2097152∧okL cs ∧ ∀ y ∈ ps,0≤y.2.2.2
theorem p10_is (p:St16) (hb:bndS p) (hf:4194304<fu):p10 fu (p,())=some ((),bif chkS p then 0 else 165) := by
  obtain ⟨lo,hi,e,z,l,ps,cs,⟨⟩⟩ := p
  obtain ⟨h1,h2,h3,h4⟩ := hb
  unfold p10
  simp only [p36_is,bind_val,p37_is l (by omega) hf,p38_is ps (by omega) (show ps.length<fu by omega),p39_is cs h3 hf,p41_is lo hi e z l ps cs h1 h2 h4 hf,p42_is lo hi e z l ps cs h1 h3.1 hf,chkS]
  cases (chkB lo hi==0)
  · rfl
  cases (e != 0)
  · rfl
  cases logOk l
  · rfl
  cases ht:tabI ps
  · rfl
  simp only [p40_is lo hi e z l ps cs h1 h2 ((tab_iff ps).1 ht).2.1 hf,bind_val]
  cases okC cs
  · rfl
  cases (List.range l.length).all (recOk lo hi ps l)
  · rfl
  cases ps.all (proOk l)
  · rfl
  cases cs.all (conOk l) <;> rfl
end
section
variable {fu:Nat}
abbrev Cm16 := Int×Int×Int×Int×ByteArray×List Int×Int×Int×ByteArray×Int×Unit
abbrev Rs16 := Int×Int×Bool×List Rd×Unit
def wfS:Cm16→Bool
  | (k,_,pr,sq,key,v,_,most,name,plan,_) =>
    if k=1 then ((judge [] pr sq).1 != 4) && (decide (key.size≤32) && decide (v.length≤256))
    else if k=2 then decide (1≤most) && decide (most≤64)
    else if k=3 then ((judge [] pr sq).1 != 4) && nameB name
    else if k=4 then nameB name
    else if k=5 then plan != 0
    else if k=6 then plan != 0
    else false
theorem p134_is (k ep pr sq:Int) (key:ByteArray) (v:List Int) (off most:Int) (name:ByteArray) (plan:Int) (hf:4194304<fu) :
    p134 fu ((k,ep,pr,sq,key,v,off,most,name,plan,()),())=some ((),(judge [] pr sq).1 != 4) := by
  unfold p134
  simp only [p157_is [] pr sq (by simp) (show ([]:List Pr).length<fu by simp only [List.length_nil]; omega),bind_val]
theorem p88_is (k ep pr sq:Int) (key:ByteArray) (v:List Int) (off most:Int) (name:ByteArray) (plan:Int) (hn:name.size≤1048576) (hf:4194304<fu) :
    p88 fu ((k,ep,pr,sq,key,v,off,most,name,plan,()),())=some ((),wfS (k,ep,pr,sq,key,v,off,most,name,plan,())) := by
  unfold p88 wfS
  simp only [p134_is _ _ _ _ _ _ _ _ _ _ hf,p102_is name hn (show name.size<fu by omega),bind_val]
  by_cases h1:k=1
  · subst h1
    have e1:decide ((ByteArray.size key:Int)≤32)=decide (key.size≤32) := by rw [decide_eq_decide]; omega
    have e2:decide ((List.length v:Int)≤256)=decide (v.length≤256) := by rw [decide_eq_decide]; omega
    simp only [beq_self_eq_true,cond_true,if_true,e1,e2]
    cases ((judge [] pr sq).1 != 4)
    · rfl
    cases decide (key.size≤32) <;> rfl
  have b1:(k==1)=false := by simpa using h1
  simp only [b1,h1,cond_false,if_false]
  by_cases h2:k=2
  · subst h2
    simp only [beq_self_eq_true,cond_true,if_true]
    by_cases g:most≥1
    · have g':1≤most := g
      simp only [g,g',decide_true,cond_true,Bool.true_and]
      rfl
    · have g':¬ 1≤most := g
      simp only [g,g',decide_false,cond_false,Bool.false_and]
      rfl
  have b2:(k==2)=false := by simpa using h2
  simp only [b2,h2,cond_false,if_false]
  by_cases h3:k=3
  · subst h3
    simp only [beq_self_eq_true,cond_true,if_true]
    cases ((judge [] pr sq).1 != 4) <;> rfl
  have b3:(k==3)=false := by simpa using h3
  simp only [b3,h3,cond_false,if_false]
  by_cases h4:k=4
  · subst h4
    simp only [beq_self_eq_true,cond_true,if_true]
    rfl
  have b4:(k==4)=false := by simpa using h4
  simp only [b4,h4,cond_false,if_false]
  by_cases h5:k=5
  · subst h5
    simp only [beq_self_eq_true,cond_true,if_true]
    rfl
  have b5:(k==5)=false := by simpa using h5
  simp only [b5,h5,cond_false,if_false]
  by_cases h6:k=6
  · subst h6
    simp only [beq_self_eq_true,cond_true,if_true]
    rfl
  have b6:(k==6)=false := by simpa using h6
  simp only [b6,h6,cond_false,if_false]
  rfl
theorem wf_kind {c:Cm16} (h:wfS c=true):c.1=1 ∨ c.1=2 ∨ c.1=3 ∨ c.1=4 ∨ c.1=5 ∨ c.1=6 := by
  obtain ⟨k,ep,pr,sq,key,v,off,most,name,plan,⟨⟩⟩ := c
  unfold wfS at h
  by_cases h1:k=1
  · exact .inl h1
  by_cases h2:k=2
  · exact .inr (.inl h2)
  by_cases h3:k=3
  · exact .inr (.inr (.inl h3))
  by_cases h4:k=4
  · exact .inr (.inr (.inr (.inl h4)))
  by_cases h5:k=5
  · exact .inr (.inr (.inr (.inr (.inl h5))))
  by_cases h6:k=6
  · exact .inr (.inr (.inr (.inr (.inr h6))))
  simp [h1,h2,h3,h4,h5,h6] at h
def mayS:St16→Cm16→Option (Int ⊕ (Int×Bool))
  | (lo,up,_,z,_,ps,_,_),(k,_,pr,sq,key,_,_,_,_,plan,_) =>
    let fz:Option (Int ⊕ (Int×Bool)) := if z=0 then none else some (.inl 164)
    let nw:Option (Int ⊕ (Int×Bool)) := if (judge ps pr sq).1=1 then fz else if k=3 then some (.inr (0,true)) else if (judge ps pr sq).1=2 then some (.inr ((judge ps pr sq).2,true)) else some (.inl 152)
    if k=1 then (if hasB lo up key=true then nw else some (.inl 163))
    else if k=3 then nw
    else if k=2 then fz
    else if k=4 then fz
    else if z=0 then none else if z=plan then none else some (.inl 164)
def mForm (s:ByteArray):Option (Int ⊕ (Int×Bool))→Bool×(ByteArray×Int×Unit)×(Bool×Unit×Unit)
  | none=>(false,dflt (.pair .str (.pair (.int .i64) .unit)),(true,(),()))
  | some (.inl e)=>(true,(s,e,()),dflt (.pair .bool (.pair .unit .unit)))
  | some (.inr _)=>(false,dflt (.pair .str (.pair (.int .i64) .unit)),(false,(),()))
def mRes:Option (Int ⊕ (Int×Bool))→Int×Bool
  | some (.inr r)=>r
  | _=>(0,false)
theorem p145_is (lo up:ByteArray) (e z:Int) (l:List Rd) (ps:List Pr) (cs:List Cn) (k ep pr sq:Int) (key:ByteArray) (v:List Int) (off most:Int) (name:ByteArray) (plan:Int) :
    p145_1 fu ((lo,up,e,z,l,ps,cs,k,ep,pr,sq,key,v,off,most,name,plan,0,0,false,(),()),())=some (((lo,up,e,z,l,ps,cs,k,ep,pr,sq,key,v,off,most,name,plan,0,0,false,(),()),(),(),(),()),if hasB lo up key=true then (true,(),dflt (.pair .str (.pair (.int .i64) .unit))) else (false,(),(⟨#[97,32,107,101,121,32,111,102,32,97,110,111,116,104,101,114,32,114,97,110,103,101]⟩,163,()))) := by
  unfold p145_1
  simp only [p106_is,bind_val,decide_true,cond_true]
  cases hasB lo up key <;> rfl
def nwS (ps:List Pr) (k pr sq:Int):Option (Int ⊕ (Int×Bool)) := if (judge ps pr sq).1=1 then none else if k=3 then some (.inr (0,true)) else if (judge ps pr sq).1=2 then some (.inr ((judge ps pr sq).2,true)) else some (.inl 152)
def nForm:Option (Int ⊕ (Int×Bool))→Bool×Unit×Bool×Unit×ByteArray×Int×Unit
  | none=>(true,(),dflt (.pair .bool (.pair .unit (.pair .str (.pair (.int .i64) .unit)))))
  | some (.inr _)=>(false,(),(true,(),dflt (.pair .str (.pair (.int .i64) .unit))))
  | some (.inl e)=>(false,(),(false,(),(⟨#[97,32,110,117,109,98,101,114,32,116,104,97,116,32,119,101,110,116,32,98,121]⟩,e,())))
theorem p146_is (lo up:ByteArray) (e z:Int) (l:List Rd) (ps:List Pr) (cs:List Cn) (k ep pr sq:Int) (key:ByteArray) (v:List Int) (off most:Int) (name:ByteArray) (plan:Int) (hp:ps.length≤2097152) (hf:4194304<fu) :
    p146 fu ((lo,up,e,z,l,ps,cs,k,ep,pr,sq,key,v,off,most,name,plan,0,0,false,(),()),())=some (((lo,up,e,z,l,ps,cs,k,ep,pr,sq,key,v,off,most,name,plan,0,(mRes (nwS ps k pr sq)).1,(mRes (nwS ps k pr sq)).2,(),()),(),(),(),()),nForm (nwS ps k pr sq)) := by
  unfold p146 nwS
  simp only [p157_is (fu := fu) ps pr sq (by omega) (by omega),bind_val,decide_true,cond_true]
  by_cases j1:(judge ps pr sq).1=1
  · have b1:((judge ps pr sq).1==1)=true := by simpa using j1
    simp only [if_pos j1,b1,cond_true,mRes,nForm]
  have b1:((judge ps pr sq).1==1)=false := by simpa using j1
  simp only [if_neg j1,b1,cond_false]
  by_cases k3:k=3
  · have b3:(k==3)=true := by simpa using k3
    simp only [if_pos k3,b3,cond_true,mRes,nForm]
  have b3:(k==3)=false := by simpa using k3
  simp only [if_neg k3,b3,cond_false]
  by_cases j2:(judge ps pr sq).1=2
  · have b2:((judge ps pr sq).1==2)=true := by simpa using j2
    simp only [if_pos j2,b2,cond_true,mRes,nForm]
  have b2:((judge ps pr sq).1==2)=false := by simpa using j2
  simp only [if_neg j2,b2,cond_false,mRes,nForm]
  rfl
theorem mayS_is (lo up:ByteArray) (e z:Int) (l:List Rd) (ps:List Pr) (cs:List Cn) (k ep pr sq:Int) (key:ByteArray) (v:List Int) (off most:Int) (name:ByteArray) (plan:Int) :
    mayS (lo,up,e,z,l,ps,cs,()) (k,ep,pr,sq,key,v,off,most,name,plan,()) =
      if k=1 then (if hasB lo up key=true then ((nwS ps k pr sq).or (if z=0 then none else some (.inl 164))) else some (.inl 163))
      else if k=3 then ((nwS ps k pr sq).or (if z=0 then none else some (.inl 164)))
      else if k=2 then (if z=0 then none else some (.inl 164))
      else if k=4 then (if z=0 then none else some (.inl 164))
      else if z=0 then none else if z=plan then none else some (.inl 164) := by
  unfold mayS nwS
  by_cases k3:k=3 <;> by_cases j1:(judge ps pr sq).1=1 <;> by_cases j2:(judge ps pr sq).1=2 <;> simp only [k3,j1,j2,if_true,if_false,Option.none_or,Option.some_or] <;> rfl
theorem p114_k1 (lo up:ByteArray) (e z:Int) (l:List Rd) (ps:List Pr) (cs:List Cn) (ep pr sq:Int) (key:ByteArray) (v:List Int) (off most:Int) (name:ByteArray) (plan:Int) (hp:ps.length≤2097152) (hf:4194304<fu) :
    ∃ s,p114 fu ((lo,up,e,z,l,ps,cs,1,ep,pr,sq,key,v,off,most,name,plan,0,0,false,(),()),())=some (((lo,up,e,z,l,ps,cs,1,ep,pr,sq,key,v,off,most,name,plan,0,(mRes (mayS (lo,up,e,z,l,ps,cs,()) (1,ep,pr,sq,key,v,off,most,name,plan,()))).1,(mRes (mayS (lo,up,e,z,l,ps,cs,()) (1,ep,pr,sq,key,v,off,most,name,plan,()))).2,(),()),(),(),(),()),mForm s (mayS (lo,up,e,z,l,ps,cs,()) (1,ep,pr,sq,key,v,off,most,name,plan,()))) := by
  rw [mayS_is]
  unfold p114 p113
  simp only [Int.reduceBEq,Int.reduceEq,beq_self_eq_true,cond_true,cond_false,if_true,if_false,decide_true,bind_val,orK_inl,orK_inr,inrO_val,p145_is,p146_is _ _ _ _ _ _ _ _ _ _ _ _ _ _ _ _ _ hp hf]
  by_cases hh:hasB lo up key=true
  · simp only [if_pos hh,cond_true,orK_inl,orK_inr,inrO_val,bind_val,p146_is _ _ _ _ _ _ _ _ _ _ _ _ _ _ _ _ _ hp hf]
    cases hn:nwS ps 1 pr sq with
    | some r =>
      cases r with
      | inl e=>exact ⟨_,rfl⟩
      | inr r=>exact ⟨⟨#[]⟩,rfl⟩
    | none =>
      by_cases h0:z=0
      · have b0:(z != 0)=false := by simp [h0]
        simp only [if_pos h0,Option.none_or,nForm,mRes,cond_true,orK_inl,orK_inr,inrO_val,bind_val,b0,cond_false]
        exact ⟨⟨#[]⟩,rfl⟩
      · have b0:(z != 0)=true := by simpa using h0
        simp only [if_neg h0,Option.none_or,nForm,mRes,cond_true,orK_inl,orK_inr,inrO_val,bind_val,b0,cond_false]
        exact ⟨_,rfl⟩
  · simp only [if_neg hh,cond_false,orK_inl,orK_inr,inrO_val,bind_val]
    exact ⟨_,rfl⟩
theorem p114_k2 (lo up:ByteArray) (e z:Int) (l:List Rd) (ps:List Pr) (cs:List Cn) (ep pr sq:Int) (key:ByteArray) (v:List Int) (off most:Int) (name:ByteArray) (plan:Int) (hp:ps.length≤2097152) (hf:4194304<fu) :
    ∃ s,p114 fu ((lo,up,e,z,l,ps,cs,2,ep,pr,sq,key,v,off,most,name,plan,0,0,false,(),()),())=some (((lo,up,e,z,l,ps,cs,2,ep,pr,sq,key,v,off,most,name,plan,0,(mRes (mayS (lo,up,e,z,l,ps,cs,()) (2,ep,pr,sq,key,v,off,most,name,plan,()))).1,(mRes (mayS (lo,up,e,z,l,ps,cs,()) (2,ep,pr,sq,key,v,off,most,name,plan,()))).2,(),()),(),(),(),()),mForm s (mayS (lo,up,e,z,l,ps,cs,()) (2,ep,pr,sq,key,v,off,most,name,plan,()))) := by
  rw [mayS_is]
  unfold p114 p113
  simp only [Int.reduceBEq,Int.reduceEq,beq_self_eq_true,cond_true,cond_false,if_true,if_false,decide_true,bind_val,orK_inl,orK_inr,inrO_val]
  by_cases h0:z=0
  · have b0:(z != 0)=false := by simp [h0]
    simp only [if_pos h0,b0,cond_false,mRes,mForm]
    exact ⟨⟨#[]⟩,rfl⟩
  · have b0:(z != 0)=true := by simpa using h0
    simp only [if_neg h0,b0,cond_true,mRes,mForm]
    exact ⟨_,rfl⟩
theorem p114_k3 (lo up:ByteArray) (e z:Int) (l:List Rd) (ps:List Pr) (cs:List Cn) (ep pr sq:Int) (key:ByteArray) (v:List Int) (off most:Int) (name:ByteArray) (plan:Int) (hp:ps.length≤2097152) (hf:4194304<fu) :
    ∃ s,p114 fu ((lo,up,e,z,l,ps,cs,3,ep,pr,sq,key,v,off,most,name,plan,0,0,false,(),()),())=some (((lo,up,e,z,l,ps,cs,3,ep,pr,sq,key,v,off,most,name,plan,0,(mRes (mayS (lo,up,e,z,l,ps,cs,()) (3,ep,pr,sq,key,v,off,most,name,plan,()))).1,(mRes (mayS (lo,up,e,z,l,ps,cs,()) (3,ep,pr,sq,key,v,off,most,name,plan,()))).2,(),()),(),(),(),()),mForm s (mayS (lo,up,e,z,l,ps,cs,()) (3,ep,pr,sq,key,v,off,most,name,plan,()))) := by
  rw [mayS_is]
  unfold p114 p113
  simp only [Int.reduceBEq,Int.reduceEq,beq_self_eq_true,cond_true,cond_false,if_true,if_false,decide_true,bind_val,orK_inl,orK_inr,inrO_val,p146_is _ _ _ _ _ _ _ _ _ _ _ _ _ _ _ _ _ hp hf]
  cases hn:nwS ps 3 pr sq with
  | some r =>
    cases r with
    | inl e=>exact ⟨_,rfl⟩
    | inr r=>exact ⟨⟨#[]⟩,rfl⟩
  | none =>
    by_cases h0:z=0
    · have b0:(z != 0)=false := by simp [h0]
      simp only [if_pos h0,Option.none_or,nForm,mRes,cond_true,orK_inl,orK_inr,inrO_val,bind_val,b0,cond_false]
      exact ⟨⟨#[]⟩,rfl⟩
    · have b0:(z != 0)=true := by simpa using h0
      simp only [if_neg h0,Option.none_or,nForm,mRes,cond_true,orK_inl,orK_inr,inrO_val,bind_val,b0,cond_false]
      exact ⟨_,rfl⟩
theorem p114_k4 (lo up:ByteArray) (e z:Int) (l:List Rd) (ps:List Pr) (cs:List Cn) (ep pr sq:Int) (key:ByteArray) (v:List Int) (off most:Int) (name:ByteArray) (plan:Int) (hp:ps.length≤2097152) (hf:4194304<fu) :
    ∃ s,p114 fu ((lo,up,e,z,l,ps,cs,4,ep,pr,sq,key,v,off,most,name,plan,0,0,false,(),()),())=some (((lo,up,e,z,l,ps,cs,4,ep,pr,sq,key,v,off,most,name,plan,0,(mRes (mayS (lo,up,e,z,l,ps,cs,()) (4,ep,pr,sq,key,v,off,most,name,plan,()))).1,(mRes (mayS (lo,up,e,z,l,ps,cs,()) (4,ep,pr,sq,key,v,off,most,name,plan,()))).2,(),()),(),(),(),()),mForm s (mayS (lo,up,e,z,l,ps,cs,()) (4,ep,pr,sq,key,v,off,most,name,plan,()))) := by
  rw [mayS_is]
  unfold p114 p113
  simp only [Int.reduceBEq,Int.reduceEq,beq_self_eq_true,cond_true,cond_false,if_true,if_false,decide_true,bind_val,orK_inl,orK_inr,inrO_val]
  by_cases h0:z=0
  · have b0:(z != 0)=false := by simp [h0]
    simp only [if_pos h0,b0,cond_false,mRes,mForm]
    exact ⟨⟨#[]⟩,rfl⟩
  · have b0:(z != 0)=true := by simpa using h0
    simp only [if_neg h0,b0,cond_true,mRes,mForm]
    exact ⟨_,rfl⟩
theorem p114_k5 (lo up:ByteArray) (e z:Int) (l:List Rd) (ps:List Pr) (cs:List Cn) (ep pr sq:Int) (key:ByteArray) (v:List Int) (off most:Int) (name:ByteArray) (plan:Int) (hp:ps.length≤2097152) (hf:4194304<fu) :
    ∃ s,p114 fu ((lo,up,e,z,l,ps,cs,5,ep,pr,sq,key,v,off,most,name,plan,0,0,false,(),()),())=some (((lo,up,e,z,l,ps,cs,5,ep,pr,sq,key,v,off,most,name,plan,0,(mRes (mayS (lo,up,e,z,l,ps,cs,()) (5,ep,pr,sq,key,v,off,most,name,plan,()))).1,(mRes (mayS (lo,up,e,z,l,ps,cs,()) (5,ep,pr,sq,key,v,off,most,name,plan,()))).2,(),()),(),(),(),()),mForm s (mayS (lo,up,e,z,l,ps,cs,()) (5,ep,pr,sq,key,v,off,most,name,plan,()))) := by
  rw [mayS_is]
  unfold p114 p113
  simp only [Int.reduceBEq,Int.reduceEq,beq_self_eq_true,cond_true,cond_false,if_true,if_false,decide_true,bind_val,orK_inl,orK_inr,inrO_val]
  by_cases h0:z=0
  · have b0:(z != 0)=false := by simp [h0]
    simp only [if_pos h0,b0,cond_false,mRes,mForm]
    exact ⟨⟨#[]⟩,trivial⟩
  · have b0:(z != 0)=true := by simpa using h0
    by_cases h1:z=plan
    · have b1:(z != plan)=false := by simp [h1]
      simp only [if_neg h0,if_pos h1,b0,b1,cond_true,cond_false,mRes,mForm]
      exact ⟨⟨#[]⟩,trivial⟩
    · have b1:(z != plan)=true := by simpa using h1
      simp only [if_neg h0,if_neg h1,b0,b1,cond_true,mRes,mForm]
      exact ⟨_,rfl⟩
theorem p114_k6 (lo up:ByteArray) (e z:Int) (l:List Rd) (ps:List Pr) (cs:List Cn) (ep pr sq:Int) (key:ByteArray) (v:List Int) (off most:Int) (name:ByteArray) (plan:Int) (hp:ps.length≤2097152) (hf:4194304<fu) :
    ∃ s,p114 fu ((lo,up,e,z,l,ps,cs,6,ep,pr,sq,key,v,off,most,name,plan,0,0,false,(),()),())=some (((lo,up,e,z,l,ps,cs,6,ep,pr,sq,key,v,off,most,name,plan,0,(mRes (mayS (lo,up,e,z,l,ps,cs,()) (6,ep,pr,sq,key,v,off,most,name,plan,()))).1,(mRes (mayS (lo,up,e,z,l,ps,cs,()) (6,ep,pr,sq,key,v,off,most,name,plan,()))).2,(),()),(),(),(),()),mForm s (mayS (lo,up,e,z,l,ps,cs,()) (6,ep,pr,sq,key,v,off,most,name,plan,()))) := by
  rw [mayS_is]
  unfold p114 p113
  simp only [Int.reduceBEq,Int.reduceEq,beq_self_eq_true,cond_true,cond_false,if_true,if_false,decide_true,bind_val,orK_inl,orK_inr,inrO_val]
  by_cases h0:z=0
  · have b0:(z != 0)=false := by simp [h0]
    simp only [if_pos h0,b0,cond_false,mRes,mForm]
    exact ⟨⟨#[]⟩,trivial⟩
  · have b0:(z != 0)=true := by simpa using h0
    by_cases h1:z=plan
    · have b1:(z != plan)=false := by simp [h1]
      simp only [if_neg h0,if_pos h1,b0,b1,cond_true,cond_false,mRes,mForm]
      exact ⟨⟨#[]⟩,trivial⟩
    · have b1:(z != plan)=true := by simpa using h1
      simp only [if_neg h0,if_neg h1,b0,b1,cond_true,mRes,mForm]
      exact ⟨_,rfl⟩
end
section
variable {fu:Nat}
def eForm (s:ByteArray) (e:Int):Bool×Unit×ByteArray×Int×Unit := if e=0 then (true,(),dflt (.pair .str (.pair (.int .i64) .unit))) else (false,(),(s,e,()))
def prodS (l:List Rd) (ps:List Pr) (pr sq:Int) (key:ByteArray) (v:List Int):List Rd×List Pr×Int×Int :=
  if l.length<4096 then (if (putS ps (pr,sq,true,(l.length:Int))).2=0 then (l ++ [((l.length:Int),key,v,pr,sq)],(putS ps (pr,sq,true,(l.length:Int))).1,(l.length:Int),0) else (l,ps,0,(putS ps (pr,sq,true,(l.length:Int))).2)) else (l,ps,0,143)
theorem p115_is (lo up:ByteArray) (e z:Int) (l:List Rd) (ps:List Pr) (cs:List Cn) (k ep pr sq:Int) (key:ByteArray) (v:List Int) (off most:Int) (name:ByteArray) (plan:Int) (hl:logOk l=true) (hk:key.size≤32) (hv:v.length≤256) (hp:ps.length≤2097152) (hf:4194304<fu) :
    ∃ s,p115 fu ((lo,up,e,z,l,ps,cs,k,ep,pr,sq,key,v,off,most,name,plan,0,0,false,(),()),())=some (((lo,up,e,z,(prodS l ps pr sq key v).1,(prodS l ps pr sq key v).2.1,cs,k,ep,pr,sq,key,v,off,most,name,plan,0,(prodS l ps pr sq key v).2.2.1,false,(),()),(),(),(),()),eForm s (prodS l ps pr sq key v).2.2.2) := by
  have hn := (logOk_parts hl).1
  have e1 := p147_is (fu := fu) l (0,key,v,pr,sq) hl hk hv hf
  have e2 := fun o:Int=>p148_is (fu := fu) ps pr sq o (by omega) (by omega)
  unfold p115 p113 prodS
  simp only [decide_true,cond_true]
  simp only [] at e1
  rw [e1]
  by_cases h:l.length<4096
  · simp only [if_pos h,bind_val,show ((0:Int) != 0)=false from rfl,cond_false,e2]
    by_cases h0:(putS ps (pr,sq,true,(l.length:Int))).2=0
    · have b0:((putS ps (pr,sq,true,(l.length:Int))).2 != 0)=false := by simp [h0]
      simp only [if_pos h0,b0,cond_false]
      exact ⟨⟨#[]⟩,rfl⟩
    · have b0:((putS ps (pr,sq,true,(l.length:Int))).2 != 0)=true := by simpa using h0
      have b1:((putS ps (pr,sq,true,(l.length:Int))).2==0)=false := by simpa using h0
      refine ⟨⟨#[97,32,112,114,111,100,117,99,101,114]⟩,?_⟩
      simp only [if_neg h0,b0,b1,cond_true,cond_false,bind_val,eForm]
  · simp only [if_neg h,bind_val]
    exact ⟨_,rfl⟩
def fetchS (l:List Rd) (c f:Int):List Rd×Int×Int :=
  if c≤(l.length:Int) then ((l.drop c.toNat).take (min (min f.toNat 64) (l.length-c.toNat)),c+(((l.drop c.toNat).take (min (min f.toNat 64) (l.length-c.toNat))).length:Int),0) else ([],0,141)
theorem p116_is (lo up:ByteArray) (e z:Int) (l:List Rd) (ps:List Pr) (cs:List Cn) (k ep pr sq:Int) (key:ByteArray) (v:List Int) (off most:Int) (name:ByteArray) (plan:Int) (hl:logOk l=true) (h0:0≤off) (hf:4194304<fu) :
    ∃ s,p116 fu ((lo,up,e,z,l,ps,cs,k,ep,pr,sq,key,v,off,most,name,plan,0,0,false,(),()),())=some (((lo,up,e,z,l,ps,cs,k,ep,pr,sq,key,v,off,most,name,plan,0,(fetchS l off most).2.1,false,(fetchS l off most).1,()),(),(),(),()),eForm s (fetchS l off most).2.2) := by
  have hn := (logOk_parts hl).1
  unfold p116 p113 fetchS
  simp only [decide_true,cond_true,p149_is l off most hl h0 hf]
  by_cases h:off≤(l.length:Int)
  · simp only [if_pos h,bind_val,show ((0:Int) != 0)=false from rfl,cond_false]
    have hm:((l.drop off.toNat).take (min (min most.toNat 64) (l.length-off.toNat))).length≤4096 := by simp; omega
    generalize hg:(l.drop off.toNat).take (min (min most.toNat 64) (l.length-off.toNat))=m at hm ⊢
    have hw:IntKind.wrap .u64 (off+(IntKind.wrap .u64 (m.length:Int)))=off+(m.length:Int) := by
      rw [u64_wrap (x := (m.length:Int)) (by omega) (by omega),u64_wrap (by omega) (by omega)]
    simp only [hw]
    exact ⟨⟨#[]⟩,rfl⟩
  · simp only [if_neg h,bind_val]
    exact ⟨_,rfl⟩
def comS (cs:List Cn) (ps:List Pr) (pr sq:Int) (name:ByteArray) (off h:Int):List Pr×List Cn×Int×Int :=
  if (commitS cs name off h).2=0 then (if (putS ps (pr,sq,false,0)).2=0 then ((putS ps (pr,sq,false,0)).1,(commitS cs name off h).1,off,0) else (ps,cs,0,(putS ps (pr,sq,false,0)).2)) else (ps,cs,0,(commitS cs name off h).2)
theorem p117_is (lo up:ByteArray) (e z:Int) (l:List Rd) (ps:List Pr) (cs:List Cn) (k ep pr sq:Int) (key:ByteArray) (v:List Int) (off most:Int) (name:ByteArray) (plan:Int) (hl:l.length≤2097152) (hc:okL cs) (hn:name.size≤1048576) (hp:ps.length≤2097152) (hf:4194304<fu) :
    ∃ s,p117 fu ((lo,up,e,z,l,ps,cs,k,ep,pr,sq,key,v,off,most,name,plan,0,0,false,(),()),())=some (((lo,up,e,z,l,(comS cs ps pr sq name off (l.length:Int)).1,(comS cs ps pr sq name off (l.length:Int)).2.1,k,ep,pr,sq,key,v,off,most,name,plan,0,(comS cs ps pr sq name off (l.length:Int)).2.2.1,false,(),()),(),(),(),()),eForm s (comS cs ps pr sq name off (l.length:Int)).2.2.2) := by
  have e2 := p151_is (fu := fu) ps pr sq (by omega) (by omega)
  unfold p117 p113 comS
  simp only [decide_true,cond_true,u64_wrap (x := (l.length:Int)) (by omega) (by omega),p150_is cs name off (l.length:Int) hc hn hf,bind_val]
  by_cases h:(commitS cs name off (l.length:Int)).2=0
  · have b0:((commitS cs name off (l.length:Int)).2 != 0)=false := by simp [h]
    simp only [if_pos h,b0,cond_false,e2,bind_val]
    by_cases h0:(putS ps (pr,sq,false,0)).2=0
    · have b0:((putS ps (pr,sq,false,0)).2 != 0)=false := by simp [h0]
      simp only [if_pos h0,b0,cond_false]
      exact ⟨⟨#[]⟩,rfl⟩
    · have b0:((putS ps (pr,sq,false,0)).2 != 0)=true := by simpa using h0
      have b1:((putS ps (pr,sq,false,0)).2==0)=false := by simpa using h0
      refine ⟨⟨#[97,32,112,114,111,100,117,99,101,114]⟩,?_⟩
      simp only [if_neg h0,b0,b1,cond_true,cond_false,bind_val,eForm]
  · have b0:((commitS cs name off (l.length:Int)).2 != 0)=true := by simpa using h
    have b1:((commitS cs name off (l.length:Int)).2==0)=false := by simpa using h
    refine ⟨⟨#[97,32,99,111,110,115,117,109,101,114]⟩,?_⟩
    simp only [if_neg h,b0,b1,cond_true,cond_false,bind_val,eForm]
abbrev Fo := Option (Option Int)
def wForm (s:ByteArray):Fo→Bool×Unit×Bool×(ByteArray×Int×Unit)×Unit
  | none=>(true,(),dflt (.pair .bool (.pair (.pair .str (.pair (.int .i64) .unit)) .unit)))
  | some (some e)=>(false,(),(true,(s,e,()),()))
  | some none=>(false,(),(false,dflt (.pair .str (.pair (.int .i64) .unit)),()))
def errF (e:Int):Fo := if e=0 then none else some (some e)
def actS:St16→Cm16→St16×Rs16×Fo
  | (lo,up,e,z,l,ps,cs,_),(k,_,pr,sq,key,v,off,most,name,plan,_) =>
    if k=1 then ((lo,up,e,z,(prodS l ps pr sq key v).1,(prodS l ps pr sq key v).2.1,cs,()),(0,(prodS l ps pr sq key v).2.2.1,false,[],()),errF (prodS l ps pr sq key v).2.2.2)
    else if k=2 then ((lo,up,e,z,l,ps,cs,()),(0,(fetchS l off most).2.1,false,(fetchS l off most).1,()),errF (fetchS l off most).2.2)
    else if k=3 then ((lo,up,e,z,l,(comS cs ps pr sq name off (l.length:Int)).1,(comS cs ps pr sq name off (l.length:Int)).2.1,()),(0,(comS cs ps pr sq name off (l.length:Int)).2.2.1,false,[],()),errF (comS cs ps pr sq name off (l.length:Int)).2.2.2)
    else if k=4 then ((lo,up,e,z,l,ps,cs,()),(0,(readC cs name).1,(readC cs name).2,[],()),none)
    else if k=5 then ((lo,up,e,plan,l,ps,cs,()),(0,0,z != 0,[],()),none)
    else ((lo,up,e,0,l,ps,cs,()),(0,0,z==0,[],()),none)
def wkS (p:St16) (c:Cm16):St16×Rs16×Fo :=
  if wfS c=false then (p,(0,0,false,[],()),some (some 161)) else if c.2.1=p.2.2.1 then (match mayS p c with
    | some (.inl n)=>(p,(0,0,false,[],()),some (some n))
    | some (.inr r)=>(p,(0,r.1,r.2,[],()),some none)
    | none=>actS p c) else (p,(0,0,false,[],()),some (some 162))
theorem p62_wf (lo up:ByteArray) (e z:Int) (l:List Rd) (ps:List Pr) (cs:List Cn) (k ep pr sq:Int) (key:ByteArray) (v:List Int) (off most:Int) (name:ByteArray) (plan:Int) (hn:name.size≤1048576) (hf:4194304<fu) (hw:wfS (k,ep,pr,sq,key,v,off,most,name,plan,())=false) :
    ∃ s,p62 fu ((lo,up,e,z,l,ps,cs,k,ep,pr,sq,key,v,off,most,name,plan,0,0,false,(),()),())=some (((lo,up,e,z,l,ps,cs,k,ep,pr,sq,key,v,off,most,name,plan,0,0,false,[],()),(),(),(),()),wForm s (some (some 161))) := by
  unfold p62
  simp only [p88_is _ _ _ _ _ _ _ _ _ _ hn hf,bind_val,hw,Bool.not_false,cond_true]
  exact ⟨_,rfl⟩
theorem p62_ep (lo up:ByteArray) (e z:Int) (l:List Rd) (ps:List Pr) (cs:List Cn) (k ep pr sq:Int) (key:ByteArray) (v:List Int) (off most:Int) (name:ByteArray) (plan:Int) (hn:name.size≤1048576) (hf:4194304<fu) (hw:wfS (k,ep,pr,sq,key,v,off,most,name,plan,())=true) (he:¬ ep=e) :
    ∃ s,p62 fu ((lo,up,e,z,l,ps,cs,k,ep,pr,sq,key,v,off,most,name,plan,0,0,false,(),()),())=some (((lo,up,e,z,l,ps,cs,k,ep,pr,sq,key,v,off,most,name,plan,0,0,false,[],()),(),(),(),()),wForm s (some (some 162))) := by
  have b0:(ep != e)=true := by simpa using he
  unfold p62
  simp only [p88_is _ _ _ _ _ _ _ _ _ _ hn hf,bind_val,hw,Bool.not_true,cond_false,b0,cond_true]
  exact ⟨_,rfl⟩
theorem p62_err (lo up:ByteArray) (e z:Int) (l:List Rd) (ps:List Pr) (cs:List Cn) (k ep pr sq:Int) (key:ByteArray) (v:List Int) (off most:Int) (name:ByteArray) (plan:Int) (hn:name.size≤1048576) (hf:4194304<fu) (hw:wfS (k,ep,pr,sq,key,v,off,most,name,plan,())=true) (s:ByteArray) (n:Int) (hs:p114 fu ((lo,up,ep,z,l,ps,cs,k,ep,pr,sq,key,v,off,most,name,plan,0,0,false,(),()),())=some (((lo,up,ep,z,l,ps,cs,k,ep,pr,sq,key,v,off,most,name,plan,0,(mRes (some (.inl n))).1,(mRes (some (.inl n))).2,(),()),(),(),(),()),mForm s (some (.inl n)))) :
    p62 fu ((lo,up,ep,z,l,ps,cs,k,ep,pr,sq,key,v,off,most,name,plan,0,0,false,(),()),())=some (((lo,up,ep,z,l,ps,cs,k,ep,pr,sq,key,v,off,most,name,plan,0,0,false,[],()),(),(),(),()),wForm s (some (some n))) := by
  have b0:(ep != ep)=false := by simp
  unfold p62
  simp only [p88_is _ _ _ _ _ _ _ _ _ _ hn hf,bind_val,hw,Bool.not_true,cond_false,b0,decide_true,cond_true,hs]
  rfl
theorem p62_done (lo up:ByteArray) (e z:Int) (l:List Rd) (ps:List Pr) (cs:List Cn) (k ep pr sq:Int) (key:ByteArray) (v:List Int) (off most:Int) (name:ByteArray) (plan:Int) (hn:name.size≤1048576) (hf:4194304<fu) (hw:wfS (k,ep,pr,sq,key,v,off,most,name,plan,())=true) (s:ByteArray) (r:Int×Bool) (hs:p114 fu ((lo,up,ep,z,l,ps,cs,k,ep,pr,sq,key,v,off,most,name,plan,0,0,false,(),()),())=some (((lo,up,ep,z,l,ps,cs,k,ep,pr,sq,key,v,off,most,name,plan,0,(mRes (some (.inr r))).1,(mRes (some (.inr r))).2,(),()),(),(),(),()),mForm s (some (.inr r)))) :
    p62 fu ((lo,up,ep,z,l,ps,cs,k,ep,pr,sq,key,v,off,most,name,plan,0,0,false,(),()),())=some (((lo,up,ep,z,l,ps,cs,k,ep,pr,sq,key,v,off,most,name,plan,0,r.1,r.2,[],()),(),(),(),()),wForm ⟨#[]⟩ (some none)) := by
  have b0:(ep != ep)=false := by simp
  unfold p62
  simp only [p88_is _ _ _ _ _ _ _ _ _ _ hn hf,bind_val,hw,Bool.not_true,cond_false,b0,decide_true,cond_true,hs]
  rfl
theorem p62_k1 (lo up:ByteArray) (z:Int) (l:List Rd) (ps:List Pr) (cs:List Cn) (ep pr sq:Int) (key:ByteArray) (v:List Int) (off most:Int) (name:ByteArray) (plan:Int) (hl:logOk l=true) (hp:ps.length≤2097152) (hc:okL cs) (h0:0≤off) (hn:name.size≤1048576) (hf:4194304<fu) (hw:wfS (1,ep,pr,sq,key,v,off,most,name,plan,())=true) (s:ByteArray) (hs:p114 fu ((lo,up,ep,z,l,ps,cs,1,ep,pr,sq,key,v,off,most,name,plan,0,0,false,(),()),())=some (((lo,up,ep,z,l,ps,cs,1,ep,pr,sq,key,v,off,most,name,plan,0,(mRes none).1,(mRes none).2,(),()),(),(),(),()),mForm s none)) :
    ∃ s,p62 fu ((lo,up,ep,z,l,ps,cs,1,ep,pr,sq,key,v,off,most,name,plan,0,0,false,(),()),())=some ((((actS (lo,up,ep,z,l,ps,cs,()) (1,ep,pr,sq,key,v,off,most,name,plan,())).1.1,(actS (lo,up,ep,z,l,ps,cs,()) (1,ep,pr,sq,key,v,off,most,name,plan,())).1.2.1,(actS (lo,up,ep,z,l,ps,cs,()) (1,ep,pr,sq,key,v,off,most,name,plan,())).1.2.2.1,(actS (lo,up,ep,z,l,ps,cs,()) (1,ep,pr,sq,key,v,off,most,name,plan,())).1.2.2.2.1,(actS (lo,up,ep,z,l,ps,cs,()) (1,ep,pr,sq,key,v,off,most,name,plan,())).1.2.2.2.2.1,(actS (lo,up,ep,z,l,ps,cs,()) (1,ep,pr,sq,key,v,off,most,name,plan,())).1.2.2.2.2.2.1,(actS (lo,up,ep,z,l,ps,cs,()) (1,ep,pr,sq,key,v,off,most,name,plan,())).1.2.2.2.2.2.2.1,1,ep,pr,sq,key,v,off,most,name,plan,(actS (lo,up,ep,z,l,ps,cs,()) (1,ep,pr,sq,key,v,off,most,name,plan,())).2.1.1,(actS (lo,up,ep,z,l,ps,cs,()) (1,ep,pr,sq,key,v,off,most,name,plan,())).2.1.2.1,(actS (lo,up,ep,z,l,ps,cs,()) (1,ep,pr,sq,key,v,off,most,name,plan,())).2.1.2.2.1,(actS (lo,up,ep,z,l,ps,cs,()) (1,ep,pr,sq,key,v,off,most,name,plan,())).2.1.2.2.2.1,()),(),(),(),()),wForm s (actS (lo,up,ep,z,l,ps,cs,()) (1,ep,pr,sq,key,v,off,most,name,plan,())).2.2) := by
  have hll := (logOk_parts hl).1
  have b0:(ep != ep)=false := by simp
  unfold p62 actS
  simp only [p88_is _ _ _ _ _ _ _ _ _ _ hn hf,bind_val,hw,Bool.not_true,cond_false,b0,decide_true,cond_true,hs,mRes,mForm,orK_inl]
  obtain ⟨s1,h1⟩ := p115_is (fu := fu) lo up ep z l ps cs 1 ep pr sq key v off most name plan hl (by have := hw; simp only [wfS,if_true,Bool.and_eq_true,decide_eq_true_eq] at this; exact this.2.1) (by have := hw; simp only [wfS,if_true,Bool.and_eq_true,decide_eq_true_eq] at this; exact this.2.2) hp hf
  simp only [beq_self_eq_true,cond_true,if_true,h1,bind_val]
  refine ⟨s1,?_⟩
  unfold errF eForm
  by_cases g:(prodS l ps pr sq key v).2.2.2=0
  · simp only [if_pos g,cond_true,wForm]
  · simp only [if_neg g,cond_false,wForm]
end
section
variable {fu:Nat}
theorem p62_k2 (lo up:ByteArray) (z:Int) (l:List Rd) (ps:List Pr) (cs:List Cn) (ep pr sq:Int) (key:ByteArray) (v:List Int) (off most:Int) (name:ByteArray) (plan:Int) (hl:logOk l=true) (hp:ps.length≤2097152) (hc:okL cs) (h0:0≤off) (hn:name.size≤1048576) (hf:4194304<fu) (hw:wfS (2,ep,pr,sq,key,v,off,most,name,plan,())=true) (s:ByteArray) (hs:p114 fu ((lo,up,ep,z,l,ps,cs,2,ep,pr,sq,key,v,off,most,name,plan,0,0,false,(),()),())=some (((lo,up,ep,z,l,ps,cs,2,ep,pr,sq,key,v,off,most,name,plan,0,(mRes none).1,(mRes none).2,(),()),(),(),(),()),mForm s none)) :
    ∃ s,p62 fu ((lo,up,ep,z,l,ps,cs,2,ep,pr,sq,key,v,off,most,name,plan,0,0,false,(),()),())=some ((((actS (lo,up,ep,z,l,ps,cs,()) (2,ep,pr,sq,key,v,off,most,name,plan,())).1.1,(actS (lo,up,ep,z,l,ps,cs,()) (2,ep,pr,sq,key,v,off,most,name,plan,())).1.2.1,(actS (lo,up,ep,z,l,ps,cs,()) (2,ep,pr,sq,key,v,off,most,name,plan,())).1.2.2.1,(actS (lo,up,ep,z,l,ps,cs,()) (2,ep,pr,sq,key,v,off,most,name,plan,())).1.2.2.2.1,(actS (lo,up,ep,z,l,ps,cs,()) (2,ep,pr,sq,key,v,off,most,name,plan,())).1.2.2.2.2.1,(actS (lo,up,ep,z,l,ps,cs,()) (2,ep,pr,sq,key,v,off,most,name,plan,())).1.2.2.2.2.2.1,(actS (lo,up,ep,z,l,ps,cs,()) (2,ep,pr,sq,key,v,off,most,name,plan,())).1.2.2.2.2.2.2.1,2,ep,pr,sq,key,v,off,most,name,plan,(actS (lo,up,ep,z,l,ps,cs,()) (2,ep,pr,sq,key,v,off,most,name,plan,())).2.1.1,(actS (lo,up,ep,z,l,ps,cs,()) (2,ep,pr,sq,key,v,off,most,name,plan,())).2.1.2.1,(actS (lo,up,ep,z,l,ps,cs,()) (2,ep,pr,sq,key,v,off,most,name,plan,())).2.1.2.2.1,(actS (lo,up,ep,z,l,ps,cs,()) (2,ep,pr,sq,key,v,off,most,name,plan,())).2.1.2.2.2.1,()),(),(),(),()),wForm s (actS (lo,up,ep,z,l,ps,cs,()) (2,ep,pr,sq,key,v,off,most,name,plan,())).2.2) := by
  have hll := (logOk_parts hl).1
  have b0:(ep != ep)=false := by simp
  unfold p62 actS
  simp only [p88_is _ _ _ _ _ _ _ _ _ _ hn hf,bind_val,hw,Bool.not_true,cond_false,b0,decide_true,cond_true,hs,mRes,mForm,orK_inl]
  obtain ⟨s1,h1⟩ := p116_is (fu := fu) lo up ep z l ps cs 2 ep pr sq key v off most name plan hl h0 hf
  generalize fetchS l off most=q at h1 ⊢
  simp only [Int.reduceBEq,Int.reduceEq,cond_true,cond_false,if_true,if_false]
  rw [h1]
  simp only [bind_val]
  refine ⟨s1,?_⟩
  unfold errF eForm
  by_cases g:q.2.2=0
  · simp only [if_pos g,cond_true,wForm]
  · simp only [if_neg g,cond_false,wForm]
theorem p62_k3 (lo up:ByteArray) (z:Int) (l:List Rd) (ps:List Pr) (cs:List Cn) (ep pr sq:Int) (key:ByteArray) (v:List Int) (off most:Int) (name:ByteArray) (plan:Int) (hl:logOk l=true) (hp:ps.length≤2097152) (hc:okL cs) (h0:0≤off) (hn:name.size≤1048576) (hf:4194304<fu) (hw:wfS (3,ep,pr,sq,key,v,off,most,name,plan,())=true) (s:ByteArray) (hs:p114 fu ((lo,up,ep,z,l,ps,cs,3,ep,pr,sq,key,v,off,most,name,plan,0,0,false,(),()),())=some (((lo,up,ep,z,l,ps,cs,3,ep,pr,sq,key,v,off,most,name,plan,0,(mRes none).1,(mRes none).2,(),()),(),(),(),()),mForm s none)) :
    ∃ s,p62 fu ((lo,up,ep,z,l,ps,cs,3,ep,pr,sq,key,v,off,most,name,plan,0,0,false,(),()),())=some ((((actS (lo,up,ep,z,l,ps,cs,()) (3,ep,pr,sq,key,v,off,most,name,plan,())).1.1,(actS (lo,up,ep,z,l,ps,cs,()) (3,ep,pr,sq,key,v,off,most,name,plan,())).1.2.1,(actS (lo,up,ep,z,l,ps,cs,()) (3,ep,pr,sq,key,v,off,most,name,plan,())).1.2.2.1,(actS (lo,up,ep,z,l,ps,cs,()) (3,ep,pr,sq,key,v,off,most,name,plan,())).1.2.2.2.1,(actS (lo,up,ep,z,l,ps,cs,()) (3,ep,pr,sq,key,v,off,most,name,plan,())).1.2.2.2.2.1,(actS (lo,up,ep,z,l,ps,cs,()) (3,ep,pr,sq,key,v,off,most,name,plan,())).1.2.2.2.2.2.1,(actS (lo,up,ep,z,l,ps,cs,()) (3,ep,pr,sq,key,v,off,most,name,plan,())).1.2.2.2.2.2.2.1,3,ep,pr,sq,key,v,off,most,name,plan,(actS (lo,up,ep,z,l,ps,cs,()) (3,ep,pr,sq,key,v,off,most,name,plan,())).2.1.1,(actS (lo,up,ep,z,l,ps,cs,()) (3,ep,pr,sq,key,v,off,most,name,plan,())).2.1.2.1,(actS (lo,up,ep,z,l,ps,cs,()) (3,ep,pr,sq,key,v,off,most,name,plan,())).2.1.2.2.1,(actS (lo,up,ep,z,l,ps,cs,()) (3,ep,pr,sq,key,v,off,most,name,plan,())).2.1.2.2.2.1,()),(),(),(),()),wForm s (actS (lo,up,ep,z,l,ps,cs,()) (3,ep,pr,sq,key,v,off,most,name,plan,())).2.2) := by
  have hll := (logOk_parts hl).1
  have b0:(ep != ep)=false := by simp
  unfold p62 actS
  simp only [p88_is _ _ _ _ _ _ _ _ _ _ hn hf,bind_val,hw,Bool.not_true,cond_false,b0,decide_true,cond_true,hs,mRes,mForm,orK_inl]
  obtain ⟨s1,h1⟩ := p117_is (fu := fu) lo up ep z l ps cs 3 ep pr sq key v off most name plan (by omega) hc hn hp hf
  simp only [Int.reduceBEq,Int.reduceEq,cond_true,cond_false,if_true,if_false,h1,bind_val]
  refine ⟨s1,?_⟩
  unfold errF eForm
  by_cases g:(comS cs ps pr sq name off (l.length:Int)).2.2.2=0
  · simp only [if_pos g,cond_true,wForm]
  · simp only [if_neg g,cond_false,wForm]
theorem p62_k4 (lo up:ByteArray) (z:Int) (l:List Rd) (ps:List Pr) (cs:List Cn) (ep pr sq:Int) (key:ByteArray) (v:List Int) (off most:Int) (name:ByteArray) (plan:Int) (hl:logOk l=true) (hp:ps.length≤2097152) (hc:okL cs) (h0:0≤off) (hn:name.size≤1048576) (hf:4194304<fu) (hw:wfS (4,ep,pr,sq,key,v,off,most,name,plan,())=true) (s:ByteArray) (hs:p114 fu ((lo,up,ep,z,l,ps,cs,4,ep,pr,sq,key,v,off,most,name,plan,0,0,false,(),()),())=some (((lo,up,ep,z,l,ps,cs,4,ep,pr,sq,key,v,off,most,name,plan,0,(mRes none).1,(mRes none).2,(),()),(),(),(),()),mForm s none)) :
    ∃ s,p62 fu ((lo,up,ep,z,l,ps,cs,4,ep,pr,sq,key,v,off,most,name,plan,0,0,false,(),()),())=some ((((actS (lo,up,ep,z,l,ps,cs,()) (4,ep,pr,sq,key,v,off,most,name,plan,())).1.1,(actS (lo,up,ep,z,l,ps,cs,()) (4,ep,pr,sq,key,v,off,most,name,plan,())).1.2.1,(actS (lo,up,ep,z,l,ps,cs,()) (4,ep,pr,sq,key,v,off,most,name,plan,())).1.2.2.1,(actS (lo,up,ep,z,l,ps,cs,()) (4,ep,pr,sq,key,v,off,most,name,plan,())).1.2.2.2.1,(actS (lo,up,ep,z,l,ps,cs,()) (4,ep,pr,sq,key,v,off,most,name,plan,())).1.2.2.2.2.1,(actS (lo,up,ep,z,l,ps,cs,()) (4,ep,pr,sq,key,v,off,most,name,plan,())).1.2.2.2.2.2.1,(actS (lo,up,ep,z,l,ps,cs,()) (4,ep,pr,sq,key,v,off,most,name,plan,())).1.2.2.2.2.2.2.1,4,ep,pr,sq,key,v,off,most,name,plan,(actS (lo,up,ep,z,l,ps,cs,()) (4,ep,pr,sq,key,v,off,most,name,plan,())).2.1.1,(actS (lo,up,ep,z,l,ps,cs,()) (4,ep,pr,sq,key,v,off,most,name,plan,())).2.1.2.1,(actS (lo,up,ep,z,l,ps,cs,()) (4,ep,pr,sq,key,v,off,most,name,plan,())).2.1.2.2.1,(actS (lo,up,ep,z,l,ps,cs,()) (4,ep,pr,sq,key,v,off,most,name,plan,())).2.1.2.2.2.1,()),(),(),(),()),wForm s (actS (lo,up,ep,z,l,ps,cs,()) (4,ep,pr,sq,key,v,off,most,name,plan,())).2.2) := by
  have hll := (logOk_parts hl).1
  have b0:(ep != ep)=false := by simp
  unfold p62 actS
  simp only [p88_is _ _ _ _ _ _ _ _ _ _ hn hf,bind_val,hw,Bool.not_true,cond_false,b0,decide_true,cond_true,hs,mRes,mForm,orK_inl]
  simp only [Int.reduceBEq,Int.reduceEq,cond_true,cond_false,if_true,if_false,p118_is cs name hc.1 hf,bind_val]
  exact ⟨⟨#[]⟩,rfl⟩
theorem p62_k5 (lo up:ByteArray) (z:Int) (l:List Rd) (ps:List Pr) (cs:List Cn) (ep pr sq:Int) (key:ByteArray) (v:List Int) (off most:Int) (name:ByteArray) (plan:Int) (hl:logOk l=true) (hp:ps.length≤2097152) (hc:okL cs) (h0:0≤off) (hn:name.size≤1048576) (hf:4194304<fu) (hw:wfS (5,ep,pr,sq,key,v,off,most,name,plan,())=true) (s:ByteArray) (hs:p114 fu ((lo,up,ep,z,l,ps,cs,5,ep,pr,sq,key,v,off,most,name,plan,0,0,false,(),()),())=some (((lo,up,ep,z,l,ps,cs,5,ep,pr,sq,key,v,off,most,name,plan,0,(mRes none).1,(mRes none).2,(),()),(),(),(),()),mForm s none)) :
    ∃ s,p62 fu ((lo,up,ep,z,l,ps,cs,5,ep,pr,sq,key,v,off,most,name,plan,0,0,false,(),()),())=some ((((actS (lo,up,ep,z,l,ps,cs,()) (5,ep,pr,sq,key,v,off,most,name,plan,())).1.1,(actS (lo,up,ep,z,l,ps,cs,()) (5,ep,pr,sq,key,v,off,most,name,plan,())).1.2.1,(actS (lo,up,ep,z,l,ps,cs,()) (5,ep,pr,sq,key,v,off,most,name,plan,())).1.2.2.1,(actS (lo,up,ep,z,l,ps,cs,()) (5,ep,pr,sq,key,v,off,most,name,plan,())).1.2.2.2.1,(actS (lo,up,ep,z,l,ps,cs,()) (5,ep,pr,sq,key,v,off,most,name,plan,())).1.2.2.2.2.1,(actS (lo,up,ep,z,l,ps,cs,()) (5,ep,pr,sq,key,v,off,most,name,plan,())).1.2.2.2.2.2.1,(actS (lo,up,ep,z,l,ps,cs,()) (5,ep,pr,sq,key,v,off,most,name,plan,())).1.2.2.2.2.2.2.1,5,ep,pr,sq,key,v,off,most,name,plan,(actS (lo,up,ep,z,l,ps,cs,()) (5,ep,pr,sq,key,v,off,most,name,plan,())).2.1.1,(actS (lo,up,ep,z,l,ps,cs,()) (5,ep,pr,sq,key,v,off,most,name,plan,())).2.1.2.1,(actS (lo,up,ep,z,l,ps,cs,()) (5,ep,pr,sq,key,v,off,most,name,plan,())).2.1.2.2.1,(actS (lo,up,ep,z,l,ps,cs,()) (5,ep,pr,sq,key,v,off,most,name,plan,())).2.1.2.2.2.1,()),(),(),(),()),wForm s (actS (lo,up,ep,z,l,ps,cs,()) (5,ep,pr,sq,key,v,off,most,name,plan,())).2.2) := by
  have hll := (logOk_parts hl).1
  have b0:(ep != ep)=false := by simp
  unfold p62 actS
  simp only [p88_is _ _ _ _ _ _ _ _ _ _ hn hf,bind_val,hw,Bool.not_true,cond_false,b0,decide_true,cond_true,hs,mRes,mForm,orK_inl]
  simp only [Int.reduceBEq,Int.reduceEq,cond_true,cond_false,if_true,if_false]
  exact ⟨⟨#[]⟩,rfl⟩
theorem p62_k6 (lo up:ByteArray) (z:Int) (l:List Rd) (ps:List Pr) (cs:List Cn) (ep pr sq:Int) (key:ByteArray) (v:List Int) (off most:Int) (name:ByteArray) (plan:Int) (hl:logOk l=true) (hp:ps.length≤2097152) (hc:okL cs) (h0:0≤off) (hn:name.size≤1048576) (hf:4194304<fu) (hw:wfS (6,ep,pr,sq,key,v,off,most,name,plan,())=true) (s:ByteArray) (hs:p114 fu ((lo,up,ep,z,l,ps,cs,6,ep,pr,sq,key,v,off,most,name,plan,0,0,false,(),()),())=some (((lo,up,ep,z,l,ps,cs,6,ep,pr,sq,key,v,off,most,name,plan,0,(mRes none).1,(mRes none).2,(),()),(),(),(),()),mForm s none)) :
    ∃ s,p62 fu ((lo,up,ep,z,l,ps,cs,6,ep,pr,sq,key,v,off,most,name,plan,0,0,false,(),()),())=some ((((actS (lo,up,ep,z,l,ps,cs,()) (6,ep,pr,sq,key,v,off,most,name,plan,())).1.1,(actS (lo,up,ep,z,l,ps,cs,()) (6,ep,pr,sq,key,v,off,most,name,plan,())).1.2.1,(actS (lo,up,ep,z,l,ps,cs,()) (6,ep,pr,sq,key,v,off,most,name,plan,())).1.2.2.1,(actS (lo,up,ep,z,l,ps,cs,()) (6,ep,pr,sq,key,v,off,most,name,plan,())).1.2.2.2.1,(actS (lo,up,ep,z,l,ps,cs,()) (6,ep,pr,sq,key,v,off,most,name,plan,())).1.2.2.2.2.1,(actS (lo,up,ep,z,l,ps,cs,()) (6,ep,pr,sq,key,v,off,most,name,plan,())).1.2.2.2.2.2.1,(actS (lo,up,ep,z,l,ps,cs,()) (6,ep,pr,sq,key,v,off,most,name,plan,())).1.2.2.2.2.2.2.1,6,ep,pr,sq,key,v,off,most,name,plan,(actS (lo,up,ep,z,l,ps,cs,()) (6,ep,pr,sq,key,v,off,most,name,plan,())).2.1.1,(actS (lo,up,ep,z,l,ps,cs,()) (6,ep,pr,sq,key,v,off,most,name,plan,())).2.1.2.1,(actS (lo,up,ep,z,l,ps,cs,()) (6,ep,pr,sq,key,v,off,most,name,plan,())).2.1.2.2.1,(actS (lo,up,ep,z,l,ps,cs,()) (6,ep,pr,sq,key,v,off,most,name,plan,())).2.1.2.2.2.1,()),(),(),(),()),wForm s (actS (lo,up,ep,z,l,ps,cs,()) (6,ep,pr,sq,key,v,off,most,name,plan,())).2.2) := by
  have hll := (logOk_parts hl).1
  have b0:(ep != ep)=false := by simp
  unfold p62 actS
  simp only [p88_is _ _ _ _ _ _ _ _ _ _ hn hf,bind_val,hw,Bool.not_true,cond_false,b0,decide_true,cond_true,hs,mRes,mForm,orK_inl]
  simp only [Int.reduceBEq,Int.reduceEq,cond_true,cond_false,if_true,if_false]
  exact ⟨⟨#[]⟩,rfl⟩
theorem p62_is (lo up:ByteArray) (e z:Int) (l:List Rd) (ps:List Pr) (cs:List Cn) (k ep pr sq:Int) (key:ByteArray) (v:List Int) (off most:Int) (name:ByteArray) (plan:Int) (hl:logOk l=true) (hp:ps.length≤2097152) (hc:okL cs) (hn:name.size≤1048576) (h0:0≤off) (hf:4194304<fu) :
    ∃ s,p62 fu ((lo,up,e,z,l,ps,cs,k,ep,pr,sq,key,v,off,most,name,plan,0,0,false,(),()),())=some ((((wkS (lo,up,e,z,l,ps,cs,()) (k,ep,pr,sq,key,v,off,most,name,plan,())).1.1,(wkS (lo,up,e,z,l,ps,cs,()) (k,ep,pr,sq,key,v,off,most,name,plan,())).1.2.1,(wkS (lo,up,e,z,l,ps,cs,()) (k,ep,pr,sq,key,v,off,most,name,plan,())).1.2.2.1,(wkS (lo,up,e,z,l,ps,cs,()) (k,ep,pr,sq,key,v,off,most,name,plan,())).1.2.2.2.1,(wkS (lo,up,e,z,l,ps,cs,()) (k,ep,pr,sq,key,v,off,most,name,plan,())).1.2.2.2.2.1,(wkS (lo,up,e,z,l,ps,cs,()) (k,ep,pr,sq,key,v,off,most,name,plan,())).1.2.2.2.2.2.1,(wkS (lo,up,e,z,l,ps,cs,()) (k,ep,pr,sq,key,v,off,most,name,plan,())).1.2.2.2.2.2.2.1,k,ep,pr,sq,key,v,off,most,name,plan,(wkS (lo,up,e,z,l,ps,cs,()) (k,ep,pr,sq,key,v,off,most,name,plan,())).2.1.1,(wkS (lo,up,e,z,l,ps,cs,()) (k,ep,pr,sq,key,v,off,most,name,plan,())).2.1.2.1,(wkS (lo,up,e,z,l,ps,cs,()) (k,ep,pr,sq,key,v,off,most,name,plan,())).2.1.2.2.1,(wkS (lo,up,e,z,l,ps,cs,()) (k,ep,pr,sq,key,v,off,most,name,plan,())).2.1.2.2.2.1,()),(),(),(),()),wForm s (wkS (lo,up,e,z,l,ps,cs,()) (k,ep,pr,sq,key,v,off,most,name,plan,())).2.2) := by
  unfold wkS
  cases hw:wfS (k,ep,pr,sq,key,v,off,most,name,plan,()) with
  | false=>exact p62_wf _ _ _ _ _ _ _ _ _ _ _ _ _ _ _ _ _ hn hf hw
  | true =>
    simp only [Bool.true_eq_false,if_false]
    by_cases he:ep=e
    · subst he
      simp only [if_true]
      have hk := wf_kind hw
      have hm:∃ s,p114 fu ((lo,up,ep,z,l,ps,cs,k,ep,pr,sq,key,v,off,most,name,plan,0,0,false,(),()),())=some (((lo,up,ep,z,l,ps,cs,k,ep,pr,sq,key,v,off,most,name,plan,0,(mRes (mayS (lo,up,ep,z,l,ps,cs,()) (k,ep,pr,sq,key,v,off,most,name,plan,()))).1,(mRes (mayS (lo,up,ep,z,l,ps,cs,()) (k,ep,pr,sq,key,v,off,most,name,plan,()))).2,(),()),(),(),(),()),mForm s (mayS (lo,up,ep,z,l,ps,cs,()) (k,ep,pr,sq,key,v,off,most,name,plan,()))) := by
        simp only at hk
        rcases hk with rfl | rfl | rfl | rfl | rfl | rfl
        · exact p114_k1 _ _ _ _ _ _ _ _ _ _ _ _ _ _ _ _ hp hf
        · exact p114_k2 _ _ _ _ _ _ _ _ _ _ _ _ _ _ _ _ hp hf
        · exact p114_k3 _ _ _ _ _ _ _ _ _ _ _ _ _ _ _ _ hp hf
        · exact p114_k4 _ _ _ _ _ _ _ _ _ _ _ _ _ _ _ _ hp hf
        · exact p114_k5 _ _ _ _ _ _ _ _ _ _ _ _ _ _ _ _ hp hf
        · exact p114_k6 _ _ _ _ _ _ _ _ _ _ _ _ _ _ _ _ hp hf
      obtain ⟨s,hs⟩ := hm
      cases hmay:mayS (lo,up,ep,z,l,ps,cs,()) (k,ep,pr,sq,key,v,off,most,name,plan,()) with
      | some r =>
        rw [hmay] at hs
        cases r with
        | inl n=>exact ⟨s,p62_err lo up 0 z l ps cs _ _ _ _ _ _ _ _ _ _ hn hf hw s n hs⟩
        | inr r=>exact ⟨⟨#[]⟩,p62_done lo up 0 z l ps cs _ _ _ _ _ _ _ _ _ _ hn hf hw s r hs⟩
      | none =>
        rw [hmay] at hs
        simp only at hk
        rcases hk with rfl | rfl | rfl | rfl | rfl | rfl
        · exact p62_k1 _ _ _ _ _ _ _ _ _ _ _ _ _ _ _ hl hp hc h0 hn hf hw s hs
        · exact p62_k2 _ _ _ _ _ _ _ _ _ _ _ _ _ _ _ hl hp hc h0 hn hf hw s hs
        · exact p62_k3 _ _ _ _ _ _ _ _ _ _ _ _ _ _ _ hl hp hc h0 hn hf hw s hs
        · exact p62_k4 _ _ _ _ _ _ _ _ _ _ _ _ _ _ _ hl hp hc h0 hn hf hw s hs
        · exact p62_k5 _ _ _ _ _ _ _ _ _ _ _ _ _ _ _ hl hp hc h0 hn hf hw s hs
        · exact p62_k6 _ _ _ _ _ _ _ _ _ _ _ _ _ _ _ hl hp hc h0 hn hf hw s hs
    · simp only [if_neg he]
      exact p62_ep _ _ _ _ _ _ _ _ _ _ _ _ _ _ _ _ _ hn hf hw he
theorem p61_is (lo up:ByteArray) (e z:Int) (l:List Rd) (ps:List Pr) (cs:List Cn) (hl:logOk l=true) (hp:ps.length≤2097152) (hc:cs.length≤2097152) (hf:4194304<fu):p61 fu ((lo,up,e,z,l,ps,cs,()),())=some ((),(lo,up,e,z,l,ps,cs,())) := by
  have hn := (logOk_parts hl).1
  unfold p61
  simp only [p110_is l (logOk_fits hl) (show l.length<fu by omega),p111_is ps hp,p112_is cs hc,bind_val,decide_true,cond_true]
def zeroP:St16 := (⟨#[]⟩,⟨#[]⟩,0,0,[],[],[],())
def doS (p:St16) (c:Cm16):St16×Rs16 :=
  if chkS p=false then (zeroP,(165,0,false,[],())) else match (wkS p c).2.2 with
    | some (some e)=>(p,(e,0,false,[],()))
    | _=>((wkS p c).1,(wkS p c).2.1)
def bndC (c:Cm16):Prop := c.2.2.2.2.2.2.2.2.1.size≤1048576∧0≤c.2.2.2.2.2.2.1
theorem p14_is (p:St16) (c:Cm16) (hb:bndS p) (hc:bndC c) (hf:4194304<fu):p14 fu (p,c,())=some ((),((doS p c).1,(doS p c).2,())) := by
  have h10 := p10_is (fu := fu) p hb hf
  obtain ⟨lo,up,e,z,l,ps,cs,⟨⟩⟩ := p
  obtain ⟨k,ep,pr,sq,key,v,off,most,name,plan,⟨⟩⟩ := c
  obtain ⟨b1,b2,b3,b4⟩ := hb
  unfold p14 doS
  simp only [h10,bind_val]
  cases hk:chkS (lo,up,e,z,l,ps,cs,()) with
  | false=>simp only [cond_false,show ((165:Int) != 0)=true from rfl,cond_true,if_true]; rfl
  | true =>
    have hl:logOk l=true := by
      simp only [chkS,Bool.and_eq_true] at hk
      exact hk.2.2.1
    obtain ⟨s,hs⟩ := p62_is (fu := fu) lo up e z l ps cs k ep pr sq key v off most name plan hl b2 b3 hc.1 hc.2 hf
    simp only [cond_true,show ((0:Int) != 0)=false from rfl,cond_false,p61_is lo up e z l ps cs hl b2 b3.1 hf,bind_val,decide_true,Bool.true_eq_false,if_false,hs]
    cases hfo:(wkS (lo,up,e,z,l,ps,cs,()) (k,ep,pr,sq,key,v,off,most,name,plan,())).2.2 with
    | none=>rfl
    | some o =>
      cases o with
      | none=>rfl
      | some n=>rfl
end
section
variable {fu:Nat}
theorem loop_tot {R:Type} {S:Type} {f:S→Option (S ⊕ R)} {n:Nat} (mk:Nat→S) (rs:Bool→R) (hf:n<fu)
    (h:∀ i,i<n→(∃ b,f (mk i)=some (.inr (rs b))) ∨ f (mk i)=some (.inl (mk (i+1)))) (he:∃ b,f (mk n)=some (.inr (rs b))):∃ b,loopO fu f (mk 0)=some (rs b) := by
  have key:∀ k i m,i+k=n→k<m → ∃ b,loopO m f (mk i)=some (rs b) := by
    intro k
    induction k with
    | zero =>
      intro i m hi hm
      obtain ⟨m,rfl⟩:∃ q,m=q+1 := ⟨m-1,by omega⟩
      obtain rfl:i=n := by omega
      obtain ⟨b,hb⟩ := he
      exact ⟨b,by simp only [loopO,hb]⟩
    | succ k ih =>
      intro i m hi hm
      obtain ⟨m,rfl⟩:∃ q,m=q+1 := ⟨m-1,by omega⟩
      rcases h i (by omega) with ⟨b,hb⟩ | hb
      · exact ⟨b,by simp only [loopO,hb]⟩
      · obtain ⟨b,hb'⟩ := ih (i+1) m (by omega) (by omega)
        exact ⟨b,by simp only [loopO,hb]; exact hb'⟩
  exact key n 0 fu (by omega) hf
theorem p70_tot (a c:List Rd) (ha:a.length≤2097152) (hf:4194304<fu):∃ b,p70 fu (a,c,())=some ((),b) := by
  unfold p70
  by_cases hl:a.length=c.length
  · have b0:((a.length:Int) != (c.length:Int))=false := by simp [hl]
    simp only [b0,cond_false]
    refine loop_tot (n := a.length) (fun i=>(((i:Int),()),())) (fun b=>((),b)) (by omega) (fun i hi => ?_) ⟨true,by simp only [Int.lt_irrefl,decide_false,cond_false]; rfl⟩
    have hi':i<c.length := by omega
    simp only [Int.ofNat_lt,hi,hi',decide_true,cond_true,Int.natCast_nonneg,and_self,Int.toNat_natCast,i64_succ hi (by omega)]
    cases (a.getD i (dflt T_api_Record)).1 != (c.getD i (dflt T_api_Record)).1
    · cases !(ByteArray.toList (a.getD i (dflt T_api_Record)).2.1==ByteArray.toList (c.getD i (dflt T_api_Record)).2.1)
      · cases !(ByteArray.toList (strOfNums (a.getD i (dflt T_api_Record)).2.2.1)==ByteArray.toList (strOfNums (c.getD i (dflt T_api_Record)).2.2.1))
        · cases (a.getD i (dflt T_api_Record)).2.2.2.1 != (c.getD i (dflt T_api_Record)).2.2.2.1
          · cases (a.getD i (dflt T_api_Record)).2.2.2.2 != (c.getD i (dflt T_api_Record)).2.2.2.2
            · exact .inr rfl
            · exact .inl ⟨_,rfl⟩
          · exact .inl ⟨_,rfl⟩
        · exact .inl ⟨_,rfl⟩
      · exact .inl ⟨_,rfl⟩
    · exact .inl ⟨_,rfl⟩
  · have b0:((a.length:Int) != (c.length:Int))=true := by simp; omega
    simp only [b0,cond_true]
    exact ⟨_,rfl⟩
theorem p71_tot (a c:List Pr) (ha:a.length≤2097152) (hf:4194304<fu):∃ b,p71 fu (a,c,())=some ((),b) := by
  unfold p71
  by_cases hl:a.length=c.length
  · have b0:((a.length:Int) != (c.length:Int))=false := by simp [hl]
    simp only [b0,cond_false]
    refine loop_tot (n := a.length) (fun i=>(((i:Int),()),())) (fun b=>((),b)) (by omega) (fun i hi => ?_) ⟨true,by simp only [Int.lt_irrefl,decide_false,cond_false]; rfl⟩
    have hi':i<c.length := by omega
    simp only [Int.ofNat_lt,hi,hi',decide_true,cond_true,Int.natCast_nonneg,and_self,Int.toNat_natCast,i64_succ hi (by omega)]
    generalize (!((a.getD i (dflt T_api_Producer)).1==(c.getD i (dflt T_api_Producer)).1 && ((a.getD i (dflt T_api_Producer)).2.1==(c.getD i (dflt T_api_Producer)).2.1 && ((a.getD i (dflt T_api_Producer)).2.2.1==(c.getD i (dflt T_api_Producer)).2.2.1 && ((a.getD i (dflt T_api_Producer)).2.2.2==(c.getD i (dflt T_api_Producer)).2.2.2 && true)))))=q
    cases q
    · exact .inr rfl
    · exact .inl ⟨_,rfl⟩
  · have b0:((a.length:Int) != (c.length:Int))=true := by simp; omega
    simp only [b0,cond_true]
    exact ⟨_,rfl⟩
theorem p72_tot (a c:List Cn) (ha:a.length≤2097152) (hf:4194304<fu):∃ b,p72 fu (a,c,())=some ((),b) := by
  unfold p72
  by_cases hl:a.length=c.length
  · have b0:((a.length:Int) != (c.length:Int))=false := by simp [hl]
    simp only [b0,cond_false]
    refine loop_tot (n := a.length) (fun i=>(((i:Int),()),())) (fun b=>((),b)) (by omega) (fun i hi => ?_) ⟨true,by simp only [Int.lt_irrefl,decide_false,cond_false]; rfl⟩
    have hi':i<c.length := by omega
    simp only [Int.ofNat_lt,hi,hi',decide_true,cond_true,Int.natCast_nonneg,and_self,Int.toNat_natCast,i64_succ hi (by omega)]
    generalize (!((a.getD i (dflt T_runtime_errorAddressString)).1==(c.getD i (dflt T_runtime_errorAddressString)).1 && ((a.getD i (dflt T_runtime_errorAddressString)).2==(c.getD i (dflt T_runtime_errorAddressString)).2 && true)))=q
    cases q
    · exact .inr rfl
    · exact .inl ⟨_,rfl⟩
  · have b0:((a.length:Int) != (c.length:Int))=true := by simp; omega
    simp only [b0,cond_true]
    exact ⟨_,rfl⟩
theorem p16_tot (p q:St16) (h1:p.2.2.2.2.1.length≤2097152) (h2:p.2.2.2.2.2.1.length≤2097152) (h3:p.2.2.2.2.2.2.1.length≤2097152) (hf:4194304<fu) :
    ∃ b,p16 fu (p,q,())=some ((),b)∧(p=q→b=true) := by
  obtain ⟨lo,up,e,z,l,ps,cs,⟨⟩⟩ := p
  obtain ⟨lo',up',e',z',l',ps',cs',⟨⟩⟩ := q
  by_cases heq:((lo,up,e,z,l,ps,cs,()):St16)=(lo',up',e',z',l',ps',cs',())
  · refine ⟨true,?_,fun _=>rfl⟩
    simp only [Prod.mk.injEq] at heq
    obtain ⟨rfl,rfl,rfl,rfl,rfl,rfl,rfl,-⟩ := heq
    unfold p16
    have g2:ps.length≤2097152 := h2
    simp only [p70_same l h1 hf,p71_refl ps (by omega) (show ps.length<fu by omega),p72_is cs h3 hf,bind_val,cond_true,beq_self_eq_true,self_beq,Bool.and_self]
  · obtain ⟨b1,e1⟩ := p70_tot (fu := fu) l l' h1 hf
    obtain ⟨b2,e2⟩ := p71_tot (fu := fu) ps ps' h2 hf
    obtain ⟨b3,e3⟩ := p72_tot (fu := fu) cs cs' h3 hf
    unfold p16
    simp only [e1,e2,e3,bind_val]
    generalize (lo==lo' && (up==up' && true))=b4
    generalize (e==e')=b5
    generalize (z==z')=b6
    cases b1 <;> cases b2 <;> cases b3 <;> cases b4 <;> cases b5 <;> exact ⟨_,rfl,fun h=>absurd h heq⟩
def seqO (ps:List Pr) (id:Int):Int := match find ps id with | some y=>y.2.1 | none=>0
theorem rec_iff (lo hi:ByteArray) (ps:List Pr) (b:List Rd) (x:Rd):recOk1 lo hi ps b x=true ↔ ∃ y,find ps x.2.2.2.1=some y∧hasB lo hi x.2.1=true∧lastS b x.2.2.2.1<x.2.2.2.2∧x.2.2.2.2≤y.2.1 := by
  unfold recOk1
  rw [findP_is ps x.2.2.2.1 noPr]
  simp only [Bool.and_eq_true,decide_eq_true_eq]
  by_cases h:findI ps x.2.2.2.1<ps.length
  · simp only [h,if_true,true_and,Option.some.injEq]
    constructor
    · rintro ⟨h1,h2,h3⟩; exact ⟨_,rfl,h1,h2,h3⟩
    · rintro ⟨y,rfl,h1,h2,h3⟩; exact ⟨h1,h2,h3⟩
  · simp [h]
def RecsOk (lo hi:ByteArray) (ps:List Pr) (l:List Rd):Prop := ∀ j (h:j<l.length),∃ y,find ps l[j].2.2.2.1=some y∧hasB lo hi l[j].2.1=true∧lastS (l.take j) l[j].2.2.2.1<l[j].2.2.2.2∧l[j].2.2.2.2≤y.2.1
theorem recs_iff (lo hi:ByteArray) (ps:List Pr) (l:List Rd):(List.range l.length).all (recOk lo hi ps l)=true ↔ RecsOk lo hi ps l := by
  rw [List.all_eq_true]
  constructor
  · intro h j hj
    have := h j (List.mem_range.2 hj)
    unfold recOk at this
    rw [getD_lt hj,rec_iff] at this
    exact this
  · intro h j hj
    have hj' := List.mem_range.1 hj
    unfold recOk
    rw [getD_lt hj',rec_iff]
    exact h j hj'
theorem chk_iff (lo hi:ByteArray) (e z:Int) (l:List Rd) (ps:List Pr) (cs:List Cn):chkS (lo,hi,e,z,l,ps,cs,())=true ↔
    chkB lo hi=0∧e ≠ 0∧logOk l=true∧tabI ps=true∧okC cs=true∧RecsOk lo hi ps l∧(∀ y ∈ ps,proOk l y=true) ∧ ∀ y ∈ cs,y.2≤(l.length:Int) := by
  unfold chkS
  simp only [Bool.and_eq_true,beq_iff_eq,bne_iff_ne]
  rw [recs_iff]
  simp only [List.all_eq_true,conOk,decide_eq_true_eq]
theorem tab_pos {ps:List Pr} (h:tabI ps=true) {id:Int} {y:Pr} (hy:find ps id=some y):1≤y.2.1∧y.1=id∧y ∈ ps := by
  unfold find at hy
  have h1 := List.mem_of_find?_eq_some hy
  have h2:(y.1==id)=true := by
    have := List.find?_some hy
    exact this
  have h3 := ((tab_iff ps).1 h).1 y h1
  unfold okP seqB at h3
  simp only [Bool.and_eq_true,decide_eq_true_eq] at h3
  exact ⟨h3.2.1.1,by simpa using h2,h1⟩
theorem last_le {lo hi:ByteArray} {ps:List Pr} {l:List Rd} (ht:tabI ps=true) (h:RecsOk lo hi ps l) (id:Int):∀ n,n≤l.length→lastS (l.take n) id≤seqO ps id
  | 0,_=>by
    simp only [List.take_zero,lastS,List.foldl_nil]
    unfold seqO
    cases hy:find ps id with
    | none=>exact Int.le_refl _
    | some y=>have := (tab_pos ht hy).1; simp only; omega
  | n+1,hn=>by
    have ih := last_le ht h id n (by omega)
    rw [take_snoc' (show n<l.length by omega) noRec,getD_lt (show n<l.length by omega),lastS_snoc]
    split
    · rename_i e
      obtain ⟨y,h1,_,_,h4⟩ := h n (by omega)
      rw [e] at h1
      unfold seqO
      rw [h1]
      exact h4
    · exact ih
theorem okC_iff (l:List Cn):okC l=true ↔ Rises l∧(∀ x ∈ l,nameB x.1=true)∧l.length≤64 := by
  constructor
  · intro h
    refine ⟨(okC_rises h).1,fun x hx => ?_,(okC_rises h).2⟩
    obtain ⟨i,hi,rfl⟩ := List.getElem_of_mem hx
    unfold okC at h
    cases hb:(List.range l.length).any (bad l) with
    | true=>rw [hb] at h; exact absurd h Bool.false_ne_true
    | false =>
      have := List.any_eq_false.1 hb i (List.mem_range.2 hi)
      unfold bad at this
      rw [getD_lt hi] at this
      cases hn:nameB l[i].1 with
      | false=>rw [hn] at this; exact absurd rfl this
      | true=>rfl
  · rintro ⟨h1,h2,h3⟩
    unfold okC
    have:(List.range l.length).any (bad l)=false := by
      rw [List.any_eq_false]
      intro i hi
      have hi' := List.mem_range.1 hi
      unfold bad
      rw [getD_lt hi',h2 _ (List.getElem_mem hi')]
      simp only [Bool.not_true,cond_false]
      by_cases h0:0<i
      · have g:∀ d,l.getD (i-1) d=l[i-1] := fun d=>getD_lt (by omega)
        have := List.pairwise_iff_getElem.1 h1 (i-1) i (by omega) hi' (by omega)
        simp only [h0,decide_true,cond_true,g,less_ky,this,Bool.not_true]
        exact Bool.false_ne_true
      · simp only [h0,decide_false,cond_false]
        exact Bool.false_ne_true
    rw [this]
    simpa using h3
theorem name_size {a:ByteArray} (h:nameB a=true):a.size≤32 := by
  unfold nameB at h
  cases hq:(numsOf a).any qb with
  | true=>rw [hq] at h; cases h
  | false=>rw [hq] at h; simp only [cond_false,decide_eq_true_eq] at h; exact h.2
theorem judge_new {ps:List Pr} {pr sq:Int} (h:(judge ps pr sq).1=1):pr ≠ 0∧seqB sq=true∧seqO ps pr<sq := by
  unfold judge at h
  by_cases h0:pr=0
  · simp [h0] at h
  · cases hs:seqB sq with
    | false=>simp [h0,hs] at h
    | true =>
      refine ⟨h0,rfl,?_⟩
      have hq:1≤sq := by
        unfold seqB at hs
        simp only [Bool.and_eq_true,decide_eq_true_eq] at hs
        exact hs.1
      unfold seqO
      cases hf:find ps pr with
      | none=>simp only; omega
      | some y =>
        simp only [h0,hs,hf,if_false,Bool.true_eq_false] at h
        by_cases h1:sq>y.2.1
        · exact h1
        · simp only [h1,if_false] at h
          split at h <;> simp at h
theorem put_ok {ps:List Pr} {x:Pr} (hx:x.1 ≠ 0∧seqB x.2.1=true∧(x.2.2.1=true ∨ x.2.2.2=0)) (h:(putS ps x).2=0):(putS ps x).1=ins ps x∧tabI (ins ps x)=true := by
  unfold putS at h ⊢
  cases ht:tabI ps with
  | false=>simp [ht] at h
  | true =>
    simp only [ht,Bool.true_eq_false,if_false] at h ⊢
    by_cases g1:(judge ps x.1 x.2.1).1=4
    · simp [g1] at h
    by_cases g2:(judge ps x.1 x.2.1).1=2
    · simp [g2] at h
    by_cases g3:(judge ps x.1 x.2.1).1=3
    · simp [g3] at h
    by_cases g4:(ins ps x).length>256
    · simp [g1,g2,g3,g4] at h
    simp only [g1,g2,g3,g4,if_false]
    refine ⟨trivial,ins_tab ht ?_ (by omega)⟩
    unfold okP
    simp only [Bool.and_eq_true,Bool.not_eq_true',beq_eq_false_iff_ne,Bool.or_eq_true,beq_iff_eq]
    exact ⟨hx.1,hx.2.1,hx.2.2⟩
theorem proOk_app {l:List Rd} {y:Pr} (r:List Rd) (h0:0≤y.2.2.2) (h:proOk l y=true):proOk (l ++ r) y=true := by
  unfold proOk at h ⊢
  cases hh:y.2.2.1 with
  | false=>rfl
  | true =>
    rw [hh] at h
    simp only [Bool.not_true,Bool.false_or,Bool.and_eq_true,decide_eq_true_eq] at h ⊢
    have hn:y.2.2.2.toNat<l.length := by omega
    have e:(l ++ r).getD y.2.2.2.toNat noRec=l.getD y.2.2.2.toNat noRec := by
      rw [List.getD_eq_getElem?_getD,List.getD_eq_getElem?_getD,List.getElem?_append_left hn]
    rw [e]
    exact ⟨by rw [List.length_append]; omega,h.2⟩
end
section
variable {fu:Nat}
def InvP (p:St16):Prop := chkS p=true∧(∀ y ∈ p.2.2.2.2.2.1,0≤y.2.2.2) ∧ ∀ y ∈ p.2.2.2.2.2.2.1,0≤y.2
theorem nx {k m:Int} (h:k=m) (hn:(k==m)=false):False := by simp [h] at hn
theorem inv_bnd {p:St16} (h:InvP p):bndS p := by
  obtain ⟨lo,up,e,z,l,ps,cs,⟨⟩⟩ := p
  obtain ⟨h1,h2,h3⟩ := h
  obtain ⟨-,-,g1,g2,g3,-,-,g4⟩ := (chk_iff lo up e z l ps cs).1 h1
  have n1 := (logOk_parts g1).1
  have n2 := ((tab_iff ps).1 g2).2.2
  obtain ⟨-,n3,n4⟩ := (okC_iff cs).1 g3
  refine ⟨by omega,by omega,⟨by omega,fun x hx => ?_⟩,h2⟩
  have := name_size (n3 x hx)
  have a1 := h3 x hx
  have a2 := g4 x hx
  exact ⟨by omega,a1,by omega⟩
theorem logOk_of {l:List Rd} (h:l.length≤4096) (hx:∀ i (hi:i<l.length),l[i].1=(i:Int)∧l[i].2.1.size≤32∧l[i].2.2.1.length≤256):logOk l=true := by
  unfold logOk
  have:(List.range l.length).any (wrong l)=false := by
    rw [List.any_eq_false]
    intro i hi
    have hi' := List.mem_range.1 hi
    obtain ⟨h1,h2,h3⟩ := hx i hi'
    unfold wrong
    rw [getD_lt hi']
    have g1:(l[i].1 != (i:Int))=false := by simp [h1]
    have g2:¬ l[i].2.1.size>32 := by omega
    have g3:¬ l[i].2.2.1.length>256 := by omega
    simp [g1,g2,g3]
  rw [this]
  simpa using h
theorem prod_inv {lo up:ByteArray} {e z:Int} {l:List Rd} {ps:List Pr} {cs:List Cn} {pr sq:Int} {key:ByteArray} {v:List Int} (h:chkS (lo,up,e,z,l,ps,cs,())=true) (h0:∀ y ∈ ps,0≤y.2.2.2)
    (hh:hasB lo up key=true) (hj:(judge ps pr sq).1=1) (hk:key.size≤32) (hv:v.length≤256) (he:(prodS l ps pr sq key v).2.2.2=0) :
    prodS l ps pr sq key v=(l ++ [((l.length:Int),key,v,pr,sq)],ins ps (pr,sq,true,(l.length:Int)),(l.length:Int),0) ∧
      chkS (lo,up,e,z,l ++ [((l.length:Int),key,v,pr,sq)],ins ps (pr,sq,true,(l.length:Int)),cs,())=true := by
  obtain ⟨a1,a2,a3,a4,a5,a6,a7,a8⟩ := (chk_iff lo up e z l ps cs).1 h
  obtain ⟨j1,j2,j3⟩ := judge_new hj
  unfold prodS at he ⊢
  by_cases hn:l.length<4096
  · simp only [hn,if_true] at he ⊢
    by_cases hp:(putS ps (pr,sq,true,(l.length:Int))).2=0
    · obtain ⟨p1,p2⟩ := put_ok (ps := ps) (x := (pr,sq,true,(l.length:Int))) ⟨j1,j2,.inl rfl⟩ hp
      simp only [hp,if_true,p1]
      refine ⟨trivial,?_⟩
      rw [chk_iff]
      obtain ⟨b1,b2⟩ := logOk_parts a3
      refine ⟨a1,a2,logOk_of (by rw [List.length_append]; simp; omega) fun i hi => ?_,p2,a5,fun j hj => ?_,fun y hy => ?_,fun y hy => ?_⟩
      · rw [List.length_append,List.length_singleton] at hi
        by_cases hi':i<l.length
        · rw [List.getElem_append_left hi']
          exact b2 i hi'
        · obtain rfl:i=l.length := by omega
          rw [List.getElem_append_right (Nat.le_refl _)]
          simp only [Nat.sub_self,List.getElem_cons_zero]
          exact ⟨trivial,hk,hv⟩
      · rw [List.length_append,List.length_singleton] at hj
        by_cases hi':j<l.length
        · rw [List.getElem_append_left hi',List.take_append_of_le_length (by omega)]
          obtain ⟨y,c1,c2,c3,c4⟩ := a6 j hi'
          rw [ins_find]
          by_cases hq:pr=l[j].2.2.2.1
          · refine ⟨_,if_pos hq,c2,c3,?_⟩
            have:seqO ps pr=y.2.1 := by unfold seqO; rw [hq,c1]
            simp only
            omega
          · exact ⟨y,by rw [if_neg hq]; exact c1,c2,c3,c4⟩
        · obtain rfl:j=l.length := by omega
          rw [List.getElem_append_right (Nat.le_refl _),List.take_append_of_le_length (Nat.le_refl _),List.take_length]
          simp only [Nat.sub_self,List.getElem_cons_zero]
          have := last_le a4 a6 pr l.length (Nat.le_refl _)
          rw [List.take_length] at this
          exact ⟨_,by rw [ins_find,if_pos rfl],hh,by omega,Int.le_refl _⟩
      · rcases ins_mem hy with rfl | hy
        · unfold proOk
          have hg:(l ++ [((l.length:Int),key,v,pr,sq)]).getD l.length noRec=((l.length:Int),key,v,pr,sq) := by
            rw [List.getD_eq_getElem?_getD,List.getElem?_append_right (Nat.le_refl _)]; simp
          simp only [Int.toNat_natCast,hg,List.length_append,List.length_singleton,beq_self_eq_true,Bool.and_self,Bool.and_true,Bool.not_true,Bool.false_or,decide_eq_true_eq]
          omega
        · exact proOk_app _ (h0 y hy) (a7 y hy)
      · have := a8 y hy
        rw [List.length_append]
        omega
    · simp only [hp,if_false] at he
  · simp [hn] at he
theorem com_inv {lo up:ByteArray} {e z:Int} {l:List Rd} {ps:List Pr} {cs:List Cn} {pr sq:Int} {name:ByteArray} {off:Int} (h:chkS (lo,up,e,z,l,ps,cs,())=true)
    (hj:(judge ps pr sq).1=1) (he:(comS cs ps pr sq name off (l.length:Int)).2.2.2=0) :
    comS cs ps pr sq name off (l.length:Int)=(ins ps (pr,sq,false,0),insS cs (name,off),off,0) ∧
      chkS (lo,up,e,z,l,ins ps (pr,sq,false,0),insS cs (name,off),())=true := by
  obtain ⟨a1,a2,a3,a4,a5,a6,a7,a8⟩ := (chk_iff lo up e z l ps cs).1 h
  obtain ⟨j1,j2,j3⟩ := judge_new hj
  unfold comS at he ⊢
  by_cases hn:(commitS cs name off (l.length:Int)).2=0
  · simp only [hn,if_true] at he ⊢
    by_cases hp:(putS ps (pr,sq,false,0)).2=0
    · obtain ⟨p1,p2⟩ := put_ok (ps := ps) (x := (pr,sq,false,0)) ⟨j1,j2,.inr rfl⟩ hp
      simp only [hp,if_true,p1]
      have hc:(commitS cs name off (l.length:Int)).1=insS cs (name,off)∧nameB name=true∧off≤(l.length:Int)∧(insS cs (name,off)).length≤64 := by
        unfold commitS at hn ⊢
        rw [a5] at hn ⊢
        simp only [Bool.not_true,cond_false] at hn ⊢
        cases hnm:nameB name with
        | false=>rw [hnm] at hn; simp at hn
        | true =>
          rw [hnm] at hn
          simp only [Bool.not_true,cond_false] at hn ⊢
          by_cases g1:off>(l.length:Int)
          · simp [g1] at hn
          · by_cases g2:(insS cs (name,off)).length≤64
            · simp only [g1,g2,decide_true,decide_false,cond_true,cond_false]
              exact ⟨trivial,trivial,by omega,trivial⟩
            · simp [g1,g2] at hn
      obtain ⟨c1,c2,c3,c4⟩ := hc
      rw [c1]
      refine ⟨rfl,?_⟩
      rw [chk_iff]
      obtain ⟨o1,o2,o3⟩ := (okC_iff cs).1 a5
      refine ⟨a1,a2,a3,p2,(okC_iff _).2 ⟨rises_insS o1,fun x hx => ?_,c4⟩,fun j hj => ?_,fun y hy => ?_,fun y hy => ?_⟩
      · rcases mem_insS hx with rfl | hx
        · exact c2
        · exact o2 x hx
      · obtain ⟨y,d1,d2,d3,d4⟩ := a6 j hj
        rw [ins_find]
        by_cases hq:pr=l[j].2.2.2.1
        · refine ⟨_,if_pos hq,d2,d3,?_⟩
          have:seqO ps pr=y.2.1 := by unfold seqO; rw [hq,d1]
          simp only
          omega
        · exact ⟨y,by rw [if_neg hq]; exact d1,d2,d3,d4⟩
      · rcases ins_mem hy with rfl | hy
        · rfl
        · exact a7 y hy
      · rcases mem_insS hy with rfl | hy
        · exact c3
        · exact a8 y hy
    · simp only [hp,if_false] at he
  · simp only [hn,if_false] at he
theorem mayS_err {p:St16} {c:Cm16} {n:Int} (h:mayS p c=some (.inl n)):n ≠ 0 := by
  obtain ⟨lo,up,e,z,l,ps,cs,⟨⟩⟩ := p
  obtain ⟨k,ep,pr,sq,key,v,off,most,name,plan,⟨⟩⟩ := c
  unfold mayS at h
  simp only at h
  repeat' split at h
  all_goals first | (simp only [Option.some.injEq,Sum.inl.injEq] at h; omega) | (simp at h; done)
theorem judge_old {ps:List Pr} {pr sq:Int} (h:(judge ps pr sq).1=2):∃ y,find ps pr=some y∧sq=y.2.1∧y.2.2.1=true∧(judge ps pr sq).2=y.2.2.2 := by
  unfold judge at h ⊢
  by_cases h0:pr=0
  · simp [h0] at h
  · cases hs:seqB sq with
    | false=>simp [h0,hs] at h
    | true =>
      cases hf:find ps pr with
      | none=>simp [h0,hs,hf] at h
      | some y =>
        simp only [h0,hs,hf,if_false,Bool.true_eq_false] at h ⊢
        by_cases h1:sq>y.2.1
        · simp [h1] at h
        · by_cases h2:sq=y.2.1∧y.2.2.1=true
          · rw [if_neg h1,if_pos h2]
            exact ⟨y,rfl,h2.1,h2.2,rfl⟩
          · simp [h1,h2] at h
theorem judge_ins (ps:List Pr) {pr sq:Int} (b:Bool) (o:Int) (h0:pr ≠ 0) (hs:seqB sq=true):judge (ins ps (pr,sq,b,o)) pr sq=if b=true then (2,o) else (3,0) := by
  unfold judge
  rw [ins_find]
  simp [h0,hs]
structure Left (p:St16) (c:Cm16) (d:St16×Rs16):Prop where
  inv:InvP d.1
  same:d.2.1 ≠ 0 ∨ c.1=2 ∨ c.1=4→d.1=p
  recs:d.1.2.2.2.2.1=p.2.2.2.2.1 ∨ ∃ x,d.1.2.2.2.2.1=p.2.2.2.2.1 ++ [x]
  there:c.1=1→d.2.1=0→0≤d.2.2.1 ∧ ∃ h:d.2.2.1.toNat<d.1.2.2.2.2.1.length,(d.1.2.2.2.2.1[d.2.2.1.toNat]).2.2.2.1=c.2.2.1∧(d.1.2.2.2.2.1[d.2.2.1.toNat]).2.2.2.2=c.2.2.2.1
  again:(doS d.1 c).1=d.1∧(doS d.1 c).2.1=d.2.1∧(d.2.1=0→c.1=3→(doS d.1 c).2.2.2.1=true)
theorem left_still {p:St16} {c:Cm16} {r:Rs16} (hI:InvP p) (hd:doS p c=(p,r)) (h1:c.1=1→r.1=0→0≤r.2.1 ∧ ∃ h:r.2.1.toNat<p.2.2.2.2.1.length,(p.2.2.2.2.1[r.2.1.toNat]).2.2.2.1=c.2.2.1∧(p.2.2.2.2.1[r.2.1.toNat]).2.2.2.2=c.2.2.2.1)
    (h3:r.1=0→c.1=3→r.2.2.1=true):Left p c (doS p c) := by
  rw [hd]
  exact ⟨hI,fun _=>rfl,.inl rfl,h1,by rw [hd]; exact ⟨rfl,rfl,h3⟩⟩
theorem wkS_may {p:St16} {c:Cm16} (hw:wfS c=true) (he:c.2.1=p.2.2.1):wkS p c=match mayS p c with
    | some (.inl n)=>(p,(0,0,false,[],()),some (some n))
    | some (.inr r)=>(p,(0,r.1,r.2,[],()),some none)
    | none=>actS p c := by
  unfold wkS
  simp only [hw,he,Bool.true_eq_false,if_false,if_true] <;> rcases mayS p c with _ | _ | _ <;> rfl
theorem doS_chk {p:St16} {c:Cm16} (h:chkS p=true):doS p c=match (wkS p c).2.2 with
    | some (some e)=>(p,(e,0,false,[],()))
    | _=>((wkS p c).1,(wkS p c).2.1) := by
  unfold doS
  simp only [h,Bool.true_eq_false,if_false] <;> rcases (wkS p c).2.2 with _ | _ | _ <;> rfl
theorem do_left (p:St16) (c:Cm16) (hI:InvP p) (hc:bndC c):Left p c (doS p c) := by
  have hchk := hI.1
  cases hw:wfS c with
  | false =>
    refine left_still (r := (161,0,false,[],())) hI ?_ (fun _ h=>(nx h rfl).elim) (fun h=>(nx h rfl).elim)
    rw [doS_chk hchk]
    unfold wkS
    simp only [hw,if_true]
  | true =>
    by_cases he:c.2.1=p.2.2.1
    · have hwk := wkS_may (p := p) hw he
      cases hm:mayS p c with
      | some r =>
        rw [hm] at hwk
        cases r with
        | inl n =>
          refine left_still (r := (n,0,false,[],())) hI ?_ (fun _ h=>absurd h (mayS_err hm)) (fun h=>absurd h (mayS_err hm))
          rw [doS_chk hchk,hwk]
        | inr r =>
          have hd:doS p c=(p,(0,r.1,r.2,[],())) := by rw [doS_chk hchk,hwk]
          obtain ⟨lo,up,e,z,l,ps,cs,⟨⟩⟩ := p
          obtain ⟨k,ep,pr,sq,key,v,off,most,name,plan,⟨⟩⟩ := c
          obtain ⟨a1,a2,a3,a4,a5,a6,a7,a8⟩ := (chk_iff lo up e z l ps cs).1 hchk
          refine left_still hI hd (fun h1 _ => ?_) (fun _ h3 => ?_)
          · simp only at h1
            subst h1
            rw [mayS_is] at hm
            simp only [if_true] at hm
            by_cases hh:hasB lo up key=true
            · rw [if_pos hh] at hm
              unfold nwS at hm
              by_cases j1:(judge ps pr sq).1=1
              · simp only [j1,if_true,Option.none_or] at hm
                split at hm <;> simp at hm
              · by_cases j2:(judge ps pr sq).1=2
                · simp only [j2,if_true,Option.some_or,Option.some.injEq,Sum.inr.injEq,show ¬ ((2:Int)=1) by decide,show ¬ ((1:Int)=3) by decide,if_false] at hm
                  obtain ⟨y,y1,y2,y3,y4⟩ := judge_old j2
                  have hy := tab_pos a4 y1
                  have hpo := a7 y hy.2.2
                  unfold proOk at hpo
                  rw [y3] at hpo
                  simp only [Bool.not_true,Bool.false_or,Bool.and_eq_true,decide_eq_true_eq,beq_iff_eq] at hpo
                  have hz := hI.2.1 y hy.2.2
                  have hlt:y.2.2.2.toNat<l.length := by omega
                  rw [getD_lt hlt] at hpo
                  subst hm
                  simp only [y4]
                  exact ⟨hz,hlt,by rw [hpo.2.1]; exact hy.2.1,by rw [hpo.2.2]; exact y2.symm⟩
                · simp [j1,j2] at hm
            · rw [if_neg hh] at hm; simp at hm
          · simp only at h3
            subst h3
            rw [mayS_is] at hm
            simp only [if_true,show ¬ ((3:Int)=1) by decide,if_false] at hm
            unfold nwS at hm
            by_cases j1:(judge ps pr sq).1=1
            · simp only [j1,if_true,Option.none_or] at hm
              split at hm <;> simp at hm
            · simp only [j1,if_true,if_false,Option.some_or,Option.some.injEq,Sum.inr.injEq] at hm
              subst hm
              rfl
      | none =>
        rw [hm] at hwk
        simp only at hwk
        obtain ⟨lo,up,e,z,l,ps,cs,⟨⟩⟩ := p
        obtain ⟨k,ep,pr,sq,key,v,off,most,name,plan,⟨⟩⟩ := c
        simp only at he
        subst he
        have hk := wf_kind hw
        simp only at hk
        rw [mayS_is] at hm
        rcases hk with rfl | rfl | rfl | rfl | rfl | rfl
        · -- a record
          simp only [if_true] at hm
          by_cases hh:hasB lo up key=true
          · rw [if_pos hh] at hm
            have j1:(judge ps pr sq).1=1 := by
              by_cases j1:(judge ps pr sq).1=1
              · exact j1
              · unfold nwS at hm
                by_cases j2:(judge ps pr sq).1=2 <;> simp [j1,j2] at hm
            obtain ⟨j2,j3,j4⟩ := judge_new j1
            have hwf := hw
            simp only [wfS,if_true,Bool.and_eq_true,decide_eq_true_eq] at hwf
            by_cases hp:(prodS l ps pr sq key v).2.2.2=0
            · obtain ⟨q1,q2⟩ := prod_inv hchk hI.2.1 hh j1 hwf.2.1 hwf.2.2 hp
              have hd:doS (lo,up,ep,z,l,ps,cs,()) (1,ep,pr,sq,key,v,off,most,name,plan,())=((lo,up,ep,z,l ++ [((l.length:Int),key,v,pr,sq)],ins ps (pr,sq,true,(l.length:Int)),cs,()),(0,(l.length:Int),false,[],())) := by
                rw [doS_chk hchk,hwk]
                unfold actS errF
                simp only [q1,if_true]
              have hInv:InvP (lo,up,ep,z,l ++ [((l.length:Int),key,v,pr,sq)],ins ps (pr,sq,true,(l.length:Int)),cs,()) := by
                refine ⟨q2,fun y hy => ?_,hI.2.2⟩
                rcases ins_mem hy with rfl | hy
                · exact Int.natCast_nonneg _
                · exact hI.2.1 y hy
              have hd2:doS (lo,up,ep,z,l ++ [((l.length:Int),key,v,pr,sq)],ins ps (pr,sq,true,(l.length:Int)),cs,()) (1,ep,pr,sq,key,v,off,most,name,plan,())=((lo,up,ep,z,l ++ [((l.length:Int),key,v,pr,sq)],ins ps (pr,sq,true,(l.length:Int)),cs,()),(0,(l.length:Int),true,[],())) := by
                rw [doS_chk q2,wkS_may hw rfl,mayS_is]
                unfold nwS
                rw [judge_ins ps true _ j2 j3]
                simp only [if_true,hh,show ¬ ((2:Int)=1) by decide,show ¬ ((1:Int)=3) by decide,if_false,Option.some_or]
              rw [hd]
              refine ⟨hInv,fun h => ?_,.inr ⟨_,rfl⟩,fun _ _=>⟨Int.natCast_nonneg _,?_⟩,by rw [hd2]; exact ⟨rfl,rfl,fun _ h=>(nx h rfl).elim⟩⟩
              · rcases h with h | h | h
                · exact absurd rfl h
                · exact (nx h rfl).elim
                · exact (nx h rfl).elim
              · simp only [Int.toNat_natCast]
                refine ⟨by rw [List.length_append]; simp,?_⟩
                rw [List.getElem_append_right (Nat.le_refl _)]
                simp only [Nat.sub_self,List.getElem_cons_zero]
                exact ⟨trivial,trivial⟩
            · refine left_still (r := ((prodS l ps pr sq key v).2.2.2,0,false,[],())) hI ?_ (fun _ h=>absurd h hp) (fun h=>absurd h hp)
              rw [doS_chk hchk,hwk]
              unfold actS errF
              simp only [if_true,hp,if_false]
          · rw [if_neg hh] at hm; simp at hm
        · -- a fetch
          by_cases hp:(fetchS l off most).2.2=0
          · refine left_still (r := (0,(fetchS l off most).2.1,false,(fetchS l off most).1,())) hI ?_ (fun h=>(nx h rfl).elim) (fun _ h=>(nx h rfl).elim)
            rw [doS_chk hchk,hwk]
            unfold actS errF
            simp only [if_true,hp,show ¬ ((2:Int)=1) by decide,if_false]
          · refine left_still (r := ((fetchS l off most).2.2,0,false,[],())) hI ?_ (fun h=>(nx h rfl).elim) (fun _ h=>(nx h rfl).elim)
            rw [doS_chk hchk,hwk]
            unfold actS errF
            simp only [if_true,hp,show ¬ ((2:Int)=1) by decide,if_false]
        · -- a place of a consumer
          simp only [if_true,show ¬ ((3:Int)=1) by decide,if_false] at hm
          have j1:(judge ps pr sq).1=1 := by
            by_cases j1:(judge ps pr sq).1=1
            · exact j1
            · unfold nwS at hm
              simp [j1] at hm
          obtain ⟨j2,j3,j4⟩ := judge_new j1
          by_cases hp:(comS cs ps pr sq name off (l.length:Int)).2.2.2=0
          · obtain ⟨q1,q2⟩ := com_inv hchk j1 hp
            have hd:doS (lo,up,ep,z,l,ps,cs,()) (3,ep,pr,sq,key,v,off,most,name,plan,())=((lo,up,ep,z,l,ins ps (pr,sq,false,0),insS cs (name,off),()),(0,off,false,[],())) := by
              rw [doS_chk hchk,hwk]
              unfold actS errF
              simp only [q1,if_true,show ¬ ((3:Int)=1) by decide,show ¬ ((3:Int)=2) by decide,if_false]
            have hInv:InvP (lo,up,ep,z,l,ins ps (pr,sq,false,0),insS cs (name,off),()) := by
              refine ⟨q2,fun y hy => ?_,fun y hy => ?_⟩
              · rcases ins_mem hy with rfl | hy
                · exact Int.le_refl _
                · exact hI.2.1 y hy
              · rcases mem_insS hy with rfl | hy
                · exact hc.2
                · exact hI.2.2 y hy
            have hd2:doS (lo,up,ep,z,l,ins ps (pr,sq,false,0),insS cs (name,off),()) (3,ep,pr,sq,key,v,off,most,name,plan,())=((lo,up,ep,z,l,ins ps (pr,sq,false,0),insS cs (name,off),()),(0,0,true,[],())) := by
              rw [doS_chk q2,wkS_may hw rfl,mayS_is]
              unfold nwS
              rw [judge_ins ps false _ j2 j3]
              simp only [if_true,show ¬ ((3:Int)=1) by decide,if_false,Bool.false_eq_true,Option.some_or]
            rw [hd]
            refine ⟨hInv,fun h => ?_,.inl rfl,fun h=>(nx h rfl).elim,by rw [hd2]; exact ⟨rfl,rfl,fun _ _=>rfl⟩⟩
            rcases h with h | h | h
            · exact absurd rfl h
            · exact (nx h rfl).elim
            · exact (nx h rfl).elim
          · refine left_still (r := ((comS cs ps pr sq name off (l.length:Int)).2.2.2,0,false,[],())) hI ?_ (fun h=>(nx h rfl).elim) (fun h=>absurd h hp)
            rw [doS_chk hchk,hwk]
            unfold actS errF
            simp only [if_true,hp,show ¬ ((3:Int)=1) by decide,show ¬ ((3:Int)=2) by decide,if_false]
        · -- where a consumer reads on
          refine left_still (r := (0,(readC cs name).1,(readC cs name).2,[],())) hI ?_ (fun h=>(nx h rfl).elim) (fun _ h=>(nx h rfl).elim)
          rw [doS_chk hchk,hwk]
          unfold actS
          simp only [if_true,show ¬ ((4:Int)=1) by decide,show ¬ ((4:Int)=2) by decide,show ¬ ((4:Int)=3) by decide,if_false]
        · -- frozen
          have hfz:∀ z':Int,chkS (lo,up,ep,z',l,ps,cs,())=true := fun z' => by
            rw [chk_iff]; exact (chk_iff lo up ep z l ps cs).1 hchk
          have hd:doS (lo,up,ep,z,l,ps,cs,()) (5,ep,pr,sq,key,v,off,most,name,plan,())=((lo,up,ep,plan,l,ps,cs,()),(0,0,z != 0,[],())) := by
            rw [doS_chk hchk,hwk]
            unfold actS
            simp only [if_true,show ¬ ((5:Int)=1) by decide,show ¬ ((5:Int)=2) by decide,show ¬ ((5:Int)=3) by decide,show ¬ ((5:Int)=4) by decide,if_false]
          have hd2:doS (lo,up,ep,plan,l,ps,cs,()) (5,ep,pr,sq,key,v,off,most,name,plan,())=((lo,up,ep,plan,l,ps,cs,()),(0,0,plan != 0,[],())) := by
            rw [doS_chk (hfz plan),wkS_may hw rfl,mayS_is]
            unfold actS
            simp only [if_true,show ¬ ((5:Int)=1) by decide,show ¬ ((5:Int)=2) by decide,show ¬ ((5:Int)=3) by decide,show ¬ ((5:Int)=4) by decide,if_false]
            by_cases hpl:plan=0
            · rw [if_pos hpl]
            · rw [if_neg hpl]
          rw [hd]
          refine ⟨⟨hfz plan,hI.2.1,hI.2.2⟩,fun h => ?_,.inl rfl,fun h=>(nx h rfl).elim,by rw [hd2]; exact ⟨rfl,rfl,fun _ h=>(nx h rfl).elim⟩⟩
          rcases h with h | h | h
          · exact absurd rfl h
          · exact (nx h rfl).elim
          · exact (nx h rfl).elim
        · -- thawed
          have hfz:∀ z':Int,chkS (lo,up,ep,z',l,ps,cs,())=true := fun z' => by
            rw [chk_iff]; exact (chk_iff lo up ep z l ps cs).1 hchk
          have hd:doS (lo,up,ep,z,l,ps,cs,()) (6,ep,pr,sq,key,v,off,most,name,plan,())=((lo,up,ep,0,l,ps,cs,()),(0,0,z==0,[],())) := by
            rw [doS_chk hchk,hwk]
            unfold actS
            simp only [show ¬ ((6:Int)=1) by decide,show ¬ ((6:Int)=2) by decide,show ¬ ((6:Int)=3) by decide,show ¬ ((6:Int)=4) by decide,show ¬ ((6:Int)=5) by decide,if_false]
          have hd2:doS (lo,up,ep,0,l,ps,cs,()) (6,ep,pr,sq,key,v,off,most,name,plan,())=((lo,up,ep,0,l,ps,cs,()),(0,0,(0:Int)==0,[],())) := by
            rw [doS_chk (hfz 0),wkS_may hw rfl,mayS_is]
            unfold actS
            simp only [if_true,show ¬ ((6:Int)=1) by decide,show ¬ ((6:Int)=2) by decide,show ¬ ((6:Int)=3) by decide,show ¬ ((6:Int)=4) by decide,show ¬ ((6:Int)=5) by decide,if_false]
          rw [hd]
          refine ⟨⟨hfz 0,hI.2.1,hI.2.2⟩,fun h => ?_,.inl rfl,fun h=>(nx h rfl).elim,by rw [hd2]; exact ⟨rfl,rfl,fun _ h=>(nx h rfl).elim⟩⟩
          rcases h with h | h | h
          · exact absurd rfl h
          · exact (nx h rfl).elim
          · exact (nx h rfl).elim
    · refine left_still (r := (162,0,false,[],())) hI ?_ (fun _ h=>(nx h rfl).elim) (fun h=>(nx h rfl).elim)
      rw [doS_chk hchk]
      unfold wkS
      simp only [hw,he,Bool.true_eq_false,if_false]
end
section
variable {fu:Nat}
abbrev Cd := D_api_PartCommand
def cmdOf (x:Cd):Cm16 := (x.1,x.2.1,x.2.2.1,x.2.2.2.1,x.2.2.2.2.1,x.2.2.2.2.2.1,x.2.2.2.2.2.2.1,x.2.2.2.2.2.2.2.1,x.2.2.2.2.2.2.2.2.1,x.2.2.2.2.2.2.2.2.2,())
def live0:St16 := (⟨#[]⟩,⟨#[]⟩,1,0,[],[],[],())
def liveC:Cm16 := (1,1,7,1,⟨#[107]⟩,[118],0,0,⟨#[]⟩,0,())
def live1:St16 := (⟨#[]⟩,⟨#[]⟩,1,0,[(0,⟨#[107]⟩,[118],7,1)],[(7,1,true,0)],[],())
theorem live_a:chkS live0=true := by decide +kernel
theorem live_b:doS live0 liveC=(live1,(0,0,false,[],())) := by kernel_rfl
theorem live_c:doS live1 liveC=(live1,(0,0,true,[],())) := by kernel_rfl
theorem live_i:InvP live0 := ⟨live_a,fun y hy=>(by cases hy),fun y hy=>(by cases hy)⟩
theorem live_n:bndC liveC := ⟨by decide +kernel,by decide⟩
theorem p35_is:p35 fu ((1:Int),(⟨#[107]⟩:ByteArray),())=some ((),liveC) := rfl
theorem p9_is (hf:4194304<fu):p9 fu ()=some ((),true) := by
  have h10 := p10_is (fu := fu) live0 (inv_bnd live_i) hf
  rw [live_a] at h10
  have e19:p19 fu (((⟨#[]⟩:ByteArray),(⟨#[]⟩:ByteArray),()),(1:Int),())=some ((),(live0,(0,()))) := by
    unfold p19
    simp only [live0] at h10
    simp only [h10,bind_val,cond_true]
    rfl
  have h1 := p14_is (fu := fu) live0 liveC (inv_bnd live_i) live_n hf
  rw [live_b] at h1
  have hI1:InvP live1 := by
    have := (do_left live0 liveC live_i live_n).inv
    rw [live_b] at this
    exact this
  have h2 := p14_is (fu := fu) live1 liveC (inv_bnd hI1) live_n hf
  rw [live_c] at h2
  unfold p9
  simp only [e19,bind_val,p35_is]
  simp only [live0,liveC,live1] at h1 h2 ⊢
  simp only [h1,h2,bind_val,decide_true,cond_true]
  rfl
theorem tuple_cmd (x:Cd):((x.1,x.2.1,x.2.2.1,x.2.2.2.1,x.2.2.2.2.1,x.2.2.2.2.2.1,x.2.2.2.2.2.2.1,x.2.2.2.2.2.2.2.1,x.2.2.2.2.2.2.2.2.1,x.2.2.2.2.2.2.2.2.2,()):Cm16)=cmdOf x := rfl
end
end Go.Proofs.YthlgaodaofpgoaaGreatDoor
