/-
  Numbers that are read.
-/
import Derived.Test.YtahamggipcikgaaDoorWqP
import Derived.Test.YtahamggipcikgaaDoorPkF
import Derived.Test.YtahamggipcikgaaDoorWqM
import Derived.Test.YtahamggipcikgaaDoorPtK
namespace Go.Proofs.YtahamggipcikgaaDoor
section
open Go.RowKit
variable {fu:Nat}
theorem lp_any {X S R:Type} {f:S→Option (S ⊕ R)} {res:R} (l:List X) (mk:Nat→S) (q:X→Bool) (r fin:R) (hf:l.length<fu)
    (hs:∀ i (h:i<l.length),f (mk i)=some (bif q l[i] then .inr r else .inl (mk (i+1)))) (he:l.any q=false→f (mk l.length)=some (.inr fin)) (hr:(bif l.any q then r else fin)=res):loopO fu f (mk 0)=some res := by
  subst hr
  have key:∀ k i n,i+k=l.length→k<n→(l.take i).any q=false→loopO n f (mk i)=some (bif (l.drop i).any q then r else fin) := by
    intro k
    induction k with
    | zero =>
      intro i n hi hn ht
      obtain ⟨m,rfl⟩:∃ m,n=m+1 := ⟨n-1,by omega⟩
      obtain rfl:i=l.length := by omega
      rw [List.take_length] at ht
      simp only [loopO,he ht,List.drop_length,List.any_nil,cond_false]
    | succ k ih =>
      intro i n hi hn ht
      obtain ⟨m,rfl⟩:∃ m,n=m+1 := ⟨n-1,by omega⟩
      have hlt:i<l.length := by omega
      rw [List.drop_eq_getElem_cons hlt]
      simp only [loopO,hs i hlt,List.any_cons]
      cases hq:q l[i] with
      | true=>rfl
      | false =>
        refine ih (i+1) m (by omega) (by omega) ?_
        rw [List.take_succ_eq_append_getElem hlt,List.any_append,ht]
        simp [hq]
  exact key l.length 0 fu (by omega) hf (by simp)
theorem gd_lt {α:Type} {l:List α} {i:Nat} (h:i<l.length) (d:α):l.getD i d=l[i] := by simp [List.getD_eq_getElem?_getD,h]
abbrev EN := Bq.ENT
def crowdS (a b:List Int):Bool := bif decide (7<a.length) then true else decide (7<b.length)
def badE (y:EN):Bool := bif decide (262144<List.length y.2.2.2.1) then true else bif crowdS y.2.2.2.2.1 y.2.2.2.2.2 then true else bif decide ((y.2.2.1:Int)<1) then true else decide ((y.2.2.1:Int)>3)
def muchS (x:WR):Bool := bif decide (8<List.length x.2.2.2.2.2.2.2.1) then true else bif decide (262144<List.length x.2.2.2.2.2.2.2.2.2.2.2.2.1) then true else bif crowdS x.2.2.2.2.2.2.2.2.2.2.2.1.1 x.2.2.2.2.2.2.2.2.2.2.2.1.2 then true else (x.2.2.2.2.2.2.2.1:List EN).any badE
theorem p70_is (a b:List Int):Bq.p70 fu ((a,b,()),())=some ((),crowdS a b) := by
  unfold Bq.p70 crowdS
  have h1:decide ((a.length:Int)>7)=decide (7<a.length) := decide_eq_decide.2 (by omega)
  have h2:decide ((b.length:Int)>7)=decide (7<b.length) := decide_eq_decide.2 (by omega)
  simp only [h1,h2]
  cases decide (7<a.length) <;> rfl
theorem p54_is (x:WR) (hl:List.length x.2.2.2.2.2.2.2.1≤1048576) (hf:1048576<fu):Bq.p54 fu (Bq.zOf x,())=some ((),muchS x) := by
  obtain ⟨g,kd,fr,to,t,i,lt,l,c,rj,hn,⟨cv,cl⟩,dt,dn⟩ := x
  dsimp only at hl
  unfold Bq.p54 Bq.zOf muchS
  dsimp only
  have h1:decide ((List.length l:Int)>8)=decide (8<List.length l) := decide_eq_decide.2 (by omega)
  have h2:decide ((List.length dt:Int)>262144)=decide (262144<List.length dt) := decide_eq_decide.2 (by omega)
  simp only [h1,h2]
  cases decide (8<List.length l) with
  | true=>rfl
  | false =>
  simp only [cond_false]
  cases decide (262144<List.length dt) with
  | true=>rfl
  | false =>
  simp only [cond_false,p70_is,Option.bind_some]
  cases crowdS cv cl with
  | true=>rfl
  | false =>
  simp only [cond_false]
  refine lp_any (l:List EN) (fun i=>(((i:Int),()),())) badE ((),true) ((),false) (by omega) (fun i h => ?_) (fun _ => ?_) (by cases List.any l badE <;> rfl)
  · have h3:∀ m:List Int,decide ((m.length:Int)>262144)=decide (262144<m.length) := fun m=>decide_eq_decide.2 (by omega)
    have h4:decide ((0:Int)≤(i:Int)∧(i:Int)<(List.length l:Int))=true := by simp; omega
    have h5:decide ((i:Int)<(List.length l:Int))=true := by simp; omega
    have h6:decide (i<List.length l)=true := by simp; omega
    have hw:IntKind.wrap .i64 ((i:Int)+1)=((i+1:Nat):Int) := by rw [wi64 (by omega) (by omega)]; omega
    simp only [h5,h4,Int.toNat_natCast,h6,cond_true]
    simp only [gd_lt h]
    simp only [h3,hw,badE]
    cases decide (262144<List.length l[i].2.2.2.1) with
    | true=>rfl
    | false =>
    simp only [cond_false]
    cases crowdS l[i].2.2.2.2.1 l[i].2.2.2.2.2 with
    | true=>rfl
    | false =>
    simp only [cond_false]
    cases decide ((l[i].2.2.1:Int)<1) with
    | true=>rfl
    | false =>
    simp only [cond_false]
    cases decide ((l[i].2.2.1:Int)>3) <;> rfl
  · have h5:decide ((List.length l:Int)<(List.length l:Int))=false := by simp
    simp only [h5,cond_false]
    rfl
def nodeS (n:Int):Bool := bif decide (n≥1) then decide (n≤7) else false
def kindS (n:Int):Bool := bif decide (n≥1) then decide (n≤9) else false
theorem p15_is (n:Int):Bq.p15 fu (n,())=some ((),nodeS n) := by
  unfold Bq.p15 nodeS
  dsimp only
  cases decide (n≥1) <;> rfl
theorem p43_is (n:Int):Bq.p43 fu (n,())=some ((),kindS n) := by
  unfold Bq.p43 kindS
  dsimp only
  cases decide (n≥1) <;> rfl
def badW (fr:Int) (x:WR):Bool := bif (x.2.2.1 != fr) then true else bif !nodeS (toq x) then true else bif (toq x==fr) then true else !kindS x.2.1
def refS (fr:Int) (l:List WR):Int := bif !nodeS fr then 1 else bif l.any (badW fr) then 1 else bif decide (4096<l.length) then 2 else bif l.any muchS then 2 else 0
theorem p31_is (fr:Int) (l:List WR) (hl:l.length≤1048576) (he:∀ x ∈ l,List.length x.2.2.2.2.2.2.2.1≤1048576) (hf:1048576<fu):Bq.p31 fu (fr,l,())=some ((),refS fr l) := by
  unfold Bq.p31 refS
  simp only [p15_is,p43_is,Option.bind_some]
  cases nodeS fr with
  | false=>rfl
  | true =>
  simp only [Bool.not_true,cond_false]
  have hi4:∀ i,i<l.length→decide ((0:Int)≤(i:Int)∧(i:Int)<(l.length:Int))=true := fun i h=>by simp; omega
  have hi5:∀ i,i<l.length→decide ((i:Int)<(l.length:Int))=true := fun i h=>by simp; omega
  have hi6:∀ i,i<l.length→decide (i<l.length)=true := fun i h=>by simp; omega
  have hiw:∀ i,i<l.length→IntKind.wrap .i64 ((i:Int)+1)=((i+1:Nat):Int) := fun i h=>by rw [wi64 (by omega) (by omega)]; omega
  have hend:decide ((l.length:Int)<(l.length:Int))=false := by simp
  refine lp_any l (fun i=>(((i:Int),()),())) (badW fr) ((),1) ((),bif decide (4096<l.length) then 2 else bif l.any muchS then 2 else 0) (by omega) (fun i h => ?_) (fun _ => ?_) (by cases l.any (badW fr) <;> rfl)
  · simp only [hi5 i h,hi4 i h,Int.toNat_natCast,hi6 i h,cond_true]
    simp only [gd_lt h]
    simp only [hiw i h,badW,toq]
    cases (l[i].2.2.1 != fr) with
    | true=>rfl
    | false =>
    simp only [cond_false]
    cases nodeS l[i].2.2.2.1 with
    | false=>rfl
    | true =>
    simp only [Bool.not_true,cond_false]
    cases (l[i].2.2.2.1==fr) with
    | true=>rfl
    | false =>
    simp only [cond_false]
    cases kindS l[i].2.1 <;> rfl
  · have hc:decide ((l.length:Int)>4096)=decide (4096<l.length) := decide_eq_decide.2 (by omega)
    simp only [hend,cond_false,hc]
    cases decide (4096<l.length) with
    | true=>rfl
    | false =>
    simp only [cond_false]
    refine congrArg inrO (a₂ := some ((),bif l.any muchS then 2 else 0)) ?_
    refine lp_any l (fun i=>(((i:Int),()),())) muchS ((),2) ((),0) (by omega) (fun i h => ?_) (fun _ => ?_) (by cases l.any muchS <;> rfl)
    · simp only [hi5 i h,hi4 i h,Int.toNat_natCast,hi6 i h,cond_true]
      simp only [gd_lt h]
      have := p54_is (fu := fu) l[i] (he _ (List.getElem_mem h)) hf
      unfold Bq.zOf at this
      rw [this]
      simp only [Option.bind_some,hiw i h]
      cases muchS l[i] <;> rfl
    · simp only [hend,cond_false]
      rfl
end
section
open Go.RowKit
variable {fu:Nat}
theorem flat_bound {α:Type} (f:α→List Int) (B:Nat):∀ l:List α,(∀ x ∈ l,(f x).length≤B)→(l.flatMap f).length≤l.length * B
  | [],_=>by simp
  | x :: l,h=>by
    have h1 := h x (by simp)
    have h2 := flat_bound f B l fun y hy=>h y (by simp [hy])
    rw [List.flatMap_cons,List.length_append,List.length_cons,Nat.succ_mul]
    omega
theorem crowd_no {a b:List Int} (h:crowdS a b=false):a.length≤7∧b.length≤7 := by
  unfold crowdS at h
  by_cases h1:7<a.length
  · simp [h1] at h
  · simp [h1] at h
    omega
theorem cB_small {a b:List Int} (h:confOk fu a b) (hc:crowdS a b=false):(cB a b).length≤160 := by
  obtain ⟨h1,h2⟩ := crowd_no hc
  have h3 := nB_len h.ha h.la
  have h4 := nB_len h.hb h.lb
  unfold cB
  rw [List.length_append]
  omega
theorem iB_len {c:Int} (h:isI c):(iB c).length≤10 := uB_len (zz_u h)
theorem entB_len {y:EN} (h:Bq.EntOk fu y) (hb:badE y=false):(Bq.entB y).length≤262400 := by
  obtain ⟨i,t,k,d,v,c⟩ := y
  obtain ⟨h1,h2,h3,h4⟩ := h
  dsimp only at h1 h2 h3 h4
  unfold badE at hb
  dsimp only at hb
  by_cases hd:262144<List.length d
  · simp [hd] at hb
  · rw [show decide (262144<List.length d)=false from decide_eq_false hd] at hb
    simp only [cond_false] at hb
    have hc:crowdS v c=false := by
      cases hx:crowdS v c with
      | false=>rfl
      | true=>rw [hx] at hb; cases hb
    have l1 := uB_len h1
    have l2 := uB_len h2
    have l3 := iB_len h3
    have l4 := tB_len (l := d) (by omega)
    have l5 := cB_small h4 hc
    unfold Bq.entB eB
    dsimp only
    simp only [List.length_append]
    omega
theorem wireB_len {k:Int} {x:WR} (h:Bq.WrOk fu x) (hm:muchS x=false):(Bq.wireB k x).length≤3000000 := by
  obtain ⟨g,kd,fr,to,t,i,lt,l,c,rj,hn,⟨cv,cl⟩,dt,dn⟩ := x
  obtain ⟨hg,hk,ht,hi,hlt,he,hel,hem,hc,hh,hcf⟩ := h
  dsimp only at hg hk ht hi hlt he hel hem hc hh hcf
  unfold muchS at hm
  dsimp only at hm
  have m1:¬ 8<List.length l := fun q=>by simp [q] at hm
  rw [show decide (8<List.length l)=false from decide_eq_false m1] at hm
  simp only [cond_false] at hm
  have m2:¬ 262144<List.length dt := fun q=>by simp [q] at hm
  rw [show decide (262144<List.length dt)=false from decide_eq_false m2] at hm
  simp only [cond_false] at hm
  have m3:crowdS cv cl=false := by
    cases hx:crowdS cv cl with
    | false=>rfl
    | true=>rw [hx] at hm; cases hm
  rw [m3] at hm
  simp only [cond_false] at hm
  have m4 := flat_bound Bq.entB 262400 (l:List EN) fun y hy=>entB_len (he y hy) (by
    have := List.any_eq_false.1 hm y hy
    simpa using this)
  have l0 := uB_len hg
  have l1 := uB_len ht
  have l2 := uB_len hi
  have l3 := iB_len hk
  have l4 := uB_len hlt
  have l5 := uB_len hc
  have l6 := uB_len hh
  have l7 := cB_small hcf m3
  have l8 := tB_len (l := dt) (by omega)
  have l9 := uB_len (isU_len (n := List.length l) (by omega))
  have m5:List.length l * 262400≤8 * 262400 := Nat.mul_le_mul_right _ (by omega)
  unfold Bq.wireB Bq.beatB Bq.msgB
  dsimp only
  rw [List.length_append]
  cases (k==2) with
  | true =>
    simp only [cond_true,List.length_append,Bq.bB_len]
    cases ((kd:Int)==6) with
    | true=>simp only [cond_true,List.length_nil]; omega
    | false=>simp only [cond_false,List.length_append]; omega
  | false =>
    simp only [cond_false,List.length_append,Bq.bB_len]
    omega
theorem wrB_len {k:Int} {l:List WR} (h:∀ x ∈ l,Bq.WrOk fu x) (hm:∀ x ∈ l,muchS x=false) (hl:l.length≤4096):(Bq.wrB k l).length≤140737488355328 := by
  have h1 := flat_bound (Bq.wireB k) 3000000 l fun x hx=>wireB_len (h x hx) (hm x hx)
  have h2:l.length * 3000000≤4096 * 3000000 := Nat.mul_le_mul_right _ hl
  have h3 := uB_len (isU_len (n := l.length) (by omega))
  unfold Bq.wrB
  rw [List.length_append]
  omega
def pktS (fr:Int) (l:List WR) (k:Int×Int):List PKT := bif (selq l k.1 k.2).isEmpty then [] else [(fr,k.1,k.2,Bq.wrB k.2 (selq l k.1 k.2))]
def packL (fr:Int) (l:List WR):List PKT := keysq.flatMap (pktS fr l)
theorem ref_zero {fr:Int} {l:List WR} (h:refS fr l=0):nodeS fr=true∧(∀ x ∈ l,badW fr x=false)∧l.length≤4096 ∧ ∀ x ∈ l,muchS x=false := by
  unfold refS at h
  cases h1:nodeS fr with
  | false=>rw [h1] at h; cases h
  | true =>
  rw [h1] at h
  simp only [Bool.not_true,cond_false] at h
  cases h2:l.any (badW fr) with
  | true=>rw [h2] at h; cases h
  | false =>
  rw [h2] at h
  simp only [cond_false] at h
  by_cases h3:4096<l.length
  · simp [h3] at h
  · rw [show decide (4096<l.length)=false from decide_eq_false h3] at h
    simp only [cond_false] at h
    cases h4:l.any muchS with
    | true=>rw [h4] at h; cases h
    | false =>
    exact ⟨rfl,fun x hx=>by simpa using List.any_eq_false.1 h2 x hx,by omega,fun x hx=>by simpa using List.any_eq_false.1 h4 x hx⟩
theorem ref_of {fr:Int} {l:List WR} (h1:nodeS fr=true) (h2:∀ x ∈ l,badW fr x=false) (h3:l.length≤4096) (h4:∀ x ∈ l,muchS x=false):refS fr l=0 := by
  unfold refS
  rw [h1,show l.any (badW fr)=false from List.any_eq_false.2 fun x hx=>by simp [h2 x hx],show l.any muchS=false from List.any_eq_false.2 fun x hx=>by simp [h4 x hx],show decide (4096<l.length)=false from decide_eq_false (by omega)]
  rfl
theorem packs_is {fr:Int} {l:List WR} (h:refS fr l=0) (hw:∀ x ∈ l,Bq.WrOk fu x) (hf:1048576<fu):packsq fu fr l keysq=some (packL fr l) := by
  obtain ⟨_,_,h3,h4⟩ := ref_zero h
  have hs:∀ k,stepq fu fr l k=some (pktS fr l k) := fun k=>by
    unfold stepq pktS
    cases hx:(selq l k.1 k.2).isEmpty with
    | true=>rfl
    | false =>
      have hsub:∀ x ∈ selq l k.1 k.2,x ∈ l := fun x hx=>(List.mem_filter.1 hx).1
      have hlen:(selq l k.1 k.2).length≤4096 := Nat.le_trans (List.length_filter_le _ _) h3
      have := Bq.p33_is (fu := fu) (k := k.2) (l := selq l k.1 k.2) (fun x hx=>hw x (hsub x hx)) (by omega) (by omega) (wrB_len (fun x hx=>hw x (hsub x hx)) (fun x hx=>h4 x (hsub x hx)) hlen) (by omega)
      simp only [cond_false]
      rw [this]
      rfl
  have key:∀ (ks:List (Int×Int)) (acc:List PKT),ks.foldl (fun acc k=>acc.bind fun ps=>(stepq fu fr l k).map (ps ++ ·)) (some acc)=some (acc ++ ks.flatMap (pktS fr l)) := by
    intro ks
    induction ks with
    | nil=>intro acc; simp
    | cons k ks ih =>
      intro acc
      rw [List.foldl_cons]
      have e:((some acc).bind fun ps=>(stepq fu fr l k).map (ps ++ ·))=some (acc ++ pktS fr l k) := by rw [hs k]; rfl
      rw [e,ih,List.flatMap_cons,List.append_assoc]
  exact key keysq []
theorem pPack_is (fr:Int) (l:List WR) (hl:l.length≤1048576) (hw:∀ x ∈ l,Bq.WrOk fu x) (hf:1048576<fu):pPack fu (fr,l,())=some ((),(bif refS fr l==0 then packL fr l else []),refS fr l,()) := by
  unfold pPack
  dsimp only
  rw [decide_eq_true hl,p31_is fr l hl (fun x hx=>(hw x hx).em) hf]
  simp only [cond_true,Option.bind_some]
  by_cases h:refS fr l=0
  · rw [packs_is h hw hf,h]
    rfl
  · rw [show (refS fr l != 0)=true by simp [h],show (refS fr l==0)=false by simp [h]]
    rfl
end
end Go.Proofs.YtahamggipcikgaaDoor
namespace Go.Proofs.YtahamggipcikgaaDoor
section
open Go.RowKit
variable {fu:Nat}
theorem and8 (n m:Nat):((BitVec.ofInt (IntKind.bits .u8) (n:Int) &&& BitVec.ofInt (IntKind.bits .u8) (m:Int)).toNat)=(BitVec.ofNat 8 n &&& BitVec.ofNat 8 m).toNat := by
  show (BitVec.ofInt 8 (n:Int) &&& BitVec.ofInt 8 (m:Int)).toNat=_
  rw [BitVec.ofInt_natCast,BitVec.ofInt_natCast]
theorem or64 (n m:Nat):((BitVec.ofInt (IntKind.bits .u64) (n:Int) ||| BitVec.ofInt (IntKind.bits .u64) (m:Int)).toNat)=(BitVec.ofNat 64 n ||| BitVec.ofNat 64 m).toNat := by
  show (BitVec.ofInt 64 (n:Int) ||| BitVec.ofInt 64 (m:Int)).toNat=_
  rw [BitVec.ofInt_natCast,BitVec.ofInt_natCast]
theorem low7 (x:Nat) (h:x<256):IntKind.wrap .u8 ((BitVec.ofInt (IntKind.bits .u8) (x:Int) &&& BitVec.ofInt (IntKind.bits .u8) (127:Int)).toNat:Int)=((x % 128:Nat):Int) := by
  have h2:(BitVec.ofInt (IntKind.bits .u8) (x:Int) &&& BitVec.ofInt (IntKind.bits .u8) (127:Int)).toNat=x % 128 := by
    refine (and8 x 127).trans ?_
    rw [BitVec.toNat_and,BitVec.toNat_ofNat,BitVec.toNat_ofNat,Nat.mod_eq_of_lt h]
    exact Nat.and_two_pow_sub_one_eq_mod x 7
  rw [h2,wu8 (by omega) (by omega)]
theorem pow7 (i:Nat) (h:i≤9):(2:Int) ^ (min (Int.toNat (IntKind.wrap .i64 ((7:Int) * (i:Int)))) (IntKind.bits .u64))=((128 ^ i:Nat):Int) := by
  have e:IntKind.wrap .i64 ((7:Int) * (i:Int))=((7 * i:Nat):Int) := by rw [wi64 (by omega) (by omega)]; omega
  rw [e,Int.toNat_natCast,Nat.min_eq_left (by show 7 * i≤64; omega),show (128:Nat)=2 ^ 7 from rfl,← Nat.pow_mul]
  simp
theorem accum (c y i:Nat) (hi:i≤9) (hc:c<128 ^ i) (hy:c+y * 128 ^ i<18446744073709551616) :
    IntKind.wrap .u64 ((BitVec.ofInt (IntKind.bits .u64) (c:Int) ||| BitVec.ofInt (IntKind.bits .u64) (IntKind.wrap .u64 ((IntKind.wrap .u64 (y:Int)) * 2 ^ (min (Int.toNat (IntKind.wrap .i64 ((7:Int) * (i:Int)))) (IntKind.bits .u64))))).toNat:Int)=((c+y * 128 ^ i:Nat):Int) := by
  have hpos:0<128 ^ i := Nat.pow_pos (by decide)
  have hy1:y≤y * 128 ^ i := Nat.le_mul_of_pos_right y hpos
  rw [pow7 i hi,wu64 (x := (y:Int)) (by omega) (by omega),← Int.natCast_mul,wu64 (x := ((y * 128 ^ i:Nat):Int)) (by omega) (by omega)]
  have e1:(BitVec.ofInt (IntKind.bits .u64) (c:Int) ||| BitVec.ofInt (IntKind.bits .u64) ((y * 128 ^ i:Nat):Int)).toNat=c+y * 128 ^ i := by
    rw [or64,BitVec.toNat_or,BitVec.toNat_ofNat,BitVec.toNat_ofNat,Nat.mod_eq_of_lt (by omega),Nat.mod_eq_of_lt (by omega)]
    have e:(128:Nat) ^ i=2 ^ (7 * i) := by rw [show (128:Nat)=2 ^ 7 from rfl,← Nat.pow_mul]
    rw [e] at hc ⊢
    have := Nat.two_pow_add_eq_or_of_lt hc y
    rw [Nat.or_comm,Nat.mul_comm y,← this,Nat.add_comm]
  rw [e1,wu64 (by omega) (by omega)]
def numS:Nat→Nat→List Int→Int×Int×Int
  | _,_,[]=>(0,0,11)
  | i,acc,x :: r=>if i=9∧x ≠ 1 then (0,0,12) else if x=0∧0<i then (0,0,12) else if x<128 then (((acc+x.toNat % 128 * 128 ^ i:Nat):Int),((i+1:Nat):Int),0) else numS (i+1) (acc+x.toNat % 128 * 128 ^ i) r
theorem p37_any {a:List Int} (hb:∀ x ∈ a,0≤x∧x≤255) (_:a.length≤140737488355328) (hfu:10<fu):p37 fu (a,())=some ((),((numS 0 0 a).1,(numS 0 0 a).2.1,(numS 0 0 a).2.2,())) := by
  unfold p37
  dsimp only
  refine loopO_eq (fun (s:(Int×(Int×Unit))×Unit) => ∃ (i acc:Nat) (pre r:List Int),i≤9∧s=(((acc:Int),(i:Int),()),())∧a=pre ++ r∧pre.length=i∧acc<128 ^ i∧numS i acc r=numS 0 0 a) (fun s=>10-s.1.2.1.toNat) (fun _=>((),((numS 0 0 a).1,(numS 0 0 a).2.1,(numS 0 0 a).2.2,()))) ?_ fu _ ⟨0,0,[],a,by omega,rfl,rfl,rfl,by simp,rfl⟩ (by dsimp only; omega)
  rintro _ ⟨i,acc,pre,r,hi,rfl,ha,hp,hacc,hnum⟩
  have e1:decide ((i:Int)<10)=true := by simp; omega
  have wi:IntKind.wrap .i64 ((i:Int)+1)=((i+1:Nat):Int) := by rw [wi64 (by omega) (by omega)]; omega
  cases r with
  | nil =>
    right
    have hl:a.length=i := by rw [ha,List.append_nil,hp]
    have e2:((i:Int)==(a.length:Int))=true := by rw [hl]; exact beq_self_eq_true _
    rw [← hnum]
    simp only [e1,e2,cond_true,numS,inrO,Option.map_some]
  | cons x r =>
    have hlen:a.length=i+(r.length+1) := by rw [ha,List.length_append,hp,List.length_cons]
    have hx := hb x (by rw [ha]; simp)
    obtain ⟨n,rfl⟩ := Int.eq_ofNat_of_zero_le hx.1
    have hxg:List.getD a i (dflt (.int .u8))=(n:Int) := by
      rw [ha,List.getD_eq_getElem?_getD,List.getElem?_append_right (by omega),hp,Nat.sub_self]
      rfl
    have e2:((i:Int)==(a.length:Int))=false := by rw [hlen]; simp; omega
    have e3:decide ((0:Int)≤(i:Int)∧(i:Int)<(a.length:Int))=true := by rw [hlen]; simp; omega
    have e4:decide (i<a.length)=true := by rw [hlen]; simp
    have e7:decide ((0:Int)≤IntKind.wrap .i64 ((7:Int) * (i:Int)))=true := by rw [wi64 (by omega) (by omega)]; simp; omega
    by_cases h9:i=9∧(n:Int) ≠ 1
    · right
      obtain ⟨h9,hn1⟩ := h9
      have hd:numS i acc ((n:Int) :: r)=(0,0,12) := by rw [numS,if_pos ⟨h9,hn1⟩]
      rw [← hnum,hd]
      have g1:((i:Int)==9)=true := by rw [h9]; rfl
      have g2:((n:Int) != 1)=true := bne_iff_ne.2 hn1
      simp only [e1,e2,e3,e4,Int.toNat_natCast,hxg,cond_true,cond_false,g1,g2,inrO,Option.map_some,orK_inr]
    · by_cases h0:(n:Int)=0∧0<i
      · right
        obtain ⟨hn0,hi0⟩ := h0
        have hi9:i ≠ 9 := fun e=>h9 ⟨e,by omega⟩
        have hd:numS i acc ((n:Int) :: r)=(0,0,12) := by rw [numS,if_neg h9,if_pos ⟨hn0,hi0⟩]
        rw [← hnum,hd]
        have g1:((i:Int)==9)=false := by simp; omega
        have g2:((n:Int)==0)=true := beq_iff_eq.2 hn0
        have g3:decide ((i:Int)>0)=true := by simp; omega
        simp only [e1,e2,e3,e4,Int.toNat_natCast,hxg,cond_true,cond_false,g1,g2,g3,inrO,Option.map_some,orK_inr]
      · have hpow:i=9→(128:Nat) ^ i=9223372036854775808 := fun e=>by rw [e]
        have hpow8:i≤8→(128:Nat) ^ i≤72057594037927936 := fun e=>by
          have := Nat.pow_le_pow_right (n := 128) (by decide) e
          have e8:(128:Nat) ^ 8=72057594037927936 := by decide
          omega
        have hmul:n % 128 * 128 ^ i≤127 * 128 ^ i := Nat.mul_le_mul_right _ (by omega)
        have hbound:acc+n % 128 * 128 ^ i<18446744073709551616 := by
          by_cases e9:i=9
          · have hn1:(n:Int)=1 := Decidable.byContradiction fun k=>h9 ⟨e9,k⟩
            have hn1':n=1 := by omega
            have := hpow e9
            rw [hn1'] at hmul ⊢
            rw [this] at hacc ⊢
            omega
          · have := hpow8 (by omega)
            generalize 128 ^ i=q at *
            omega
        have hac := accum acc (n % 128) i hi hacc hbound
        by_cases h128:(n:Int)<128
        · right
          have hd:numS i acc ((n:Int) :: r)=(((acc+n % 128 * 128 ^ i:Nat):Int),((i+1:Nat):Int),0) := by rw [numS,if_neg h9,if_neg h0,if_pos h128]; rfl
          rw [← hnum,hd]
          have e8:decide ((n:Int)<128)=true := decide_eq_true h128
          simp only [e1,e2,e3,e4,Int.toNat_natCast,hxg,cond_true,cond_false,e7,e8,low7 n (by omega),hac,wi]
          by_cases e9:i=9
          · have hn1:(n:Int)=1 := Decidable.byContradiction fun k=>h9 ⟨e9,k⟩
            have hn1':n=1 := by omega
            subst e9 hn1'
            rfl
          · have g1:((i:Int)==9)=false := by simp; omega
            rw [g1]
            by_cases hn0:n=0
            · have hi0:i=0 := Decidable.byContradiction fun k=>h0 ⟨by omega,by omega⟩
              subst hi0 hn0
              rfl
            · have g2:((n:Int)==0)=false := by simp; omega
              rw [g2]
              rfl
        · left
          have e9:i ≠ 9 := fun e=>h9 ⟨e,by omega⟩
          have hd:numS i acc ((n:Int) :: r)=numS (i+1) (acc+n % 128 * 128 ^ i) r := by rw [numS,if_neg h9,if_neg h0,if_neg h128]; rfl
          have e8:decide ((n:Int)<128)=false := decide_eq_false h128
          have g1:((i:Int)==9)=false := by simp; omega
          have g2:((n:Int)==0)=false := by simp; omega
          refine ⟨((((acc+n % 128 * 128 ^ i:Nat):Int),((i+1:Nat):Int),()),()),?_,⟨i+1,acc+n % 128 * 128 ^ i,pre ++ [(n:Int)],r,by omega,rfl,?_,?_,?_,?_⟩,?_,rfl⟩
          · simp only [e1,e2,e3,e4,Int.toNat_natCast,hxg,cond_true,cond_false,e7,e8,g1,g2,low7 n (by omega),hac,wi,orK_inl]
          · rw [ha]; simp
          · simp [hp]
          · rw [Nat.pow_succ]
            generalize 128 ^ i=q at *
            omega
          · rw [← hd]; exact hnum
          · dsimp only
            omega
def unzz (v:Int):Int := if v % 2=1 then -(v / 2)-1 else v / 2
theorem numS_facts:∀ (r:List Int) (i acc:Nat),(∃ v k:Nat,numS i acc r=((v:Int),(k:Int),0)∧i<k∧k≤i+r.length) ∨ (∃ e:Int,e ≠ 0∧numS i acc r=(0,0,e))
  | [],_,_ => .inr ⟨11,by decide,rfl⟩
  | x :: r,i,acc=>by
    rw [numS]
    split
    · exact .inr ⟨12,by decide,rfl⟩
    · split
      · exact .inr ⟨12,by decide,rfl⟩
      · split
        · exact .inl ⟨_,_,rfl,by omega,by simp only [List.length_cons]; omega⟩
        · rcases numS_facts r (i+1) (acc+x.toNat % 128 * 128 ^ i) with ⟨v,k,h1,h2,h3⟩ | h
          · exact .inl ⟨v,k,h1,by omega,by simp only [List.length_cons]; omega⟩
          · exact .inr h
theorem numS_u:∀ (r:List Int) (i acc:Nat) (v k:Int),(∀ x ∈ r,0≤x∧x≤255)→i≤9→acc<128 ^ i→numS i acc r=(v,k,0)→isU v
  | [],i,acc,v,k,_,_,_,h=>by simp [numS] at h
  | x :: r,i,acc,v,k,hb,hi,ha,h=>by
    have hx := hb x (by simp)
    obtain ⟨n,rfl⟩ := Int.eq_ofNat_of_zero_le hx.1
    have hpow:i=9→(128:Nat) ^ i=9223372036854775808 := fun e=>by rw [e]
    have hpow8:i≤8→(128:Nat) ^ i≤72057594037927936 := fun e=>by
      have := Nat.pow_le_pow_right (n := 128) (by decide) e
      have e8:(128:Nat) ^ 8=72057594037927936 := by decide
      omega
    have hmul:n % 128 * 128 ^ i≤127 * 128 ^ i := Nat.mul_le_mul_right _ (by omega)
    rw [numS] at h
    split at h
    · simp at h
    · rename_i h9
      split at h
      · simp at h
      · split at h
        · simp only [Prod.mk.injEq,Int.toNat_natCast,and_true] at h
          rw [← h.1]
          unfold isU
          by_cases e9:i=9
          · have hn1:(n:Int)=1 := Decidable.byContradiction fun k=>h9 ⟨e9,k⟩
            have hn1':n=1 := by omega
            have := hpow e9
            rw [hn1'] at hmul ⊢
            rw [this] at ha ⊢
            omega
          · have := hpow8 (by omega)
            generalize 128 ^ i=q at *
            omega
        · rename_i h128
          have e9:i ≠ 9 := fun e=>h9 ⟨e,by omega⟩
          refine numS_u r (i+1) _ v k (fun y hy=>hb y (by simp [hy])) (by omega) ?_ h
          rw [Nat.pow_succ,Int.toNat_natCast]
          generalize 128 ^ i=q at *
          omega
theorem unzz_i {v:Int} (h:isU v):isI (unzz v) := by
  obtain ⟨h1,h2⟩ := h
  unfold unzz isI
  split <;> omega
theorem xor1 (n:Nat) (h:n<18446744073709551616):IntKind.wrap .i64 (IntKind.wrap .u64 ((BitVec.ofInt (IntKind.bits .u64) (Int.fdiv (n:Int) (2 ^ (min (Int.toNat (1:Int)) (IntKind.bits .u64)))) ^^^ BitVec.ofInt (IntKind.bits .u64) (IntKind.wrap .u64 (0-(IntKind.wrap .u64 ((BitVec.ofInt (IntKind.bits .u64) (n:Int) &&& BitVec.ofInt (IntKind.bits .u64) (1:Int)).toNat:Int))))).toNat:Int))=unzz (n:Int) := by
  have e1:(BitVec.ofInt (IntKind.bits .u64) (n:Int) &&& BitVec.ofInt (IntKind.bits .u64) (1:Int)).toNat=n % 2 := by
    refine (and64 n 1).trans ?_
    rw [BitVec.toNat_and,BitVec.toNat_ofNat,BitVec.toNat_ofNat,Nat.mod_eq_of_lt h]
    exact Nat.and_two_pow_sub_one_eq_mod n 1
  have e2:Int.fdiv (n:Int) (2 ^ (min (Int.toNat (1:Int)) (IntKind.bits .u64)))=((n / 2:Nat):Int) := by
    show Int.fdiv (n:Int) 2=_
    rw [Int.fdiv_eq_ediv_of_nonneg _ (by decide)]
    rfl
  have em:∀ x:Int,IntKind.wrap .u64 x=x % 18446744073709551616 := fun x=>rfl
  rw [e1,e2,wu64 (x := ((n % 2:Nat):Int)) (by omega) (by omega)]
  unfold unzz
  by_cases hodd:n % 2=1
  · have d1:IntKind.wrap .u64 (0-((n % 2:Nat):Int))=((18446744073709551615:Nat):Int) := by rw [em]; omega
    rw [d1,xor64,xorAll _ (by omega),if_pos (by omega),wu64 (by omega) (by omega)]
    have hm:IntKind.wrap .i64 ((18446744073709551615-n / 2:Nat):Int) = -((n:Int) / 2)-1 := by
      have e1:(2:Int) ^ IntKind.bits .i64=18446744073709551616 := rfl
      have e2:(2:Int) ^ (IntKind.bits .i64-1)=9223372036854775808 := rfl
      unfold IntKind.wrap
      simp only [e1,e2]
      split
      · omega
      · rename_i h
        simp [IntKind.signed] at h
        omega
    rw [hm]
  · have d1:IntKind.wrap .u64 (0-((n % 2:Nat):Int))=((0:Nat):Int) := by rw [em]; omega
    rw [d1,xor64,show BitVec.ofNat 64 0=0#64 from rfl,BitVec.xor_zero,BitVec.toNat_ofNat,Nat.mod_eq_of_lt (by omega),wu64 (by omega) (by omega),wi64 (by omega) (by omega),if_neg (by omega)]
    omega
theorem sub_all {a:List Int} {c:Nat} (_:c≤a.length):sub' a c (a.length-c)=a.drop c := by
  rw [sub'_eq,List.take_of_length_le (by rw [List.length_drop]; omega)]
theorem xor0:IntKind.wrap .i64 (IntKind.wrap .u64 ((BitVec.ofInt (IntKind.bits .u64) (Int.fdiv (0:Int) (2 ^ (min (Int.toNat (1:Int)) (IntKind.bits .u64)))) ^^^ BitVec.ofInt (IntKind.bits .u64) (IntKind.wrap .u64 (0-(IntKind.wrap .u64 ((BitVec.ofInt (IntKind.bits .u64) (0:Int) &&& BitVec.ofInt (IntKind.bits .u64) (1:Int)).toNat:Int))))).toNat:Int))=0 := xor1 0 (by decide)
def byt (l:List Int):Prop := ∀ x ∈ l,0≤x∧x≤255
theorem byt_app {a b:List Int} (h1:byt a) (h2:byt b):byt (a ++ b) := fun x hx=>by
  rcases List.mem_append.1 hx with h | h
  · exact h1 x h
  · exact h2 x h
theorem byt_nil:byt [] := fun x hx=>by simp at hx
theorem byt_ub:∀ (k v:Nat),v<k→byt (ub v)
  | 0,v,h=>absurd h (Nat.not_lt_zero v)
  | k+1,v,h=>by
    by_cases hv:v<128
    · rw [ub_small hv]
      intro x hx
      rw [List.mem_singleton.1 hx]
      omega
    · rw [ub_big hv]
      intro x hx
      rcases List.mem_cons.1 hx with e | e
      · rw [e]; omega
      · exact byt_ub k (v / 128) (by omega) x e
theorem byt_uB (v:Int):byt (uB v) := byt_ub _ _ (Nat.lt_succ_self _)
theorem byt_tB {l:List Int} (h:byt l):byt (tB l) := byt_app (byt_uB _) h
theorem numS_ub:∀ (k n i acc:Nat) (r:List Int),n<k→(0<i→1≤n)→i≤9→acc<128 ^ i→acc+n * 128 ^ i<18446744073709551616→numS i acc (ub n ++ r)=(((acc+n * 128 ^ i:Nat):Int),((i+(ub n).length:Nat):Int),0)
  | 0,n,_,_,_,h,_,_,_,_=>absurd h (Nat.not_lt_zero n)
  | k+1,n,i,acc,r,hk,h1,hi,ha,hb=>by
    have hpow:i=9→(128:Nat) ^ i=9223372036854775808 := fun e=>by rw [e]
    by_cases hn:n<128
    · rw [ub_small hn]
      have c1:¬ (i=9∧(n:Int) ≠ 1) := by
        rintro ⟨e,hne⟩
        have := hpow e
        rw [this] at hb
        have h2 := h1 (by omega)
        omega
      have c2:¬ ((n:Int)=0∧0<i) := by
        rintro ⟨e,h3⟩
        have := h1 h3
        omega
      show numS i acc ((n:Int) :: r)=_
      rw [numS,if_neg c1,if_neg c2,if_pos (by omega),Int.toNat_natCast,Nat.mod_eq_of_lt hn]
      rfl
    · rw [ub_big hn]
      have hi9:i ≠ 9 := fun e=>by
        have := hpow e
        rw [this] at hb
        omega
      show numS i acc (((n % 128+128:Nat):Int) :: (ub (n / 128) ++ r))=_
      rw [numS,if_neg (fun h=>hi9 h.1),if_neg (by omega),if_neg (by omega),Int.toNat_natCast,show (n % 128+128) % 128=n % 128 by omega]
      have hq:n % 128 * 128 ^ i+n / 128 * 128 ^ (i+1)=n * 128 ^ i := by
        rw [Nat.pow_succ,Nat.mul_comm (128 ^ i) 128,← Nat.mul_assoc,← Nat.add_mul]
        congr 1
        omega
      have hm:n % 128 * 128 ^ i≤127 * 128 ^ i := Nat.mul_le_mul_right _ (by omega)
      rw [numS_ub k (n / 128) (i+1) (acc+n % 128 * 128 ^ i) r (by omega) (fun _=>by omega) (by omega) (by rw [Nat.pow_succ]; omega) (by rw [Nat.add_assoc,hq]; exact hb),Nat.add_assoc,hq,List.length_cons]
      congr 2
      rw [show i+1+(ub (n / 128)).length=i+((ub (n / 128)).length+1) by omega]
theorem unzz_zz {c:Int}:unzz (zz c)=c := by
  unfold unzz zz
  split <;> split <;> omega
end
section
open Go.RowKit
variable {fu:Nat}
structure okA (fu:Nat) (a:List Int):Prop where
  hb:byt a
  hn:a.length≤140737488355328
  hfu:10<fu
theorem okA.dr {a:List Int} (h:okA fu a) (c:Nat):byt (a.drop c) := fun x hx=>h.hb x (List.mem_of_mem_drop hx)
def uS (a:List Int) (c:Nat):Option (Nat×Int) :=
  if (numS 0 0 (a.drop c)).2.2=0 then some (c+(numS 0 0 (a.drop c)).2.1.toNat,(numS 0 0 (a.drop c)).1) else none
def iS (a:List Int) (c:Nat):Option (Nat×Int) := (uS a c).bind fun r=>some (r.1,unzz r.2)
def cntS (m:Int) (a:List Int) (c:Nat):Option (Nat×Int) :=
  (uS a c).bind fun r=>if m<0 ∨ r.2>m ∨ r.2>((a.length-r.1:Nat):Int) then none else some r
def bytS (m:Int) (a:List Int) (c:Nat):Option (Nat×List Int) := (cntS m a c).bind fun r=>some (r.1+r.2.toNat,(a.drop r.1).take r.2.toNat)
def boolS (a:List Int) (c:Nat):Option (Nat×Bool) := if c<a.length∧a.getD c 0≤1 then some (c+1,a.getD c 0==1) else none
abbrev ER := Bool×((Int×(Int×Unit))×Unit)
abbrev PT := List Int×Int×ER×Unit
abbrev stO (a:List Int) (c h i:Int):PT := (a,c,(false,(h,i,()),()),())
abbrev stE (a:List Int) (c e q:Int):PT := (a,c,(true,(e,q,()),()),())
theorem dfu:(dflt .unit:den .unit)=() := rfl
theorem dfp:dflt (.pair (.int .i64) (.pair (.int .i64) .unit))=((0:Int),(0:Int),()) := rfl
def PR {α:Type} (a:List Int) (d:α) (r:Option (Nat×α)) (P:α→Prop) (o:Option ((PT×Unit×Unit)×α)):Prop :=
  (∃ (c:Nat) (v:α) (h i:Int),r=some (c,v)∧c≤a.length∧P v∧o=some ((stO a c h i,(),()),v)) ∨ (r=none ∧ ∃ c e q:Int,e ≠ 0∧o=some ((stE a c e q,(),()),d))
theorem p35_er {a:List Int} {c e q j k:Int}:p35_1 fu (stE a c e q,j,k,())=some ((stE a c e q,(),()),()) := by
  unfold p35_1
  simp only [cond_true,decide_true]
theorem p35_ok {a:List Int} {c h i j k:Int} (hk:k ≠ 0):p35_1 fu (stO a c h i,j,k,())=some ((stE a c k j,(),()),()) := by
  have g:(k != 0)=true := bne_iff_ne.2 hk
  unfold p35_1
  simp only [cond_true,cond_false,decide_true,g]
theorem p18_ok {a:List Int} {c:Int}:p18 fu ((a,c,(),()),0,())=some ((stO a c 0 0,(),()),()) := by
  unfold p18 p35
  simp only [bne_self_eq_false,cond_false,Option.bind_some,decide_true,cond_true]
  rfl
theorem p18_er {a:List Int} {c e:Int} (he:e ≠ 0):p18 fu ((a,c,(),()),e,())=some ((stE a c e c,(),()),()) := by
  have g:(e != 0)=true := bne_iff_ne.2 he
  unfold p18 p35
  simp only [g,cond_true,Option.bind_some,decide_true]
theorem p19_er {a:List Int} {c e q:Int}:p19_1 fu (stE a c e q,())=some ((stE a c e q,(),()),0) := by
  unfold p19_1
  simp only [cond_true,decide_true]
theorem uS_cases {a:List Int} {c:Nat} (h:okA fu a) (hc:c≤a.length) :
    (∃ v k:Nat,numS 0 0 (a.drop c)=((v:Int),(k:Int),0)∧uS a c=some (c+k,(v:Int))∧c+k≤a.length∧isU (v:Int)) ∨ (∃ e:Int,e ≠ 0∧numS 0 0 (a.drop c)=(0,0,e)∧uS a c=none) := by
  rcases numS_facts (a.drop c) 0 0 with ⟨v,k,hnum,hk0,hk⟩ | ⟨e,he,hnum⟩
  · refine .inl ⟨v,k,hnum,?_,?_,numS_u _ 0 0 _ _ (h.dr c) (by omega) (by decide) hnum⟩
    · unfold uS
      rw [hnum,if_pos rfl]
      rfl
    · rw [List.length_drop] at hk; omega
  · refine .inr ⟨e,he,hnum,?_⟩
    unfold uS
    rw [hnum,if_neg he]
theorem p19P {a:List Int} {c:Nat} {x y:Int} (h:okA fu a) (hc:c≤a.length):PR a 0 (uS a c) isU (p19_1 fu (stO a c x y,())) := by
  have e1:decide ((0:Int)≤(c:Int))=true := by simp
  have e2:decide (c≤a.length∧0+a.length≤a.length)=true := by simp; omega
  have e3:decide (c+(a.length-c)≤a.length)=true := by simp; omega
  have hl := h.hn
  rcases uS_cases h hc with ⟨v,k,hnum,hu,hk,hv⟩ | ⟨e,he,hnum,hu⟩
  · have hw:IntKind.wrap .i64 ((c:Int)+(k:Int))=((c+k:Nat):Int) := by rw [wi64 (by omega) (by omega)]; omega
    refine .inl ⟨_,_,0,0,hu,hk,hv,?_⟩
    · unfold p19_1
      simp only [cond_false,e1,Int.toNat_natCast,e2,e3,cond_true,decide_true]
      rw [sub_all hc,p37_any (h.dr c) (by rw [List.length_drop]; omega) h.hfu,hnum]
      simp only [Option.bind_some]
      rw [p18_ok]
      simp only [Option.bind_some,hw]
  · have hw:IntKind.wrap .i64 ((c:Int)+0)=(c:Int) := by rw [wi64 (by omega) (by omega)]; omega
    refine .inr ⟨hu,c,e,c,he,?_⟩
    unfold p19_1
    simp only [cond_false,e1,Int.toNat_natCast,e2,e3,cond_true,decide_true]
    rw [sub_all hc,p37_any (h.dr c) (by rw [List.length_drop]; omega) h.hfu,hnum]
    simp only [Option.bind_some]
    rw [p18_er he]
    simp only [Option.bind_some,hw]
theorem p19N {a:List Int} {c:Nat} (h:okA fu a) (hc:c≤a.length):PR a 0 (uS a c) isU (p19 fu ((a,(c:Int),(),()),())) := by
  have e1:decide ((0:Int)≤(c:Int))=true := by simp
  have e2:decide (c≤a.length∧0+a.length≤a.length)=true := by simp; omega
  have e3:decide (c+(a.length-c)≤a.length)=true := by simp; omega
  have hl := h.hn
  rcases uS_cases h hc with ⟨v,k,hnum,hu,hk,hv⟩ | ⟨e,he,hnum,hu⟩
  · have hw:IntKind.wrap .i64 ((c:Int)+(k:Int))=((c+k:Nat):Int) := by rw [wi64 (by omega) (by omega)]; omega
    refine .inl ⟨_,_,0,0,hu,hk,hv,?_⟩
    · unfold p19
      simp only [e1,Int.toNat_natCast,e2,e3,cond_true,decide_true]
      rw [sub_all hc,p37_any (h.dr c) (by rw [List.length_drop]; omega) h.hfu,hnum]
      simp only [Option.bind_some]
      rw [p18_ok]
      simp only [Option.bind_some,hw]
  · have hw:IntKind.wrap .i64 ((c:Int)+0)=(c:Int) := by rw [wi64 (by omega) (by omega)]; omega
    refine .inr ⟨hu,c,e,c,he,?_⟩
    unfold p19
    simp only [e1,Int.toNat_natCast,e2,e3,cond_true,decide_true]
    rw [sub_all hc,p37_any (h.dr c) (by rw [List.length_drop]; omega) h.hfu,hnum]
    simp only [Option.bind_some]
    rw [p18_er he]
    simp only [Option.bind_some,hw]
theorem p39_er {a:List Int} {c e q:Int}:p39_2 fu (stE a c e q,())=some ((stE a c e q,(),()),0) := by
  unfold p39_2
  simp only [cond_true,dfu,p19_er,Option.bind_some,decide_true]
  rw [xor0]
theorem p39P {a:List Int} {c:Nat} {x y:Int} (h:okA fu a) (hc:c≤a.length):PR a 0 (iS a c) isI (p39_2 fu (stO a c x y,())) := by
  unfold iS p39_2
  simp only [cond_false,decide_true,cond_true,dfp]
  rcases p19P (x := 0) (y := 0) h hc with ⟨c1,v,x1,y1,hr,h1,h2,h3⟩ | ⟨hr,c1,e,q,he,h3⟩
  · obtain ⟨n,rfl⟩ := Int.eq_ofNat_of_zero_le h2.1
    simp only [h3,hr,Option.bind_some]
    rw [xor1 n (by have := h2.2; omega)]
    exact .inl ⟨_,_,_,_,rfl,h1,unzz_i h2,rfl⟩
  · simp only [h3,hr,Option.bind_some,Option.bind_none]
    rw [xor0]
    exact .inr ⟨rfl,_,_,_,he,rfl⟩
theorem p36_er {a:List Int} {c e q j:Int}:p36 fu (stE a c e q,j,())=some ((stE a c e q,(),()),0) := by
  unfold p36
  simp only [cond_true,decide_true]
theorem p36_ok {a:List Int} {c x y j:Int}:p36 fu (stO a c x y,j,())=some ((stO a c 0 0,(),()),j) := by
  unfold p36
  simp only [cond_true,cond_false,decide_true]
  rfl
theorem p17_er {a:List Int} {c e q j:Int}:p17_2 fu (stE a c e q,j,())=some ((stE a c e q,(),()),0) := by
  unfold p17_2
  simp only [cond_true,dfu,p19_er,Option.bind_some,decide_true,p35_er]
  rcases Bool.eq_false_or_eq_true (decide (j<0)) with g | g <;> rcases Bool.eq_false_or_eq_true (decide ((0:Int)>IntKind.wrap .u64 j)) with g2 | g2 <;> rcases Bool.eq_false_or_eq_true (decide ((0:Int)>IntKind.wrap .u64 (IntKind.wrap .i64 ((a.length:Int)-c)))) with g3 | g3 <;> simp only [g,g2,g3,cond_true,cond_false,orK_inl,Option.bind_some,p35_er,p36_er]
def isC (a:List Int) (j:Int) (c:Nat) (n:Int):Prop := 0≤n∧n≤j ∧ ∃ c1,cntS j a c=some (c1,n)∧(c1:Int)+n≤a.length
theorem p17P {a:List Int} {c:Nat} {j x y:Int} (h:okA fu a) (hc:c≤a.length) (hj:isI j):PR a 0 (cntS j a c) (isC a j c) (p17_2 fu (stO a c x y,j,())) := by
  have hl := h.hn
  obtain ⟨hj1,hj2⟩ := hj
  unfold isC
  rcases p19P (x := 0) (y := 0) h hc with ⟨c1,v,x1,y1,hr,h1,⟨h2,h2'⟩,h3⟩ | ⟨hr,c1,e,q,he,h3⟩
  · have hw2:IntKind.wrap .u64 (IntKind.wrap .i64 ((a.length:Int)-(c1:Int)))=((a.length-c1:Nat):Int) := by rw [wi64 (by omega) (by omega),wu64 (by omega) (by omega)]; omega
    by_cases hbad:j<0 ∨ v>j ∨ v>((a.length-c1:Nat):Int)
    · refine .inr ⟨by unfold cntS; rw [hr,Option.bind_some,if_pos hbad],?_⟩
      unfold p17_2
      simp only [cond_false,decide_true,cond_true,dfp,h3,Option.bind_some]
      by_cases g:j<0
      · simp only [decide_eq_true g,cond_true,orK_inl,p35_ok (show (13:Int) ≠ 0 by decide),Option.bind_some,p35_er,p36_er,Bool.cond_self]
        exact ⟨_,_,_,by decide,rfl⟩
      · by_cases g2:v>j
        · have g2':v>IntKind.wrap .u64 j := by rw [wu64 (by omega) (by omega)]; omega
          simp only [decide_eq_false g,decide_eq_true g2',cond_true,orK_inl,p35_ok (show (13:Int) ≠ 0 by decide),Option.bind_some,p35_er,p36_er,Bool.cond_self]
          exact ⟨_,_,_,by decide,rfl⟩
        · have g2':¬ v>IntKind.wrap .u64 j := by rw [wu64 (by omega) (by omega)]; omega
          have g3:v>((a.length-c1:Nat):Int) := by omega
          simp only [decide_eq_false g,decide_eq_false g2',cond_true,cond_false,orK_inl,hw2,decide_eq_true g3,p35_ok (show (11:Int) ≠ 0 by decide),Option.bind_some,p36_er]
          exact ⟨_,_,_,by decide,rfl⟩
    · have hcn:cntS j a c=some (c1,v) := by unfold cntS; rw [hr,Option.bind_some,if_neg hbad]
      have g:¬ j<0 := fun k=>hbad (.inl k)
      have g2:¬ v>IntKind.wrap .u64 j := by rw [wu64 (by omega) (by omega)]; omega
      have g3:¬ v>((a.length-c1:Nat):Int) := by omega
      have hwv:IntKind.wrap .i64 v=v := wi64 (by omega) (by omega)
      refine .inl ⟨c1,v,0,0,hcn,h1,⟨h2,by omega,c1,hcn,by omega⟩,?_⟩
      unfold p17_2
      simp only [cond_false,decide_true,cond_true,dfp,h3,Option.bind_some,decide_eq_false g,decide_eq_false g2,orK_inl,hw2,decide_eq_false g3,p36_ok,hwv]
  · refine .inr ⟨by unfold cntS; rw [hr]; rfl,?_⟩
    unfold p17_2
    simp only [cond_false,decide_true,cond_true,dfp,h3,Option.bind_some,p35_er]
    refine ⟨c1,e,q,he,?_⟩
    rcases Bool.eq_false_or_eq_true (decide (j<0)) with g | g <;> rcases Bool.eq_false_or_eq_true (decide ((0:Int)>IntKind.wrap .u64 j)) with g2 | g2 <;> rcases Bool.eq_false_or_eq_true (decide ((0:Int)>IntKind.wrap .u64 (IntKind.wrap .i64 ((a.length:Int)-c1)))) with g3 | g3 <;> simp only [g,g2,g3,cond_true,cond_false,orK_inl,Option.bind_some,p35_er,p36_er]
theorem p59_er {a:List Int} {c e q j:Int}:p59_2 fu (stE a c e q,j,())=some ((stE a c e q,(),()),[]) := by
  unfold p59_2
  simp only [cond_true,decide_true,orK_inl,dfu]
theorem p59_short {a:List Int} {c j:Nat} {x y:Int} (hc:c≤a.length) (hn:a.length≤140737488355328) (h:a.length<c+j):p59_2 fu (stO a c x y,(j:Int),())=some ((stE a c 11 c,(),()),[]) := by
  have e1:decide ((j:Int)>IntKind.wrap .i64 ((a.length:Int)-(c:Int)))=true := by rw [wi64 (by omega) (by omega)]; simp; omega
  unfold p59_2
  simp only [cond_false,e1,cond_true,decide_true]
  rw [p18_er (by decide)]
  simp only [Option.bind_some,cond_true,orK_inl,dfu]
theorem p59_ok {a:List Int} {c j:Nat} {x y:Int} (hn:a.length≤140737488355328) (h:c+j≤a.length):p59_2 fu (stO a c x y,(j:Int),())=some ((stO a ((c+j:Nat):Int) 0 0,(),()),(a.drop c).take j) := by
  have e1:decide ((j:Int)>IntKind.wrap .i64 ((a.length:Int)-(c:Int)))=false := by rw [wi64 (by omega) (by omega)]; simp; omega
  have w1:IntKind.wrap .i64 ((c:Int)+(j:Int))=((c+j:Nat):Int) := by rw [wi64 (by omega) (by omega)]; omega
  have w2:IntKind.wrap .i64 (((c+j:Nat):Int)-(j:Int))=(c:Int) := by rw [wi64 (by omega) (by omega)]; omega
  have e2:decide ((0:Int)≤(c:Int))=true := by simp
  have e3:decide ((0:Int)≤((c+j:Nat):Int))=true := by simp; omega
  have e4:decide (c≤c+j∧0+(c+j)≤a.length)=true := by simp; omega
  have e6:decide (c+(c+j-c)≤a.length)=true := by simp; omega
  have es:sub' a c (c+j-c)=(a.drop c).take j := by rw [sub'_eq,Nat.add_sub_cancel_left]
  have hl:((a.drop c).take j).length≤140737488355328 := by rw [List.length_take,List.length_drop]; omega
  have e5:(((a.drop c).take j).length≤maxLen∧((a.drop c).take j).length * 1≤140737488355328)=True := eq_true ⟨Nat.le_trans hl (by decide),by omega⟩
  unfold p59_2
  simp only [cond_false,e1,orK_inl,w1,w2,e2,e3,Int.toNat_natCast,e4,e6,es,e5,decide_true,cond_true,dfp,dfu]
theorem p42_er {a:List Int} {c e q j:Int}:p42_1 fu (stE a c e q,j,())=some ((stE a c e q,(),()),[]) := by
  unfold p42_1
  simp only [cond_true,dfu,p17_er,p59_er,Option.bind_some,decide_true]
def isBs (a:List Int) (j:Int) (l:List Int):Prop := l.length≤a.length∧(l.length:Int)≤j∧byt l
theorem p42P {a:List Int} {c:Nat} {j x y:Int} (h:okA fu a) (hc:c≤a.length) (hj:isI j):PR a [] (bytS j a c) (isBs a j) (p42_1 fu (stO a c x y,j,())) := by
  unfold bytS p42_1
  simp only [cond_false,dfp,decide_true,cond_true]
  rcases p17P (x := 0) (y := 0) h hc hj with ⟨c1,v,x1,y1,hr,h1,⟨h2,h4,c2,h5,h6⟩,h3⟩ | ⟨hr,c1,e,q,he,h3⟩
  · rw [hr] at h5
    injection h5 with h5
    injection h5 with h5 h7
    subst h5
    obtain ⟨n,rfl⟩ := Int.eq_ofNat_of_zero_le h2
    simp only [h3,hr,Option.bind_some,Int.toNat_natCast]
    rw [p59_ok h.hn (by omega)]
    simp only [Option.bind_some]
    exact .inl ⟨_,_,_,_,rfl,by omega,⟨by rw [List.length_take,List.length_drop]; omega,by rw [List.length_take,List.length_drop]; omega,fun x hx=>h.hb x (List.mem_of_mem_drop (List.mem_of_mem_take hx))⟩,rfl⟩
  · simp only [h3,hr,Option.bind_some,Option.bind_none,p59_er]
    exact .inr ⟨rfl,_,_,_,he,rfl⟩
theorem p17N {a:List Int} {c:Nat} {j:Int} (h:okA fu a) (hc:c≤a.length) (hj:isI j):PR a 0 (cntS j a c) (isC a j c) (p17 fu ((a,(c:Int),(),()),j,())) := by
  have hl := h.hn
  obtain ⟨hj1,hj2⟩ := hj
  unfold isC
  rcases p19N h hc with ⟨c1,v,x1,y1,hr,h1,⟨h2,h2'⟩,h3⟩ | ⟨hr,c1,e,q,he,h3⟩
  · have hw2:IntKind.wrap .u64 (IntKind.wrap .i64 ((a.length:Int)-(c1:Int)))=((a.length-c1:Nat):Int) := by rw [wi64 (by omega) (by omega),wu64 (by omega) (by omega)]; omega
    by_cases hbad:j<0 ∨ v>j ∨ v>((a.length-c1:Nat):Int)
    · refine .inr ⟨by unfold cntS; rw [hr,Option.bind_some,if_pos hbad],?_⟩
      unfold p17
      simp only [decide_true,cond_true,h3,Option.bind_some]
      by_cases g:j<0
      · simp only [decide_eq_true g,cond_true,orK_inl,p35_ok (show (13:Int) ≠ 0 by decide),Option.bind_some,p35_er,p36_er,Bool.cond_self]
        exact ⟨_,_,_,by decide,rfl⟩
      · by_cases g2:v>j
        · have g2':v>IntKind.wrap .u64 j := by rw [wu64 (by omega) (by omega)]; omega
          simp only [decide_eq_false g,decide_eq_true g2',cond_true,orK_inl,p35_ok (show (13:Int) ≠ 0 by decide),Option.bind_some,p35_er,p36_er,Bool.cond_self]
          exact ⟨_,_,_,by decide,rfl⟩
        · have g2':¬ v>IntKind.wrap .u64 j := by rw [wu64 (by omega) (by omega)]; omega
          have g3:v>((a.length-c1:Nat):Int) := by omega
          simp only [decide_eq_false g,decide_eq_false g2',cond_true,cond_false,orK_inl,hw2,decide_eq_true g3,p35_ok (show (11:Int) ≠ 0 by decide),Option.bind_some,p36_er]
          exact ⟨_,_,_,by decide,rfl⟩
    · have hcn:cntS j a c=some (c1,v) := by unfold cntS; rw [hr,Option.bind_some,if_neg hbad]
      have g:¬ j<0 := fun k=>hbad (.inl k)
      have g2:¬ v>IntKind.wrap .u64 j := by rw [wu64 (by omega) (by omega)]; omega
      have g3:¬ v>((a.length-c1:Nat):Int) := by omega
      have hwv:IntKind.wrap .i64 v=v := wi64 (by omega) (by omega)
      refine .inl ⟨c1,v,0,0,hcn,h1,⟨h2,by omega,c1,hcn,by omega⟩,?_⟩
      unfold p17
      simp only [decide_true,cond_true,cond_false,h3,Option.bind_some,decide_eq_false g,decide_eq_false g2,orK_inl,hw2,decide_eq_false g3,p36_ok,hwv]
  · refine .inr ⟨by unfold cntS; rw [hr]; rfl,?_⟩
    unfold p17
    simp only [decide_true,cond_true,h3,Option.bind_some,p35_er]
    refine ⟨c1,e,q,he,?_⟩
    rcases Bool.eq_false_or_eq_true (decide (j<0)) with g | g <;> rcases Bool.eq_false_or_eq_true (decide ((0:Int)>IntKind.wrap .u64 j)) with g2 | g2 <;> rcases Bool.eq_false_or_eq_true (decide ((0:Int)>IntKind.wrap .u64 (IntKind.wrap .i64 ((a.length:Int)-c1)))) with g3 | g3 <;> simp only [g,g2,g3,cond_true,cond_false,orK_inl,Option.bind_some,p35_er,p36_er]
theorem PR.map {α β:Type} {a:List Int} {d:α} {r:Option (Nat×α)} {P:α→Prop} {o:Option ((PT×Unit×Unit)×α)} (g:α→β) {o':Option ((PT×Unit×Unit)×β)} {Q:β→Prop} (h:PR a d r P o) (hq:∀ v,P v→Q (g v))
    (h1:∀ c x y v,o=some ((stO a c x y,(),()),v)→o' = some ((stO a c x y,(),()),g v)) (h2:∀ c e q,o=some ((stE a c e q,(),()),d)→o' = some ((stE a c e q,(),()),g d)):PR a (g d) (r.bind fun r=>some (r.1,g r.2)) Q o' := by
  rcases h with ⟨c,v,x,y,hr,hc,hv,ho⟩ | ⟨hr,c,e,q,he,ho⟩
  · exact .inl ⟨c,g v,x,y,by rw [hr]; rfl,hc,hq v hv,h1 _ _ _ _ ho⟩
  · exact .inr ⟨by rw [hr]; rfl,c,e,q,he,h2 _ _ _ ho⟩
def repS {α:Type} (S:List Int→Nat→Option (Nat×α)) (a:List Int):Nat→List α→Nat→Option (Nat×List α)
  | 0,l,c=>some (c,l)
  | n+1,l,c=>(S a c).bind fun r=>repS S a n (l ++ [r.2]) r.1
def listS {α:Type} (S:List Int→Nat→Option (Nat×α)) (m:Int) (a:List Int) (c:Nat):Option (Nat×List α) := (cntS m a c).bind fun r=>repS S a r.2.toNat [] r.1
section
variable {α S R:Type} {f:S→Option (S ⊕ R)} {a:List Int} {P:α→Prop} {Sx:List Int→Nat→Option (Nat×α)} {n:Nat}
theorem list_er (mk:Nat→List α→PT→S)
    (her:∀ k l c e q,k<n→l.length=k→e ≠ 0 → ∃ d,f (mk k l (stE a c e q))=some (.inl (mk (k+1) (l ++ [d]) (stE a c e q)))):∀ m k l c e q j,k+m=n→l.length=k→e ≠ 0→m<j → ∃ (l':List α) (i:Nat),l'.length=n∧loopO j f (mk k l (stE a c e q))=loopO (i+1) f (mk n l' (stE a c e q))
  | 0,k,l,c,e,q,j,hk,hl,he,hj=>by
    obtain ⟨j,rfl⟩:∃ i,j=i+1 := ⟨j-1,by omega⟩
    have:k=n := by omega
    subst this
    exact ⟨l,j,hl,rfl⟩
  | m+1,k,l,c,e,q,j,hk,hl,he,hj=>by
    obtain ⟨j,rfl⟩:∃ i,j=i+1 := ⟨j-1,by omega⟩
    obtain ⟨d,hd⟩ := her k l c e q (by omega) hl he
    obtain ⟨l',i,h1,h2⟩ := list_er mk her m (k+1) (l ++ [d]) c e q j (by omega) (by simp [hl]) he (by omega)
    exact ⟨l',i,h1,by rw [← h2]; simp only [loopO,hd]⟩
theorem list_loop (mk:Nat→List α→PT→S)
    (hok:∀ k l (c:Nat) x y,k<n→l.length=k→c≤a.length→(∃ c1 v x1 y1,Sx a c=some (c1,v)∧c1≤a.length∧P v∧f (mk k l (stO a c x y))=some (.inl (mk (k+1) (l ++ [v]) (stO a c1 x1 y1)))) ∨ (Sx a c=none ∧ ∃ c1 e q v,e ≠ 0∧f (mk k l (stO a c x y))=some (.inl (mk (k+1) (l ++ [v]) (stE a c1 e q)))))
    (her:∀ k l c e q,k<n→l.length=k→e ≠ 0 → ∃ d,f (mk k l (stE a c e q))=some (.inl (mk (k+1) (l ++ [d]) (stE a c e q)))):∀ m k l (c:Nat) x y j,k+m=n→l.length=k→c≤a.length→(∀ z ∈ l,P z)→m<j →
      (∃ (c1:Nat) (v:List α) (x1 y1:Int) (i:Nat),repS Sx a m l c=some (c1,v)∧c1≤a.length∧(∀ z ∈ v,P z)∧v.length=n∧loopO j f (mk k l (stO a c x y))=loopO (i+1) f (mk n v (stO a c1 x1 y1))) ∨
        (repS Sx a m l c=none ∧ ∃ (c1 e q:Int) (v:List α) (i:Nat),e ≠ 0∧v.length=n∧loopO j f (mk k l (stO a c x y))=loopO (i+1) f (mk n v (stE a c1 e q)))
  | 0,k,l,c,x,y,j,hk,hl,hc,hP,hj=>by
    obtain ⟨j,rfl⟩:∃ i,j=i+1 := ⟨j-1,by omega⟩
    have:k=n := by omega
    subst this
    exact .inl ⟨c,l,x,y,j,rfl,hc,hP,hl,rfl⟩
  | m+1,k,l,c,x,y,j,hk,hl,hc,hP,hj=>by
    obtain ⟨j,rfl⟩:∃ i,j=i+1 := ⟨j-1,by omega⟩
    rcases hok k l c x y (by omega) hl hc with ⟨c1,v,x1,y1,h1,h2,h3,h4⟩ | ⟨h1,c1,e,q,v,he,h4⟩
    · have hP':∀ z ∈ l ++ [v],P z := fun z hz=>by
        rcases List.mem_append.1 hz with hz | hz
        · exact hP z hz
        · rw [List.mem_singleton] at hz
          rw [hz]
          exact h3
      have := list_loop mk hok her m (k+1) (l ++ [v]) c1 x1 y1 j (by omega) (by simp [hl]) h2 hP' (by omega)
      have e:loopO (j+1) f (mk k l (stO a c x y))=loopO j f (mk (k+1) (l ++ [v]) (stO a c1 x1 y1)) := by simp only [loopO,h4]
      rw [e]
      simp only [repS,h1,Option.bind_some]
      exact this
    · obtain ⟨l',i,g1,g2⟩ := list_er mk her m (k+1) (l ++ [v]) c1 e q j (by omega) (by simp [hl]) he (by omega)
      exact .inr ⟨by simp only [repS,h1,Option.bind_none],c1,e,q,l',i,he,g1,by rw [← g2]; simp only [loopO,h4]⟩
theorem list_all {o:Option R} {fu:Nat} {c:Nat} {x y:Int} (mk:Nat→List α→PT→S) (ho:loopO fu f (mk 0 [] (stO a c x y))=o)
    (hok:∀ k l (c:Nat) x y,k<n→l.length=k→c≤a.length→(∃ c1 v x1 y1,Sx a c=some (c1,v)∧c1≤a.length∧P v∧f (mk k l (stO a c x y))=some (.inl (mk (k+1) (l ++ [v]) (stO a c1 x1 y1)))) ∨ (Sx a c=none ∧ ∃ c1 e q v,e ≠ 0∧f (mk k l (stO a c x y))=some (.inl (mk (k+1) (l ++ [v]) (stE a c1 e q)))))
    (her:∀ k l c e q,k<n→l.length=k→e ≠ 0 → ∃ d,f (mk k l (stE a c e q))=some (.inl (mk (k+1) (l ++ [d]) (stE a c e q)))) (hc:c≤a.length) (hn:n<fu) :
      (∃ (c1:Nat) (v:List α) (x1 y1:Int) (i:Nat),repS Sx a n [] c=some (c1,v)∧c1≤a.length∧(∀ z ∈ v,P z)∧v.length=n∧o=loopO (i+1) f (mk n v (stO a c1 x1 y1))) ∨
        (repS Sx a n [] c=none ∧ ∃ (c1 e q:Int) (v:List α) (i:Nat),e ≠ 0∧v.length=n∧o=loopO (i+1) f (mk n v (stE a c1 e q))) := by
  subst ho
  exact list_loop mk hok her n 0 [] c x y fu (by omega) rfl hc (fun z hz=>by simp at hz) hn
end
theorem isC.nat {a:List Int} {j:Int} {c c1:Nat} {v:Int} (hr:cntS j a c=some (c1,v)) (hv:isC a j c v):∃ k:Nat,v=(k:Int)∧(k:Int)≤j∧c1+k≤a.length := by
  obtain ⟨h2,h4,c2,h5,h6⟩ := hv
  rw [hr] at h5
  injection h5 with h5
  injection h5 with h5 h7
  subst h5
  exact ⟨v.toNat,by omega,by omega,by omega⟩
theorem take1 {a:List Int} {c:Nat} (h:c<a.length):(a.drop c).take 1=[a.getD c 0] := by
  rw [List.drop_eq_getElem_cons h,List.take_succ_cons,List.take_zero,List.getD_eq_getElem?_getD,List.getElem?_eq_getElem h]
  rfl
theorem p38_er {a:List Int} {c e q:Int}:p38_2 fu (stE a c e q,())=some ((stE a c e q,(),()),false) := by
  unfold p38_2
  simp only [cond_true,dfu,p59_er,Option.bind_some,decide_true,List.length_nil]
  rfl
theorem p38P {a:List Int} {c:Nat} {x y:Int} (h:okA fu a) (hc:c≤a.length):PR a false (boolS a c) (fun _=>True) (p38_2 fu (stO a c x y,())) := by
  have hn := h.hn
  unfold boolS p38_2
  simp only [cond_true,cond_false,dfp,decide_true]
  by_cases hlt:c<a.length
  · have h1 := p59_ok (fu := fu) (x := 0) (y := 0) h.hn (show c+1≤a.length by omega)
    rw [take1 hlt] at h1
    simp only [show ((1:Nat):Int)=1 from rfl] at h1
    generalize hv:a.getD c 0=v at h1 ⊢
    have e0:List.getD [v] 0 (dflt (.int .u8))=v := rfl
    have e1:(((List.length [v]:Nat):Int)==1)=true := rfl
    have e2:decide ((0:Int)≤0∧0<((List.length [v]:Nat):Int))=true := rfl
    have e3:decide (0<List.length [v])=true := rfl
    simp only [h1,Option.bind_some,e0,e1,e2,e3,cond_true,orK_inl]
    by_cases hv1:v>1
    · have hb:¬ (c<a.length∧v≤1) := by omega
      rw [if_neg hb]
      simp only [decide_eq_true hv1,cond_true,p35_ok (show (16:Int) ≠ 0 by decide),Option.bind_some,orK_inl]
      exact .inr ⟨rfl,_,_,_,by decide,rfl⟩
    · have hb:c<a.length∧v≤1 := by omega
      rw [if_pos hb]
      simp only [decide_eq_false hv1,cond_false,orK_inl]
      exact .inl ⟨_,_,_,_,rfl,by omega,trivial,rfl⟩
  · have h1 := p59_short (fu := fu) (x := 0) (y := 0) hc h.hn (show a.length<c+1 by omega)
    simp only [show ((1:Nat):Int)=1 from rfl] at h1
    rw [if_neg (fun k=>hlt k.1)]
    have e1:(((List.length ([]:List Int):Nat):Int)==1)=false := rfl
    simp only [h1,Option.bind_some,e1,cond_false,cond_true,orK_inl]
    exact .inr ⟨rfl,_,_,_,by decide,rfl⟩
theorem p22_er {a:List Int} {c e q:Int}:p22 fu (stE a c e q,())=some ((stE a c e q,(),()),(e,q,())) := by
  unfold p22 pAsM
  simp only [cond_true,cond_false,Option.bind_some,Bool.not_false,decide_true,orK_inl]
theorem p22_ok {a:List Int} {c x y:Int}:p22 fu (stO a c x y,())=some ((stO a c 0 0,(),()),(0,0,())) := by
  unfold p22 pAsM
  simp only [cond_true,cond_false,Option.bind_some,Bool.not_true,decide_true,orK_inl]
  rfl
theorem p23_er {a:List Int} {c e q:Int} (he:e ≠ 0):p23 fu (stE a c e q,())=some ((stE a c e q,(),()),e) := by
  have g:(e==0)=false := beq_eq_false_iff_ne.2 he
  unfold p23
  simp only [cond_true,dfu,p22_er,Option.bind_some,decide_true,g,cond_false]
theorem p23_ok {a:List Int} {c x y:Int}:p23 fu (stO a c x y,())=some ((stO a c 0 0,(),()),if c<(a.length:Int) then 15 else 0) := by
  unfold p23
  simp only [cond_true,cond_false,dfp,p22_ok,Option.bind_some,decide_true,BEq.rfl]
  by_cases g:c<(a.length:Int)
  · simp only [decide_eq_true g,cond_true,if_pos g]
  · simp only [decide_eq_false g,cond_false,if_neg g]
end
section
open Go.RowKit
variable {fu:Nat}
def lB {α:Type} (enc:α→List Int) (l:List α):List Int := uB (l.length:Int) ++ l.flatMap enc
theorem drop_next {a w t:List Int} {c:Nat} (h:a.drop c=w ++ t):a.drop (c+w.length)=t := by rw [← List.drop_drop,h,List.drop_left]
theorem drop_left' {a w t:List Int} {c:Nat} (h:a.drop c=w ++ t):t.length=a.length-(c+w.length) := by
  rw [← drop_next h,List.length_drop]
theorem uS_at {a t:List Int} {c:Nat} {v:Int} (hv:isU v) (h:a.drop c=uB v ++ t):uS a c=some (c+(uB v).length,v) := by
  obtain ⟨n,rfl⟩ := Int.eq_ofNat_of_zero_le hv.1
  have hn := hv.2
  have e := numS_ub (n+1) n 0 0 t (Nat.lt_succ_self n) (fun h=>absurd h (Nat.lt_irrefl 0)) (by omega) (by decide) (by simp only [Nat.pow_zero,Nat.mul_one,Nat.zero_add]; omega)
  simp only [Nat.pow_zero,Nat.mul_one,Nat.zero_add] at e
  unfold uS
  rw [h,show uB ((n:Nat):Int)=ub n from rfl,e,if_pos rfl]
  rfl
theorem iS_at {a t:List Int} {c:Nat} {v:Int} (hv:isI v) (h:a.drop c=iB v ++ t):iS a c=some (c+(iB v).length,v) := by
  unfold iS
  rw [uS_at (zz_u hv) h,Option.bind_some,unzz_zz]
  rfl
theorem cntS_at {a t:List Int} {c n:Nat} {m:Int} (h:a.drop c=uB (n:Int) ++ t) (hn:n≤140737488355328) (hm:(n:Int)≤m) (ht:n≤t.length):cntS m a c=some (c+(uB (n:Int)).length,(n:Int)) := by
  have hl := drop_left' h
  unfold cntS
  rw [uS_at (isU_len hn) h,Option.bind_some,if_neg (by dsimp only; omega)]
theorem bytS_at {a t d:List Int} {c:Nat} {m:Int} (h:a.drop c=tB d ++ t) (hd:d.length≤140737488355328) (hm:(d.length:Int)≤m):bytS m a c=some (c+(tB d).length,d) := by
  unfold tB at h ⊢
  rw [List.append_assoc] at h
  unfold bytS
  rw [cntS_at h hd hm (by rw [List.length_append]; omega),Option.bind_some]
  dsimp only
  rw [drop_next h,Int.toNat_natCast,List.take_left,List.length_append,Nat.add_assoc]
theorem boolS_at {a t:List Int} {b:Bool} {c:Nat} (h:a.drop c=bB b ++ t):boolS a c=some (c+(bB b).length,b) := by
  have hbB:bB b=[if b then 1 else 0] := by cases b <;> rfl
  rw [hbB] at h ⊢
  have hl := congrArg List.length h
  simp only [List.length_drop,List.length_append,List.length_singleton] at hl
  have hg:a.getD c 0=if b then 1 else 0 := by
    rw [List.getD_eq_getElem?_getD]
    have := congrArg (fun l=>l[0]?) h
    simp only [List.getElem?_drop,List.singleton_append,List.getElem?_cons_zero,Nat.add_zero] at this
    rw [this]
    rfl
  unfold boolS
  rw [hg,if_pos (by constructor; omega; cases b <;> decide)]
  cases b <;> rfl
theorem rep_at {α:Type} {S:List Int→Nat→Option (Nat×α)} {enc:α→List Int} {W:α→Prop} (hS:∀ a t c x,W x→a.drop c=enc x ++ t→S a c=some (c+(enc x).length,x)) :
    ∀ (l s:List α) (a t:List Int) (c:Nat),(∀ x ∈ l,W x)→a.drop c=l.flatMap enc ++ t→repS S a l.length s c=some (c+(l.flatMap enc).length,s ++ l)
  | [],s,a,t,c,_,h=>by simp [repS]
  | x :: l,s,a,t,c,hw,h=>by
    rw [List.flatMap_cons,List.append_assoc] at h
    simp only [repS,List.length_cons,hS a _ c x (hw x (by simp)) h,Option.bind_some]
    rw [rep_at hS l (s ++ [x]) a t _ (fun y hy=>hw y (by simp [hy])) (drop_next h),List.flatMap_cons,List.length_append,Nat.add_assoc,List.append_assoc]
    rfl
theorem flat_ge {α:Type} {enc:α→List Int} (he:∀ x,1≤(enc x).length) (l:List α):l.length≤(l.flatMap enc).length := by
  induction l with
  | nil=>simp
  | cons x l ih =>
    have := he x
    rw [List.flatMap_cons,List.length_append,List.length_cons]
    omega
theorem list_at {α:Type} {S:List Int→Nat→Option (Nat×α)} {enc:α→List Int} {W:α→Prop} (hS:∀ a t c x,W x→a.drop c=enc x ++ t→S a c=some (c+(enc x).length,x)) (he:∀ x,1≤(enc x).length)
    {l:List α} {a t:List Int} {c:Nat} {m:Int} (hw:∀ x ∈ l,W x) (hm:(l.length:Int)≤m) (hl:l.length≤140737488355328) (h:a.drop c=lB enc l ++ t):listS S m a c=some (c+(lB enc l).length,l) := by
  unfold lB at h ⊢
  rw [List.append_assoc] at h
  have hg := flat_ge he l
  unfold listS
  rw [cntS_at h hl hm (by rw [List.length_append]; omega),Option.bind_some,Int.toNat_natCast]
  rw [rep_at hS l [] a t _ hw (drop_next h),List.length_append,Nat.add_assoc]
  rfl
theorem ub_pos' (n:Nat):1≤(ub n).length := by
  by_cases h:n<128
  · rw [ub_small h]
    simp
  · rw [ub_big h]
    simp
end
section
open Go.RowKit
variable {fu:Nat}
def PE {α:Type} (a:List Int) (r:Option (Nat×α)) (o:Option ((PT×Unit×Unit)×α)):Prop :=
  (∃ (c:Nat) (v:α) (h i:Int),r=some (c,v)∧c≤a.length∧o=some ((stO a c h i,(),()),v)) ∨ (r=none ∧ ∃ (c e q:Int) (d:α),e ≠ 0∧o=some ((stE a c e q,(),()),d))
def kdS (a:List Int) (c:Nat):Option (Nat×Int) := (iS a c).bind fun r=>if r.2<1 ∨ r.2>3 then none else some r
theorem lt01:decide ((0:Int)<1)=true := rfl
theorem p77_er {a:List Int} {c e q:Int}:p77_1 fu (stE a c e q,())=some ((stE a c e q,(),()),0) := by
  unfold p77_1
  simp only [cond_true,dfu,p39_er,Option.bind_some,decide_true,orK_inl,p35_er,lt01]
theorem p77P {a:List Int} {c:Nat} {x y:Int} (h:okA fu a) (hc:c≤a.length):PE a (kdS a c) (p77_1 fu (stO a c x y,())) := by
  unfold kdS p77_1
  simp only [cond_false,dfp,decide_true,cond_true]
  rcases p39P (x := 0) (y := 0) h hc with ⟨c1,v,x1,y1,hr,h1,_,h3⟩ | ⟨hr,c1,e,q,he,h3⟩
  · simp only [h3,hr,Option.bind_some]
    by_cases g:v<1
    · simp only [decide_eq_true g,cond_true,orK_inl,p35_ok (show (16:Int) ≠ 0 by decide),Option.bind_some]
      exact .inr ⟨if_pos (.inl g),_,_,_,_,by decide,rfl⟩
    · by_cases g2:v>3
      · simp only [decide_eq_false g,decide_eq_true g2,cond_true,cond_false,orK_inl,p35_ok (show (16:Int) ≠ 0 by decide),Option.bind_some]
        exact .inr ⟨if_pos (.inr g2),_,_,_,_,by decide,rfl⟩
      · simp only [decide_eq_false g,decide_eq_false g2,cond_false,orK_inl]
        exact .inl ⟨_,_,_,_,if_neg (by omega),h1,rfl⟩
  · simp only [h3,hr,Option.bind_some,Option.bind_none,lt01,cond_true,orK_inl,p35_er]
    exact .inr ⟨rfl,_,_,_,_,he,rfl⟩
theorem i7:isI 7 := by unfold isI; omega
theorem i8:isI 8 := by unfold isI; omega
theorem i4096:isI 4096 := by unfold isI; omega
theorem i262144:isI 262144 := by unfold isI; omega
theorem p62_er {a:List Int} {c e q:Int} (hf:10<fu):p62_2 fu (stE a c e q,())=some ((stE a c e q,(),()),[]) := by
  obtain ⟨k,rfl⟩:∃ k,fu=k+1 := ⟨fu-1,by omega⟩
  unfold p62_2
  simp only [cond_true,dfu,p17_er,Option.bind_some,decide_true,loopO,Int.lt_irrefl,decide_false,cond_false,inrO,Option.map_some]
theorem p62P {a:List Int} {c:Nat} {x y:Int} (h:okA fu a) (hc:c≤a.length) (hf:4194304<fu):PE a (listS iS 7 a c) (p62_2 fu (stO a c x y,())) := by
  unfold listS p62_2
  simp only [cond_false,dfp,decide_true,cond_true]
  rcases p17P (x := 0) (y := 0) h hc i7 with ⟨c1,v,x1,y1,hr,h1,g1,o1⟩ | ⟨hr,c1,e,q,he,o1⟩
  · obtain ⟨n,rfl,hn,hcn⟩ := isC.nat hr g1
    simp only [o1,hr,Option.bind_some,Int.toNat_natCast]
    generalize hL:loopO fu _ _=o
    refine Or.elim (list_all (n := n) (P := fun _=>True) (Sx := iS) (fun k l st=>((l,(k:Int),()),(st,()))) hL (fun k l c x y hk hl hc => ?_) (fun k l c e q hk hl he => ?_) h1 (by omega)) ?_ ?_
    · have e1:decide ((k:Int)<(n:Int))=true := by simp; omega
      have e2:(l.length+1≤maxLen∧(l.length+1) * 8≤140737488355328)=True := eq_true ⟨Nat.le_trans (show l.length+1≤140737488355328 by omega) (by decide),by omega⟩
      have e3:IntKind.wrap .i64 ((k:Int)+1)=((k+1:Nat):Int) := by rw [wi64 (by omega) (by omega)]; omega
      rcases p39P (x := x) (y := y) h hc with ⟨c1,v,x1,y1,q1,q2,q3,q4⟩ | ⟨q1,c1,e,q,he,q4⟩
      · exact .inl ⟨c1,v,x1,y1,q1,q2,trivial,by simp only [e1,q4,cond_true,decide_true,Option.bind_some,List.length_singleton,e2,e3]⟩
      · exact .inr ⟨q1,c1,e,q,_,he,by simp only [e1,q4,cond_true,decide_true,Option.bind_some,List.length_singleton,e2,e3]; rfl⟩
    · have e1:decide ((k:Int)<(n:Int))=true := by simp; omega
      have e2:(l.length+1≤maxLen∧(l.length+1) * 8≤140737488355328)=True := eq_true ⟨Nat.le_trans (show l.length+1≤140737488355328 by omega) (by decide),by omega⟩
      have e3:IntKind.wrap .i64 ((k:Int)+1)=((k+1:Nat):Int) := by rw [wi64 (by omega) (by omega)]; omega
      exact ⟨_,by simp only [e1,p39_er,cond_true,decide_true,Option.bind_some,List.length_singleton,e2,e3]; rfl⟩
    · rintro ⟨c2,w,x2,y2,i,g2,g3,_,_,g6⟩
      refine .inl ⟨c2,w,x2,y2,g2,g3,?_⟩
      rw [g6]
      simp only [loopO,Int.lt_irrefl,decide_false,cond_false,inrO,Option.map_some]
    · rintro ⟨g2,c2,e,q,w,i,he,_,g6⟩
      refine .inr ⟨g2,c2,e,q,w,he,?_⟩
      rw [g6]
      simp only [loopO,Int.lt_irrefl,decide_false,cond_false,inrO,Option.map_some]
  · obtain ⟨k,hk⟩:∃ k,fu=k+1 := ⟨fu-1,by omega⟩
    simp only [o1,hr,Option.bind_some,Option.bind_none]
    refine .inr ⟨rfl,c1,e,q,[],he,?_⟩
    rw [hk]
    simp only [loopO,Int.lt_irrefl,decide_false,cond_false,inrO,Option.map_some]
abbrev CF := List Int×List Int×Unit
def cfS (a:List Int) (c:Nat):Option (Nat×CF) := (listS iS 7 a c).bind fun r=>(listS iS 7 a r.1).bind fun s=>some (s.1,(r.2,s.2,()))
theorem p61_er {a:List Int} {c e q:Int} {x:CF}:p61_7 fu (stE a c e q,x,())=some ((stE a c e q,(),(),(),()),([],[],())) := by
  unfold p61_7
  simp only [cond_true,decide_true]
theorem p61_ok {a:List Int} {c x y:Int} {l m:List Int}:p61_7 fu (stO a c x y,(l,m,()),())=some ((stO a c 0 0,(),(),(),()),(l,m,())) := by
  unfold p61_7
  simp only [cond_true,cond_false,decide_true]
  rfl
theorem p41_er {a:List Int} {c e q:Int} (hf:10<fu):p41_1 fu (stE a c e q,())=some ((stE a c e q,(),()),([],[],())) := by
  unfold p41_1
  simp only [cond_true,dfu,p62_er hf,p61_er,Option.bind_some,decide_true]
theorem p41P {a:List Int} {c:Nat} {x y:Int} (h:okA fu a) (hc:c≤a.length) (hf:4194304<fu):PE a (cfS a c) (p41_1 fu (stO a c x y,())) := by
  have hf':10<fu := by omega
  unfold cfS p41_1
  simp only [decide_true,cond_true,cond_false,dfp]
  rcases p62P (x := 0) (y := 0) h hc hf with ⟨c1,v1,x1,y1,hr1,h1,o1⟩ | ⟨hr1,c1,e,q,d,he,o1⟩
  · simp only [o1,hr1,Option.bind_some]
    rcases p62P (x := x1) (y := y1) h h1 hf with ⟨c2,v2,x2,y2,hr2,h2,o2⟩ | ⟨hr2,c2,e,q,d,he,o2⟩
    · simp only [o2,hr2,Option.bind_some,p61_ok]
      exact .inl ⟨_,_,_,_,rfl,h2,rfl⟩
    · simp only [o2,hr2,Option.bind_some,Option.bind_none,p61_er]
      exact .inr ⟨rfl,_,_,_,_,he,rfl⟩
  · simp only [o1,hr1,Option.bind_some,Option.bind_none,p62_er hf',p61_er]
    exact .inr ⟨rfl,_,_,_,_,he,rfl⟩
abbrev EZ := Int×Int×Int×List Int×List Int×List Int×Unit
def enS (a:List Int) (c:Nat):Option (Nat×EZ) :=
  (uS a c).bind fun r0=>(uS a r0.1).bind fun r1=>(kdS a r1.1).bind fun r2=>(bytS 262144 a r2.1).bind fun r3=>(cfS a r3.1).bind fun r4=>some (r4.1,(r0.2,r1.2,r2.2,r3.2,r4.2.1,r4.2.2.1,()))
def en2S (a:List Int) (c:Nat):Option (Nat×EN) := (enS a c).bind fun r=>some (r.1,(r.2.1,r.2.2.1,r.2.2.2.1,r.2.2.2.2.1,r.2.2.2.2.2.1,r.2.2.2.2.2.2.1))
theorem p76_er {a:List Int} {c e q:Int} {x:EZ}:p76_5 fu (stE a c e q,x,())=some ((stE a c e q,(),(),(),(),()),(0,0,0,[],[],[],())) := by
  unfold p76_5
  simp only [cond_true,decide_true]
theorem p76_ok {a:List Int} {c x y:Int} {i t k:Int} {d v l:List Int}:p76_5 fu (stO a c x y,(i,t,k,d,v,l,()),())=some ((stO a c 0 0,(),(),(),(),()),(i,t,k,d,v,l,())) := by
  unfold p76_5
  simp only [cond_true,cond_false,decide_true]
  rfl
theorem p60_er {a:List Int} {c e q:Int} (hf:10<fu):p60_1 fu (stE a c e q,())=some ((stE a c e q,(),()),(0,0,0,[],[],[],())) := by
  unfold p60_1
  simp only [cond_true,dfu,p19_er,p77_er,p42_er,p41_er hf,p76_er,Option.bind_some,decide_true]
theorem p60P {a:List Int} {c:Nat} {x y:Int} (h:okA fu a) (hc:c≤a.length) (hf:4194304<fu):PE a (enS a c) (p60_1 fu (stO a c x y,())) := by
  have hf':10<fu := by omega
  unfold enS p60_1
  simp only [decide_true,cond_true,cond_false,dfp]
  rcases p19P (x := 0) (y := 0) h hc with ⟨c0,v0,x0,y0,hr0,h0,g0,o0⟩ | ⟨hr0,c0,e,q,he,o0⟩
  rotate_left
  · simp only [o0,hr0,Option.bind_some,Option.bind_none,p19_er,p77_er,p42_er,p41_er hf',p76_er]
    exact .inr ⟨rfl,_,_,_,_,he,rfl⟩
  simp only [o0,hr0,Option.bind_some]
  rcases p19P (x := x0) (y := y0) h h0 with ⟨c1,v1,x1,y1,hr1,h1,g1,o1⟩ | ⟨hr1,c1,e,q,he,o1⟩
  rotate_left
  · simp only [o1,hr1,Option.bind_some,Option.bind_none,p77_er,p42_er,p41_er hf',p76_er]
    exact .inr ⟨rfl,_,_,_,_,he,rfl⟩
  simp only [o1,hr1,Option.bind_some]
  rcases p77P (x := x1) (y := y1) h h1 with ⟨c2,v2,x2,y2,hr2,h2,o2⟩ | ⟨hr2,c2,e,q,d,he,o2⟩
  rotate_left
  · simp only [o2,hr2,Option.bind_some,Option.bind_none,p42_er,p41_er hf',p76_er]
    exact .inr ⟨rfl,_,_,_,_,he,rfl⟩
  simp only [o2,hr2,Option.bind_some]
  rcases p42P (x := x2) (y := y2) h h2 i262144 with ⟨c3,v3,x3,y3,hr3,h3,g3,o3⟩ | ⟨hr3,c3,e,q,he,o3⟩
  rotate_left
  · simp only [o3,hr3,Option.bind_some,Option.bind_none,p41_er hf',p76_er]
    exact .inr ⟨rfl,_,_,_,_,he,rfl⟩
  simp only [o3,hr3,Option.bind_some]
  rcases p41P (x := x3) (y := y3) h h3 hf with ⟨c4,⟨v4,w4,⟨⟩⟩,x4,y4,hr4,h4,o4⟩ | ⟨hr4,c4,e,q,d,he,o4⟩
  rotate_left
  · simp only [o4,hr4,Option.bind_some,Option.bind_none,p76_er]
    exact .inr ⟨rfl,_,_,_,_,he,rfl⟩
  simp only [o4,hr4,Option.bind_some]
  simp only [p76_ok,Option.bind_some]
  exact .inl ⟨_,_,_,_,rfl,h4,rfl⟩
theorem p40_er {a:List Int} {c e q:Int} (hf:10<fu):p40_1 fu (stE a c e q,())=some ((stE a c e q,(),()),[]) := by
  obtain ⟨k,rfl⟩:∃ k,fu=k+1 := ⟨fu-1,by omega⟩
  unfold p40_1
  simp only [cond_true,dfu,p17_er,Option.bind_some,decide_true,loopO,Int.lt_irrefl,decide_false,cond_false,inrO,Option.map_some]
theorem p40P {a:List Int} {c:Nat} {x y:Int} (h:okA fu a) (hc:c≤a.length) (hf:4194304<fu):PE a (listS en2S 8 a c) (p40_1 fu (stO a c x y,())) := by
  unfold listS p40_1
  simp only [cond_false,dfp,decide_true,cond_true]
  rcases p17P (x := 0) (y := 0) h hc i8 with ⟨c1,v,x1,y1,hr,h1,g1,o1⟩ | ⟨hr,c1,e,q,he,o1⟩
  · obtain ⟨n,rfl,hn,hcn⟩ := isC.nat hr g1
    simp only [o1,hr,Option.bind_some,Int.toNat_natCast]
    generalize hL:loopO fu _ _=o
    refine Or.elim (list_all (n := n) (P := fun _=>True) (Sx := en2S) (fun k l st=>((l,(k:Int),()),(st,()))) hL (fun k l c x y hk hl hc => ?_) (fun k l c e q hk hl he => ?_) h1 (by omega)) ?_ ?_
    · have e1:decide ((k:Int)<(n:Int))=true := by simp; omega
      have e2:(l.length+1≤maxLen∧(l.length+1) * 96≤140737488355328)=True := eq_true ⟨Nat.le_trans (show l.length+1≤140737488355328 by omega) (by decide),by omega⟩
      have e3:IntKind.wrap .i64 ((k:Int)+1)=((k+1:Nat):Int) := by rw [wi64 (by omega) (by omega)]; omega
      rcases p60P (x := x) (y := y) h hc hf with ⟨c1,⟨i0,i1,i2,i3,i4,i5,⟨⟩⟩,x1,y1,q1,q2,q4⟩ | ⟨q1,c1,e,q,⟨i0,i1,i2,i3,i4,i5,⟨⟩⟩,he,q4⟩
      · exact .inl ⟨c1,(i0,i1,i2,i3,i4,i5),x1,y1,by rw [en2S,q1]; rfl,q2,trivial,by simp only [e1,q4,cond_true,decide_true,Option.bind_some,List.length_singleton,e2,e3]⟩
      · exact .inr ⟨by rw [en2S,q1]; rfl,c1,e,q,_,he,by simp only [e1,q4,cond_true,decide_true,Option.bind_some,List.length_singleton,e2,e3]; rfl⟩
    · have e1:decide ((k:Int)<(n:Int))=true := by simp; omega
      have e2:(l.length+1≤maxLen∧(l.length+1) * 96≤140737488355328)=True := eq_true ⟨Nat.le_trans (show l.length+1≤140737488355328 by omega) (by decide),by omega⟩
      have e3:IntKind.wrap .i64 ((k:Int)+1)=((k+1:Nat):Int) := by rw [wi64 (by omega) (by omega)]; omega
      exact ⟨_,by simp only [e1,p60_er (show 10<fu by omega),cond_true,decide_true,Option.bind_some,List.length_singleton,e2,e3]; rfl⟩
    · rintro ⟨c2,w,x2,y2,i,g2,g3,_,_,g6⟩
      refine .inl ⟨c2,w,x2,y2,g2,g3,?_⟩
      rw [g6]
      simp only [loopO,Int.lt_irrefl,decide_false,cond_false,inrO,Option.map_some]
    · rintro ⟨g2,c2,e,q,w,i,he,_,g6⟩
      refine .inr ⟨g2,c2,e,q,w,he,?_⟩
      rw [g6]
      simp only [loopO,Int.lt_irrefl,decide_false,cond_false,inrO,Option.map_some]
  · obtain ⟨k,hk⟩:∃ k,fu=k+1 := ⟨fu-1,by omega⟩
    simp only [o1,hr,Option.bind_some,Option.bind_none]
    refine .inr ⟨rfl,c1,e,q,[],he,?_⟩
    rw [hk]
    simp only [loopO,Int.lt_irrefl,decide_false,cond_false,inrO,Option.map_some]
end
section
open Go.RowKit
variable {fu:Nat}
abbrev MZ := Int×Int×Int×Int×Int×Int×List EN×Int×Bool×Int×List Int×List Int×List Int×Bool×Unit
def isZ (z:MZ):Bool := isBq (0,z.1,z.2.1,z.2.2.1,z.2.2.2.1,z.2.2.2.2.1,z.2.2.2.2.2.1,z.2.2.2.2.2.2.1,z.2.2.2.2.2.2.2.1,z.2.2.2.2.2.2.2.2.1,z.2.2.2.2.2.2.2.2.2.1,(z.2.2.2.2.2.2.2.2.2.2.1,z.2.2.2.2.2.2.2.2.2.2.2.1),z.2.2.2.2.2.2.2.2.2.2.2.2.1,z.2.2.2.2.2.2.2.2.2.2.2.2.2.1)
theorem q32_is (z:MZ):p32 fu (z,())=some ((),isZ z) := isBq_is fu (0,z.1,z.2.1,z.2.2.1,z.2.2.2.1,z.2.2.2.2.1,z.2.2.2.2.2.1,z.2.2.2.2.2.2.1,z.2.2.2.2.2.2.2.1,z.2.2.2.2.2.2.2.2.1,z.2.2.2.2.2.2.2.2.2.1,(z.2.2.2.2.2.2.2.2.2.2.1,z.2.2.2.2.2.2.2.2.2.2.2.1),z.2.2.2.2.2.2.2.2.2.2.2.2.1,z.2.2.2.2.2.2.2.2.2.2.2.2.2.1)
theorem q15_is (n:Int):p15 fu (n,())=some ((),nodeS n) := by
  unfold p15 nodeS
  dsimp only
  cases decide (n≥1) <;> rfl
theorem q43_is (n:Int):p43 fu (n,())=some ((),kindS n) := by
  unfold p43 kindS
  dsimp only
  cases decide (n≥1) <;> rfl
theorem q18_er {a:List Int} {c e q k:Int}:p18_1 fu (stE a c e q,k,())=some ((stE a c e q,(),()),()) := by
  unfold p18_1
  simp only [cond_true,dfu,p35_er,Option.bind_some,decide_true]
theorem q18_ok {a:List Int} {c x y k:Int} (hk:k ≠ 0):p18_1 fu (stO a c x y,k,())=some ((stE a c k c,(),()),()) := by
  unfold p18_1
  simp only [cond_true,cond_false,dfp,p35_ok hk,Option.bind_some,decide_true]
def btS (a:List Int) (c:Nat):Option (Nat×MZ) := (boolS a c).bind fun r0=>bif r0.2 then
    (uS a r0.1).bind fun r1=>(uS a r1.1).bind fun r2=>some (r2.1,(6,0,0,r1.2,r2.2,0,[],0,false,0,[],[],[],false,()))
  else (uS a r0.1).bind fun r1=>(uS a r1.1).bind fun r2=>(uS a r2.1).bind fun r3=>(uS a r3.1).bind fun r4=>some (r4.1,(5,0,0,r1.2,r2.2,r3.2,[],r4.2,false,0,[],[],[],false,()))
theorem p20_er {a:List Int} {c e q:Int}:p20 fu (stE a c e q,())=some ((stE a c e q,(),()),(5,0,0,0,0,0,[],0,false,0,[],[],[],false,())) := by
  unfold p20
  simp only [cond_true,cond_false,dfu,p38_er,p19_er,Option.bind_some,decide_true]
theorem p20P {a:List Int} {c:Nat} {x y:Int} (h:okA fu a) (hc:c≤a.length):PE a (btS a c) (p20 fu (stO a c x y,())) := by
  unfold btS p20
  simp only [decide_true,cond_true,cond_false,dfp]
  rcases p38P (x := 0) (y := 0) h hc with ⟨c0,v0,x0,y0,hr0,h0,g0,o0⟩ | ⟨hr0,c0,e,q,he,o0⟩
  rotate_left
  · simp only [o0,hr0,Option.bind_some,Option.bind_none,p19_er,cond_false]
    exact .inr ⟨rfl,_,_,_,_,he,rfl⟩
  simp only [o0,hr0,Option.bind_some]
  cases v0 with
  | true =>
    simp only [cond_true]
    rcases p19P (x := x0) (y := y0) h h0 with ⟨c1,v1,x1,y1,hr1,h1,g1,o1⟩ | ⟨hr1,c1,e,q,he,o1⟩
    rotate_left
    · simp only [o1,hr1,Option.bind_some,Option.bind_none,p19_er]
      exact .inr ⟨rfl,_,_,_,_,he,rfl⟩
    simp only [o1,hr1,Option.bind_some]
    rcases p19P (x := x1) (y := y1) h h1 with ⟨c2,v2,x2,y2,hr2,h2,g2,o2⟩ | ⟨hr2,c2,e,q,he,o2⟩
    rotate_left
    · simp only [o2,hr2,Option.bind_some,Option.bind_none]
      exact .inr ⟨rfl,_,_,_,_,he,rfl⟩
    simp only [o2,hr2,Option.bind_some]
    exact .inl ⟨_,_,_,_,rfl,h2,rfl⟩
  | false =>
    simp only [cond_false]
    rcases p19P (x := x0) (y := y0) h h0 with ⟨c1,v1,x1,y1,hr1,h1,g1,o1⟩ | ⟨hr1,c1,e,q,he,o1⟩
    rotate_left
    · simp only [o1,hr1,Option.bind_some,Option.bind_none,p19_er]
      exact .inr ⟨rfl,_,_,_,_,he,rfl⟩
    simp only [o1,hr1,Option.bind_some]
    rcases p19P (x := x1) (y := y1) h h1 with ⟨c2,v2,x2,y2,hr2,h2,g2,o2⟩ | ⟨hr2,c2,e,q,he,o2⟩
    rotate_left
    · simp only [o2,hr2,Option.bind_some,Option.bind_none,p19_er]
      exact .inr ⟨rfl,_,_,_,_,he,rfl⟩
    simp only [o2,hr2,Option.bind_some]
    rcases p19P (x := x2) (y := y2) h h2 with ⟨c3,v3,x3,y3,hr3,h3,g3,o3⟩ | ⟨hr3,c3,e,q,he,o3⟩
    rotate_left
    · simp only [o3,hr3,Option.bind_some,Option.bind_none,p19_er]
      exact .inr ⟨rfl,_,_,_,_,he,rfl⟩
    simp only [o3,hr3,Option.bind_some]
    rcases p19P (x := x3) (y := y3) h h3 with ⟨c4,v4,x4,y4,hr4,h4,g4,o4⟩ | ⟨hr4,c4,e,q,he,o4⟩
    rotate_left
    · simp only [o4,hr4,Option.bind_some,Option.bind_none]
      exact .inr ⟨rfl,_,_,_,_,he,rfl⟩
    simp only [o4,hr4,Option.bind_some]
    exact .inl ⟨_,_,_,_,rfl,h4,rfl⟩
theorem tri {α:Type} (b c:Bool) (x:α):(bif !b then x else bif c then x else x)=x := by cases b <;> cases c <;> rfl
def mgE (c:Nat) (z:MZ):Option (Nat×MZ) := bif kindS z.1 && !isZ z then some (c,z) else none
def mgS (a:List Int) (c:Nat):Option (Nat×MZ) :=
  (iS a c).bind fun r0=>(uS a r0.1).bind fun r1=>(uS a r1.1).bind fun r2=>(uS a r2.1).bind fun r3=>(listS en2S 8 a r3.1).bind fun r4=>(uS a r4.1).bind fun r5=>(boolS a r5.1).bind fun r6=>(uS a r6.1).bind fun r7=>(cfS a r7.1).bind fun r8=>(bytS 262144 a r8.1).bind fun r9=>(boolS a r9.1).bind fun r10 =>
    mgE r10.1 (r0.2,0,0,r1.2,r2.2,r3.2,r4.2,r5.2,r6.2,r7.2,r8.2.1,r8.2.2.1,r9.2,r10.2,())
theorem p21_er {a:List Int} {c e q:Int} (hf:10<fu):∃ z,p21 fu (stE a c e q,())=some ((stE a c e q,(),()),z) := by
  refine ⟨(0,0,0,0,0,0,[],0,false,0,[],[],[],false,()),?_⟩
  unfold p21
  simp only [cond_true,dfu,p39_er,p19_er,p40_er hf,p38_er,p41_er hf,p42_er,q43_is,q32_is,q18_er,tri,Option.bind_some,decide_true]
theorem p21P {a:List Int} {c:Nat} {x y:Int} (h:okA fu a) (hc:c≤a.length) (hf:4194304<fu):PE a (mgS a c) (p21 fu (stO a c x y,())) := by
  have hf':10<fu := by omega
  unfold mgS p21
  simp only [decide_true,cond_true,cond_false,dfp,q43_is,q32_is,Option.bind_some]
  rcases p39P (x := 0) (y := 0) h hc with ⟨c0,v0,x0,y0,hr0,h0,g0,o0⟩ | ⟨hr0,c0,e,q,he,o0⟩
  rotate_left
  · simp only [o0,hr0,Option.bind_some,Option.bind_none,p19_er,p40_er hf',p38_er,p41_er hf',p42_er,q18_er,tri]
    exact .inr ⟨rfl,_,_,_,_,he,rfl⟩
  simp only [o0,hr0,Option.bind_some]
  rcases p19P (x := x0) (y := y0) h h0 with ⟨c1,v1,x1,y1,hr1,h1,g1,o1⟩ | ⟨hr1,c1,e,q,he,o1⟩
  rotate_left
  · simp only [o1,hr1,Option.bind_some,Option.bind_none,p19_er,p40_er hf',p38_er,p41_er hf',p42_er,q18_er,tri]
    exact .inr ⟨rfl,_,_,_,_,he,rfl⟩
  simp only [o1,hr1,Option.bind_some]
  rcases p19P (x := x1) (y := y1) h h1 with ⟨c2,v2,x2,y2,hr2,h2,g2,o2⟩ | ⟨hr2,c2,e,q,he,o2⟩
  rotate_left
  · simp only [o2,hr2,Option.bind_some,Option.bind_none,p19_er,p40_er hf',p38_er,p41_er hf',p42_er,q18_er,tri]
    exact .inr ⟨rfl,_,_,_,_,he,rfl⟩
  simp only [o2,hr2,Option.bind_some]
  rcases p19P (x := x2) (y := y2) h h2 with ⟨c3,v3,x3,y3,hr3,h3,g3,o3⟩ | ⟨hr3,c3,e,q,he,o3⟩
  rotate_left
  · simp only [o3,hr3,Option.bind_some,Option.bind_none,p19_er,p40_er hf',p38_er,p41_er hf',p42_er,q18_er,tri]
    exact .inr ⟨rfl,_,_,_,_,he,rfl⟩
  simp only [o3,hr3,Option.bind_some]
  rcases p40P (x := x3) (y := y3) h h3 hf with ⟨c4,v4,x4,y4,hr4,h4,o4⟩ | ⟨hr4,c4,e,q,d,he,o4⟩
  rotate_left
  · simp only [o4,hr4,Option.bind_some,Option.bind_none,p19_er,p38_er,p41_er hf',p42_er,q18_er,tri]
    exact .inr ⟨rfl,_,_,_,_,he,rfl⟩
  simp only [o4,hr4,Option.bind_some]
  rcases p19P (x := x4) (y := y4) h h4 with ⟨c5,v5,x5,y5,hr5,h5,g5,o5⟩ | ⟨hr5,c5,e,q,he,o5⟩
  rotate_left
  · simp only [o5,hr5,Option.bind_some,Option.bind_none,p19_er,p38_er,p41_er hf',p42_er,q18_er,tri]
    exact .inr ⟨rfl,_,_,_,_,he,rfl⟩
  simp only [o5,hr5,Option.bind_some]
  rcases p38P (x := x5) (y := y5) h h5 with ⟨c6,v6,x6,y6,hr6,h6,g6,o6⟩ | ⟨hr6,c6,e,q,he,o6⟩
  rotate_left
  · simp only [o6,hr6,Option.bind_some,Option.bind_none,p19_er,p38_er,p41_er hf',p42_er,q18_er,tri]
    exact .inr ⟨rfl,_,_,_,_,he,rfl⟩
  simp only [o6,hr6,Option.bind_some]
  rcases p19P (x := x6) (y := y6) h h6 with ⟨c7,v7,x7,y7,hr7,h7,g7,o7⟩ | ⟨hr7,c7,e,q,he,o7⟩
  rotate_left
  · simp only [o7,hr7,Option.bind_some,Option.bind_none,p38_er,p41_er hf',p42_er,q18_er,tri]
    exact .inr ⟨rfl,_,_,_,_,he,rfl⟩
  simp only [o7,hr7,Option.bind_some]
  rcases p41P (x := x7) (y := y7) h h7 hf with ⟨c8,⟨v8,w8,⟨⟩⟩,x8,y8,hr8,h8,o8⟩ | ⟨hr8,c8,e,q,⟨d,d2,⟨⟩⟩,he,o8⟩
  rotate_left
  · simp only [o8,hr8,Option.bind_some,Option.bind_none,p38_er,p42_er,q18_er,tri]
    exact .inr ⟨rfl,_,_,_,_,he,rfl⟩
  simp only [o8,hr8,Option.bind_some]
  rcases p42P (x := x8) (y := y8) h h8 i262144 with ⟨c9,v9,x9,y9,hr9,h9,g9,o9⟩ | ⟨hr9,c9,e,q,he,o9⟩
  rotate_left
  · simp only [o9,hr9,Option.bind_some,Option.bind_none,p38_er,q18_er,tri]
    exact .inr ⟨rfl,_,_,_,_,he,rfl⟩
  simp only [o9,hr9,Option.bind_some]
  rcases p38P (x := x9) (y := y9) h h9 with ⟨c10,v10,x10,y10,hr10,h10,g10,o10⟩ | ⟨hr10,c10,e,q,he,o10⟩
  rotate_left
  · simp only [o10,hr10,Option.bind_some,Option.bind_none,q18_er,tri]
    exact .inr ⟨rfl,_,_,_,_,he,rfl⟩
  simp only [o10,hr10,Option.bind_some]
  simp only [mgE]
  cases kindS v0 with
  | false =>
    simp only [Bool.not_false,cond_true,Bool.false_and,cond_false,q18_ok (show (111:Int) ≠ 0 by decide),Option.bind_some]
    exact .inr ⟨rfl,_,_,_,_,by decide,rfl⟩
  | true =>
    simp only [Bool.not_true,cond_false,Bool.true_and]
    cases isZ (v0,0,0,v1,v2,v3,v4,v5,v6,v7,v8,w8,v9,v10,()) with
    | true =>
      simp only [Bool.not_true,cond_true,cond_false,q18_ok (show (111:Int) ≠ 0 by decide),Option.bind_some]
      exact .inr ⟨rfl,_,_,_,_,by decide,rfl⟩
    | false =>
      simp only [Bool.not_false,cond_true,cond_false]
      exact .inl ⟨_,_,_,_,rfl,h10,rfl⟩
end
section
open Go.RowKit
variable {fu:Nat}
def okP (fr to kd:Int):Bool := (kd==1||kd==2) && (nodeS fr && (nodeS to && !(fr==to)))
theorem first_is (a c f:Int):(bif (f != (1:Int)) then bif (f != (2:Int)) then inrO (some ((),(([]:List WR),(1:Int),()))) else bif !nodeS a then inrO (some ((),([],(1:Int),()))) else bif !nodeS c then inrO (some ((),([],(1:Int),()))) else bif (a==c) then inrO (some ((),([],(1:Int),()))) else some (.inl ((),()))
    else bif !nodeS a then inrO (some ((),([],(1:Int),()))) else bif !nodeS c then inrO (some ((),([],(1:Int),()))) else bif (a==c) then inrO (some ((),([],(1:Int),()))) else some (.inl ((),())))=bif okP a c f then (some (.inl ((),())):Option ((Unit×Unit) ⊕ (Unit×(List WR×(Int×Unit))))) else inrO (some ((),([],(1:Int),()))) := by
  unfold okP bne
  generalize (f==(1:Int))=b1
  generalize (f==(2:Int))=b2
  generalize nodeS a=b3
  generalize nodeS c=b4
  generalize (a==c)=b5
  cases b1 <;> cases b2 <;> cases b3 <;> cases b4 <;> cases b5 <;> rfl
def mkW (g fr to:Int) (z:MZ):WR := (g,z.1,fr,to,z.2.2.2.1,z.2.2.2.2.1,z.2.2.2.2.2.1,z.2.2.2.2.2.2.1,z.2.2.2.2.2.2.2.1,z.2.2.2.2.2.2.2.2.1,z.2.2.2.2.2.2.2.2.2.1,(z.2.2.2.2.2.2.2.2.2.2.1,z.2.2.2.2.2.2.2.2.2.2.2.1),z.2.2.2.2.2.2.2.2.2.2.2.2.1,z.2.2.2.2.2.2.2.2.2.2.2.2.2.1)
def wrS (fr to kd:Int) (a:List Int) (c:Nat):Option (Nat×WR) := (uS a c).bind fun r=>(bif kd==2 then btS a r.1 else mgS a r.1).bind fun s=>some (s.1,mkW r.2 fr to s.2)
def opnS (fr to kd:Int) (a:List Int):Option (List WR) := bif okP fr to kd then (cntS 4096 a 0).bind fun r=>if r.2=0 then none else (repS (wrS fr to kd) a r.2.toNat [] r.1).bind fun s=>if s.1<a.length then none else some s.2 else none
section
variable {α S R:Type} {f:S→Option (S ⊕ R)} {a:List Int} {Sx:List Int→Nat→Option (Nat×α)} {n:Nat}
theorem list_brk (mk:Nat→List α→PT→S) (brk:List α→PT→R)
    (hok:∀ k l (c:Nat) x y,k<n→l.length=k→c≤a.length→(∃ c1 v x1 y1,Sx a c=some (c1,v)∧c1≤a.length∧f (mk k l (stO a c x y))=some (.inl (mk (k+1) (l ++ [v]) (stO a c1 x1 y1)))) ∨ (Sx a c=none ∧ ∃ c1 e q,e ≠ 0∧f (mk k l (stO a c x y))=some (.inr (brk l (stE a c1 e q)))))
    (hend:∀ l (c:Nat) x y,l.length=n→f (mk n l (stO a c x y))=some (.inr (brk l (stO a c x y)))):∀ m k l (c:Nat) x y j,k+m=n→l.length=k→c≤a.length→m<j →
      (∃ (c1:Nat) (v:List α) (x1 y1:Int),repS Sx a m l c=some (c1,v)∧c1≤a.length∧v.length=n∧loopO j f (mk k l (stO a c x y))=some (brk v (stO a c1 x1 y1))) ∨
        (repS Sx a m l c=none ∧ ∃ (c1 e q:Int) (v:List α),e ≠ 0∧loopO j f (mk k l (stO a c x y))=some (brk v (stE a c1 e q)))
  | 0,k,l,c,x,y,j,hk,hl,hc,hj=>by
    obtain ⟨j,rfl⟩:∃ i,j=i+1 := ⟨j-1,by omega⟩
    have:k=n := by omega
    subst this
    exact .inl ⟨c,l,x,y,rfl,hc,hl,by simp only [loopO,hend l c x y hl]⟩
  | m+1,k,l,c,x,y,j,hk,hl,hc,hj=>by
    obtain ⟨j,rfl⟩:∃ i,j=i+1 := ⟨j-1,by omega⟩
    rcases hok k l c x y (by omega) hl hc with ⟨c1,v,x1,y1,h1,h2,h4⟩ | ⟨h1,c1,e,q,he,h4⟩
    · have := list_brk mk brk hok hend m (k+1) (l ++ [v]) c1 x1 y1 j (by omega) (by simp [hl]) h2 (by omega)
      have e:loopO (j+1) f (mk k l (stO a c x y))=loopO j f (mk (k+1) (l ++ [v]) (stO a c1 x1 y1)) := by simp only [loopO,h4]
      rw [e]
      simp only [repS,h1,Option.bind_some]
      exact this
    · exact .inr ⟨by simp only [repS,h1,Option.bind_none],c1,e,q,l,he,by simp only [loopO,h4]⟩
theorem list_brka {o:Option R} {fu:Nat} {c:Nat} {x y:Int} (mk:Nat→List α→PT→S) (brk:List α→PT→R) (ho:loopO fu f (mk 0 [] (stO a c x y))=o)
    (hok:∀ k l (c:Nat) x y,k<n→l.length=k→c≤a.length→(∃ c1 v x1 y1,Sx a c=some (c1,v)∧c1≤a.length∧f (mk k l (stO a c x y))=some (.inl (mk (k+1) (l ++ [v]) (stO a c1 x1 y1)))) ∨ (Sx a c=none ∧ ∃ c1 e q,e ≠ 0∧f (mk k l (stO a c x y))=some (.inr (brk l (stE a c1 e q)))))
    (hend:∀ l (c:Nat) x y,l.length=n→f (mk n l (stO a c x y))=some (.inr (brk l (stO a c x y)))) (hc:c≤a.length) (hn:n<fu) :
      (∃ (c1:Nat) (v:List α) (x1 y1:Int),repS Sx a n [] c=some (c1,v)∧c1≤a.length∧v.length=n∧o=some (brk v (stO a c1 x1 y1))) ∨
        (repS Sx a n [] c=none ∧ ∃ (c1 e q:Int) (v:List α),e ≠ 0∧o=some (brk v (stE a c1 e q))) := by
  subst ho
  exact list_brk mk brk hok hend n 0 [] c x y fu (by omega) rfl hc hn
end
theorem p16_is {a:List Int} (h:a.length≤140737488355328):p16 fu (a,())=some ((),(a,0,(),())) := by
  unfold p16
  simp only [fits2 h,decide_true,cond_true]
theorem p7_is {a:List Int} (h:okA fu a) (hf:4194304<fu) (fr to kd:Int) :
    (∃ l,opnS fr to kd a=some l∧p7 fu ((fr,to,kd,a,()),())=some ((),l,0,())) ∨ (opnS fr to kd a=none ∧ ∃ e:Int,e ≠ 0∧p7 fu ((fr,to,kd,a,()),())=some ((),[],e,())) := by
  have hf':10<fu := by omega
  obtain ⟨kk,hkk⟩:∃ k,fu=k+1 := ⟨fu-1,by omega⟩
  have hn := h.hn
  unfold p7
  simp only [q15_is,Option.bind_some]
  rw [first_is]
  unfold opnS
  cases hok:okP fr to kd with
  | false =>
    simp only [cond_false]
    exact .inr ⟨trivial,1,by decide,rfl⟩
  | true =>
  simp only [cond_true,orK_inl,p16_is h.hn,Option.bind_some,decide_true]
  have hcnt := p17N (c := 0) (j := 4096) h (Nat.zero_le _) i4096
  change PR a 0 (cntS 4096 a 0) _ (p17 fu ((a,(0:Int),(),()),4096,())) at hcnt
  have e00:((0:Int)==0)=true := rfl
  rcases hcnt with ⟨c1,v,x1,y1,hr,h1,g1,o1⟩ | ⟨hr,c1,e,q,he,o1⟩
  · obtain ⟨n,rfl,hn',hcn⟩ := isC.nat hr g1
    simp only [o1,hr,Option.bind_some,Int.toNat_natCast]
    by_cases hn0:n=0
    · subst hn0
      have e0:(((0:Nat):Int)==0)=true := rfl
      simp only [e0,cond_true,q18_ok (show (111:Int) ≠ 0 by decide),Option.bind_some,orK_inl]
      refine .inr ⟨by first | exact trivial | rfl,111,by decide,?_⟩
      rw [hkk]
      simp only [loopO,Int.natCast_zero,Int.lt_irrefl,decide_false,cond_false,inrO,Option.map_some,orK_inl,p23_er (show (111:Int) ≠ 0 by decide),Option.bind_some]
      rfl
    · have e0:((n:Int)==0)=false := by simp; omega
      have e9:((n:Int)=0)=False := by simp; omega
      simp only [e0,cond_false,orK_inl,e9,if_false]
      generalize hL:loopO fu _ _=o
      refine Or.elim (list_brka (n := n) (Sx := wrS fr to kd) (fun k l st=>((l,(k:Int),()),(st,()))) (fun l st=>(Sum.inl ((l,()),(st,())):_ ⊕ _)) hL (fun k l c x y hk hl hc => ?_) (fun l c x y hl => ?_) h1 (by omega)) (fun key => ?_) (fun key => ?_)
      rotate_left 2
      · obtain ⟨c2,w,x2,y2,q1,q2,q3,q4⟩ := key
        rw [q1]
        subst q4
        simp only [Option.bind_some,orK_inl,p23_ok]
        by_cases hc2:c2<a.length
        · have hc3:(c2:Int)<(a.length:Int) := by omega
          rw [if_pos hc2,if_pos hc3]
          exact .inr ⟨rfl,15,by decide,rfl⟩
        · have hc3:¬ (c2:Int)<(a.length:Int) := by omega
          rw [if_neg hc2,if_neg hc3]
          exact .inl ⟨_,rfl,rfl⟩
      · obtain ⟨q1,c2,e,q,w,he,q4⟩ := key
        rw [q1]
        subst q4
        have g:(e != 0)=true := bne_iff_ne.2 he
        simp only [Option.bind_none,orK_inl,p23_er he,Option.bind_some,g,cond_true]
        exact .inr ⟨by first | exact trivial | rfl,e,he,rfl⟩
      · have e1:decide ((k:Int)<(n:Int))=true := by simp; omega
        have e2:(l.length+1≤maxLen∧(l.length+1) * 184≤140737488355328)=True := eq_true ⟨Nat.le_trans (show l.length+1≤140737488355328 by omega) (by decide),by omega⟩
        have e3:IntKind.wrap .i64 ((k:Int)+1)=((k+1:Nat):Int) := by rw [wi64 (by omega) (by omega)]; omega
        simp only [e1,cond_true]
        unfold wrS
        rcases p19P (x := x) (y := y) h hc with ⟨d1,v1,x3,y3,r1,r2,_,r4⟩ | ⟨r1,d1,e,q,he,r4⟩
        · simp only [r1,r4,Option.bind_some]
          cases (kd==2) with
          | true =>
            simp only [cond_true]
            rcases p20P (x := x3) (y := y3) h r2 with ⟨d2,⟨z0,z1,z2,z3,z4,z5,z6,z7,z8,z9,za,zb,zc,zd,⟨⟩⟩,x4,y4,s1,s2,s4⟩ | ⟨s1,d2,e,q,z,he,s4⟩
            · simp only [s1,s4,Option.bind_some,orK_inl,p22_ok,bne_self_eq_false,cond_false,List.length_singleton,e2,decide_true,cond_true,e3]
              exact .inl ⟨_,_,_,_,rfl,s2,rfl⟩
            · have g:(e != 0)=true := bne_iff_ne.2 he
              simp only [s1,s4,Option.bind_some,Option.bind_none,orK_inl,p22_er,g,cond_true]
              exact .inr ⟨trivial,_,_,_,he,rfl⟩
          | false =>
            simp only [cond_false]
            rcases p21P (x := x3) (y := y3) h r2 hf with ⟨d2,⟨z0,z1,z2,z3,z4,z5,z6,z7,z8,z9,za,zb,zc,zd,⟨⟩⟩,x4,y4,s1,s2,s4⟩ | ⟨s1,d2,e,q,z,he,s4⟩
            · simp only [s1,s4,Option.bind_some,orK_inl,p22_ok,bne_self_eq_false,cond_false,List.length_singleton,e2,decide_true,cond_true,e3]
              exact .inl ⟨_,_,_,_,rfl,s2,rfl⟩
            · have g:(e != 0)=true := bne_iff_ne.2 he
              simp only [s1,s4,Option.bind_some,Option.bind_none,cond_true,orK_inl,p22_er,g]
              exact .inr ⟨trivial,_,_,_,he,rfl⟩
        · have g:(e != 0)=true := bne_iff_ne.2 he
          obtain ⟨z,hz⟩ := p21_er (a := a) (c := d1) (e := e) (q := q) hf'
          simp only [r1,r4,Option.bind_some,Option.bind_none]
          cases (kd==2) with
          | true =>
            simp only [cond_true,p20_er,Option.bind_some,orK_inl,p22_er,g]
            exact .inr ⟨trivial,_,_,_,he,rfl⟩
          | false =>
            simp only [cond_false,hz,Option.bind_some,cond_true,orK_inl,p22_er,g]
            exact .inr ⟨trivial,_,_,_,he,rfl⟩
      · simp only [Int.lt_irrefl,decide_false,cond_false,inrO,Option.map_some]
  · simp only [o1,hr,Option.bind_some,Option.bind_none,e00,cond_true,q18_er,orK_inl]
    refine .inr ⟨by first | exact trivial | rfl,e,he,?_⟩
    have g:(e != 0)=true := bne_iff_ne.2 he
    rw [hkk]
    simp only [loopO,Int.lt_irrefl,decide_false,cond_false,inrO,Option.map_some,orK_inl,p23_er he,Option.bind_some,g,cond_true]
end
section
open Go.RowKit
variable {fu:Nat}
def ndW (l:List Int):Prop := (∀ x ∈ l,isI x)∧(l.length:Int)≤7
structure enW (y:EN):Prop where
  i:isU y.1
  t:isU y.2.1
  k:isI y.2.2.1
  k1:(1:Int)≤y.2.2.1
  k3:(y.2.2.1:Int)≤3
  d:(List.length y.2.2.2.1:Int)≤262144
  db:byt y.2.2.2.1
  v:ndW y.2.2.2.2.1
  l:ndW y.2.2.2.2.2
structure msW (x:WR):Prop where
  g:isU x.1
  k:isI x.2.1
  kk:kindS x.2.1=true
  t:isU x.2.2.2.2.1
  i:isU x.2.2.2.2.2.1
  l:isU x.2.2.2.2.2.2.1
  e:∀ y ∈ (x.2.2.2.2.2.2.2.1:List EN),enW y
  el:(List.length x.2.2.2.2.2.2.2.1:Int)≤8
  c:isU x.2.2.2.2.2.2.2.2.1
  h:isU x.2.2.2.2.2.2.2.2.2.2.1
  cv:ndW x.2.2.2.2.2.2.2.2.2.2.2.1.1
  cl:ndW x.2.2.2.2.2.2.2.2.2.2.2.1.2
  d:(List.length x.2.2.2.2.2.2.2.2.2.2.2.2.1:Int)≤262144
  db:byt x.2.2.2.2.2.2.2.2.2.2.2.2.1
theorem ms_ok {x:WR} (h:msW x) (hf:1048576<fu):Bq.WrOk fu x := by
  have nd:∀ l:List Int,ndW l→l.length≤7 := fun l hl=>by have := hl.2; omega
  have cf:∀ v l:List Int,ndW v→ndW l→confOk fu v l := fun v l hv hl=>⟨hv.1,hl.1,by have := nd v hv; omega,by have := nd l hl; omega,by have := nd v hv; omega,by have := nd l hl; omega⟩
  have el := h.el
  exact ⟨h.g,h.k,h.t,h.i,h.l,fun y hy=>⟨(h.e y hy).i,(h.e y hy).t,(h.e y hy).k,cf _ _ (h.e y hy).v (h.e y hy).l⟩,by omega,by omega,h.c,h.h,cf _ _ h.cv h.cl⟩
theorem crowd0 {v l:List Int} (hv:ndW v) (hl:ndW l):crowdS v l=false := by
  have h1 := hv.2
  have h2 := hl.2
  unfold crowdS
  rw [decide_eq_false (by omega),decide_eq_false (by omega)]
  rfl
theorem ms_much {x:WR} (h:msW x):muchS x=false := by
  have el := h.el
  have d := h.d
  unfold muchS
  rw [decide_eq_false (by omega),decide_eq_false (by omega),crowd0 h.cv h.cl]
  simp only [cond_false]
  rw [List.any_eq_false]
  intro y hy
  have q := h.e y hy
  have d := q.d
  have k1 := q.k1
  have k3 := q.k3
  unfold badE
  rw [decide_eq_false (show ¬ 262144<List.length y.2.2.2.1 by omega),crowd0 q.v q.l,decide_eq_false (Int.not_lt.2 k1),decide_eq_false (Int.not_lt.2 k3)]
  simp
def wrW (fr to kd:Int) (x:WR):Prop := msW x∧x.2.2.1=fr∧toq x=to∧kindq x=kd
theorem isZ_mk (g fr to:Int) (z:MZ):isBq (mkW g fr to z)=isZ z := by
  have h1 := isBq_is 0 (mkW g fr to z)
  have h2 := q32_is (fu := 0) z
  obtain ⟨k,a,b,r⟩ := z
  have h3:p32 0 ((k,a,b,r),())=Bq.p32 0 (msgZ (mkW g fr to (k,a,b,r)),()) := rfl
  rw [h1,h2] at h3
  exact (congrArg Prod.snd (Option.some.inj h3)).symm
theorem okP_parts {fr to kd:Int} (h:okP fr to kd=true):(kd=1 ∨ kd=2)∧nodeS fr=true∧nodeS to=true∧fr ≠ to := by
  unfold okP at h
  simp only [Bool.and_eq_true,Bool.or_eq_true,beq_iff_eq,Bool.not_eq_true',beq_eq_false_iff_ne] at h
  exact ⟨h.1,h.2.1,h.2.2.1,h.2.2.2⟩
end
section
open Go.RowKit
variable {fu:Nat}
theorem lp_fold {X S A R:Type} {f:S→Option (S ⊕ R)} {res:R} (l:List X) (mk:Nat→A→S) (st:A→X→A) (fin:A→R) (a:A) (P:Nat→A→Prop) (h0:P 0 a) (hf:l.length<fu)
    (hs:∀ i (h:i<l.length) b,P i b→f (mk i b)=some (.inl (mk (i+1) (st b l[i])))∧P (i+1) (st b l[i])) (he:∀ b,P l.length b→f (mk l.length b)=some (.inr (fin b))∧fin b=res):loopO fu f (mk 0 a)=some res := by
  have key:∀ k i n b,i+k=l.length→k<n→P i b→loopO n f (mk i b)=some res := by
    intro k
    induction k with
    | zero =>
      intro i n b hi hn hb
      obtain ⟨m,rfl⟩:∃ m,n=m+1 := ⟨n-1,by omega⟩
      obtain rfl:i=l.length := by omega
      obtain ⟨e1,e2⟩ := he b hb
      simp only [loopO,e1,e2]
    | succ k ih =>
      intro i n b hi hn hb
      obtain ⟨m,rfl⟩:∃ m,n=m+1 := ⟨n-1,by omega⟩
      have hlt:i<l.length := by omega
      obtain ⟨e1,e2⟩ := hs i hlt b hb
      simp only [loopO,e1]
      exact ih (i+1) m _ (by omega) (by omega) e2
  exact key l.length 0 fu a (by omega) hf h0
theorem tk_fil {α:Type} (q:α→Bool) {l:List α} {i:Nat} (h:i<l.length):(l.take (i+1)).filter q=bif q l[i] then (l.take i).filter q ++ [l[i]] else (l.take i).filter q := by
  rw [List.take_succ_eq_append_getElem h,List.filter_append]
  cases hq:q l[i] <;> simp [hq]
theorem i4 {α:Type} {l:List α} {i:Nat} (h:i<l.length):decide ((0:Int)≤(i:Int)∧(i:Int)<(l.length:Int))=true := by simp; omega
theorem i5 {α:Type} {l:List α} {i:Nat} (h:i<l.length):decide ((i:Int)<(l.length:Int))=true := by simp; omega
theorem i6 {α:Type} {l:List α} {i:Nat} (h:i<l.length):decide (i<l.length)=true := by simp; omega
theorem iend {α:Type} (l:List α):decide ((l.length:Int)<(l.length:Int))=false := by simp
theorem iwr {α:Type} {l:List α} {i:Nat} (h:i<l.length) (hl:l.length≤1048576):IntKind.wrap .i64 ((i:Int)+1)=((i+1:Nat):Int) := by rw [wi64 (by omega) (by omega)]; omega
theorem room {n s:Nat} (hn:n≤1048576) (hs:s≤200):(n+1≤maxLen∧(n+1) * s≤140737488355328)=True := by
  refine eq_true ⟨by unfold maxLen; omega,?_⟩
  have := Nat.mul_le_mul (show n+1≤1048577 by omega) hs
  omega
theorem p14_refl (l:List PKT) (hl:l.length≤1048576) (hf:1048576<fu):p14 fu (l,l,())=some ((),true) := by
  unfold p14
  dsimp only
  simp only [bne_self_eq_false,cond_false]
  refine lp_any l (fun i=>(((i:Int),()),())) (fun _=>false) ((),false) ((),true) (by omega) (fun i h => ?_) (fun _ => ?_) (by
    have:l.any (fun _=>false)=false := by simp
    rw [this]; rfl)
  · simp only [i5 h,i4 h,Int.toNat_natCast,i6 h,cond_true,cond_false,beq_self_eq_true,Bool.not_true,iwr h hl]
  · simp only [iend,cond_false]
    rfl
theorem sel_one {l:List WR} {to kd:Int} (h:∀ x ∈ l,toq x=to∧kindq x=kd) (a b:Int):selq l a b=bif a==to && b==kd then l else [] := by
  unfold selq
  by_cases hab:a=to∧b=kd
  · obtain ⟨rfl,rfl⟩ := hab
    simp only [beq_self_eq_true,Bool.and_self,cond_true]
    rw [List.filter_eq_self]
    intro x hx
    rw [(h x hx).1,(h x hx).2]
    simp
  · have e:(a==to && b==kd)=false := by
      cases hh:(a==to && b==kd) with
      | false=>rfl
      | true =>
        simp only [Bool.and_eq_true,beq_iff_eq] at hh
        exact absurd hh hab
    rw [e]
    simp only [cond_false]
    rw [List.filter_eq_nil_iff]
    intro x hx hh
    rw [(h x hx).1,(h x hx).2] at hh
    simp only [Bool.and_eq_true,beq_iff_eq] at hh
    exact hab ⟨hh.1.symm,hh.2.symm⟩
theorem keys_one (to kd:Int) (hk:kd=1 ∨ kd=2) (hn:nodeS to=true) (X:PKT):(keysq.flatMap fun k=>bif k.1==to && k.2==kd then [X] else [])=[X] := by
  have h17:1≤to∧to≤7 := by
    unfold nodeS at hn
    by_cases h1:to≥1
    · rw [decide_eq_true h1] at hn
      simp only [cond_true,decide_eq_true_eq] at hn
      exact ⟨h1,hn⟩
    · rw [decide_eq_false h1] at hn
      cases hn
  have h7:to=1 ∨ to=2 ∨ to=3 ∨ to=4 ∨ to=5 ∨ to=6 ∨ to=7 := by omega
  rcases hk with rfl | rfl <;> rcases h7 with rfl | rfl | rfl | rfl | rfl | rfl | rfl <;> rfl
theorem single_pack {fr to kd:Int} {l:List WR} (hok:okP fr to kd=true) (hne:l ≠ []) (hl:l.length≤4096) (hw:∀ x ∈ l,wrW fr to kd x):refS fr l=0∧packL fr l=[(fr,to,kd,Bq.wrB kd l)] := by
  obtain ⟨hk,hf,ht,hft⟩ := okP_parts hok
  refine ⟨ref_of hf (fun x hx => ?_) hl fun x hx=>ms_much (hw x hx).1,?_⟩
  · obtain ⟨q1,q2,q3,q4⟩ := hw x hx
    have e:(to==fr)=false := beq_eq_false_iff_ne.2 (Ne.symm hft)
    unfold badW
    rw [q2,q3,ht,e,q1.kk]
    simp
  · have hp:∀ k:Int×Int,pktS fr l k=bif k.1==to && k.2==kd then [(fr,to,kd,Bq.wrB kd l)] else [] := by
      intro k
      unfold pktS
      rw [sel_one (fun x hx=>⟨(hw x hx).2.2.1,(hw x hx).2.2.2⟩) k.1 k.2]
      cases hh:(k.1==to && k.2==kd) with
      | false=>rfl
      | true =>
        simp only [Bool.and_eq_true,beq_iff_eq] at hh
        simp only [cond_true]
        rw [hh.1,hh.2]
        cases l with
        | nil=>exact absurd rfl hne
        | cons x l=>rfl
    unfold packL
    rw [funext hp]
    exact keys_one to kd hk ht _
abbrev FU:Nat := 8388608
set_option maxRecDepth 100000 in
theorem p6_is:p6 FU ()=some ((),true) := by decide +kernel
end
end Go.Proofs.YtahamggipcikgaaDoor
