/-
  BeatsOpens: what is told is told by the document; what is written over is the owner's.
-/
import Derived.Test.YtahamggipcikgaaDoorDaP
import Derived.Test.YtahamggipcikgaaDoorDaL
import Derived.Test.YtahamggipcikgaaDoorPtB
import Derived.Test.YtahamggipcikgaaDoorPkF
import Derived.Test.YtahamggipcikgaaDoorPtO
namespace Go.Proofs.YtahamggipcikgaaDoor
open Go.RowKit
section
theorem wuk {x:Int} (k:IntKind) (hk:k.signed=false) (h1:0≤x) (h2:x<2 ^ k.bits):IntKind.wrap k x=x := by
 unfold IntKind.wrap
 simp only [hk,Bool.false_and,Bool.false_eq_true,if_false]
 exact Int.emod_eq_of_lt h1 h2
theorem wu64 {x:Int} (h1:0≤x) (h2:x<18446744073709551616):IntKind.wrap .u64 x=x := wuk .u64 rfl h1 h2
theorem wu8 {x:Int} (h1:0≤x) (h2:x<256):IntKind.wrap .u8 x=x := wuk .u8 rfl h1 h2
theorem wi64 {x:Int} (h1:-9223372036854775808≤x) (h2:x<9223372036854775808):IntKind.wrap .i64 x=x := by
 have e1:(2:Int) ^ IntKind.bits .i64=18446744073709551616 := rfl
 have e2:(2:Int) ^ (IntKind.bits .i64-1)=9223372036854775808 := rfl
 unfold IntKind.wrap
 simp only [e1,e2]
 split
 ·rename_i h
  simp at h
  omega
 ·rename_i h
  simp [IntKind.signed] at h
  omega
theorem and64 (n m:Nat):((BitVec.ofInt (IntKind.bits .u64) (n:Int) &&& BitVec.ofInt (IntKind.bits .u64) (m:Int)).toNat)=(BitVec.ofNat 64 n &&& BitVec.ofNat 64 m).toNat := by
 show (BitVec.ofInt 64 (n:Int) &&& BitVec.ofInt 64 (m:Int)).toNat=_
 rw [BitVec.ofInt_natCast,BitVec.ofInt_natCast]
theorem xor64 (n m:Nat):((BitVec.ofInt (IntKind.bits .u64) (n:Int) ^^^ BitVec.ofInt (IntKind.bits .u64) (m:Int)).toNat)=(BitVec.ofNat 64 n ^^^ BitVec.ofNat 64 m).toNat := by
 show (BitVec.ofInt 64 (n:Int) ^^^ BitVec.ofInt 64 (m:Int)).toNat=_
 rw [BitVec.ofInt_natCast,BitVec.ofInt_natCast]
def zz (c:Int):Int := if c<0 then -2 * c-1 else 2 * c
def isI (c:Int):Prop := -9223372036854775808≤c∧c≤9223372036854775807
def isU (c:Int):Prop := 0≤c∧c≤18446744073709551615
theorem xorAll (n:Nat) (h:n<18446744073709551616):((BitVec.ofNat 64 n ^^^ BitVec.ofNat 64 18446744073709551615)).toNat=18446744073709551615-n := by
 have e:BitVec.ofNat 64 18446744073709551615=BitVec.allOnes 64 := by decide
 rw [e,BitVec.xor_allOnes,BitVec.toNat_not,BitVec.toNat_ofNat,Nat.mod_eq_of_lt h]
def ub (v:Nat):List Int := if v<128 then [(v:Int)] else ((v % 128+128:Nat):Int) :: ub (v / 128)
termination_by v
decreasing_by omega
theorem ub_small {v:Nat} (h:v<128):ub v=[(v:Int)] := by rw [ub,if_pos h]
theorem ub_big {v:Nat} (h:¬ v<128):ub v=((v % 128+128:Nat):Int) :: ub (v / 128) := by rw [ub,if_neg h]
def uB (v:Int):List Int := ub v.toNat
def iB (c:Int):List Int := uB (zz c)
def tB (l:List Int):List Int := uB (l.length:Int) ++ l
def nB (l:List Int):List Int := uB (l.length:Int) ++ l.flatMap iB
end
section
variable {fu:Nat}
theorem fits_top {n:Nat} (h:n≤140737488355328):n≤maxLen := Nat.le_trans h (by decide)
def cB (a b:List Int):List Int := nB a ++ nB b
def eB (i t k:Int) (d a b:List Int):List Int := uB i ++ (uB t ++ (iB k ++ (tB d ++ cB a b)))
def bB (b:Bool):List Int := if b then [1] else [0]
theorem fits2 {n:Nat} (h:n≤140737488355328):(n≤maxLen∧n * 1≤140737488355328)=True := eq_true ⟨fits_top h,by omega⟩
structure confOk (fu:Nat) (a b:List Int):Prop where
 ha:∀ x ∈ a,isI x
 hb:∀ x ∈ b,isI x
 la:a.length≤1048576
 lb:b.length≤1048576
 fa:a.length<fu
 fb:b.length<fu
end
end Go.Proofs.YtahamggipcikgaaDoor
namespace Go.Proofs.YtahamggipcikgaaDoor.Bq
open Go.RowKit
variable {fu:Nat}
abbrev ENT := den T_api_Entry
def entB (y:ENT):List Int := eB y.1 y.2.1 y.2.2.1 y.2.2.2.1 y.2.2.2.2.1 y.2.2.2.2.2
abbrev WRq := den T_beats_Wire
def zOf (x:WRq):Z0 := (x.2.1,x.2.2.1,x.2.2.2.1,x.2.2.2.2.1,x.2.2.2.2.2.1,x.2.2.2.2.2.2.1,x.2.2.2.2.2.2.2.1,x.2.2.2.2.2.2.2.2.1,x.2.2.2.2.2.2.2.2.2.1,x.2.2.2.2.2.2.2.2.2.2.1,x.2.2.2.2.2.2.2.2.2.2.2.1.1,x.2.2.2.2.2.2.2.2.2.2.2.1.2,x.2.2.2.2.2.2.2.2.2.2.2.2.1,x.2.2.2.2.2.2.2.2.2.2.2.2.2,())
def beatB (x:WRq):List Int := bB (x.2.1==6) ++ (uB x.2.2.2.2.1 ++ (uB x.2.2.2.2.2.1 ++ (bif (x.2.1:Int)==6 then [] else uB x.2.2.2.2.2.2.1 ++ uB x.2.2.2.2.2.2.2.2.1)))
def msgB (x:WRq):List Int := iB x.2.1 ++ (uB x.2.2.2.2.1 ++ (uB x.2.2.2.2.2.1 ++ (uB x.2.2.2.2.2.2.1 ++ (uB (List.length x.2.2.2.2.2.2.2.1:Int) ++ (List.flatMap entB x.2.2.2.2.2.2.2.1 ++ (uB x.2.2.2.2.2.2.2.2.1 ++ (bB x.2.2.2.2.2.2.2.2.2.1 ++ (uB x.2.2.2.2.2.2.2.2.2.2.1 ++ (cB x.2.2.2.2.2.2.2.2.2.2.2.1.1 x.2.2.2.2.2.2.2.2.2.2.2.1.2 ++ (tB x.2.2.2.2.2.2.2.2.2.2.2.2.1 ++ bB x.2.2.2.2.2.2.2.2.2.2.2.2.2))))))))))
def wireB (k:Int) (x:WRq):List Int := uB x.1 ++ bif k==2 then beatB x else msgB x
def wrB (k:Int) (l:List WRq):List Int := uB (l.length:Int) ++ l.flatMap (wireB k)
structure EntOk (fu:Nat) (y:ENT):Prop where
 i:isU y.1
 t:isU y.2.1
 k:isI y.2.2.1
 c:confOk fu y.2.2.2.2.1 y.2.2.2.2.2
structure WrOk (fu:Nat) (x:WRq):Prop where
 g:isU x.1
 k:isI x.2.1
 t:isU x.2.2.2.2.1
 i:isU x.2.2.2.2.2.1
 l:isU x.2.2.2.2.2.2.1
 e:∀ y ∈ (x.2.2.2.2.2.2.2.1:List ENT),EntOk fu y
 el:List.length x.2.2.2.2.2.2.2.1<fu
 em:List.length x.2.2.2.2.2.2.2.1≤1048576
 c:isU x.2.2.2.2.2.2.2.2.1
 h:isU x.2.2.2.2.2.2.2.2.2.2.1
 cf:confOk fu x.2.2.2.2.2.2.2.2.2.2.2.1.1 x.2.2.2.2.2.2.2.2.2.2.2.1.2
end Go.Proofs.YtahamggipcikgaaDoor.Bq
namespace Go.Proofs.YtahamggipcikgaaDoor
section
open Go.RowKit
variable {fu:Nat}
theorem lp_any {X S R:Type} {f:S→Option (S ⊕ R)} {res:R} (l:List X) (mk:Nat→S) (q:X→Bool) (r fin:R) (hf:l.length<fu)
  (hs:∀ i (h:i<l.length),f (mk i)=some (bif q l[i] then .inr r else .inl (mk (i+1)))) (he:l.any q=false→f (mk l.length)=some (.inr fin)) (hr:(bif l.any q then r else fin)=res):loopO fu f (mk 0)=some res := by
 subst hr
 have key:∀ k i n,i+k=l.length→k<n→(l.take i).any q=false→loopO n f (mk i)=some (bif (l.drop i).any q then r else fin) := by
  intro k
  induction k with
  | zero =>
   intro i n hi hn ht
   obtain ⟨m,rfl⟩:∃ m,n=m+1 := ⟨n-1,by omega⟩
   obtain rfl:i=l.length := by omega
   rw [List.take_length] at ht
   simp only [loopO,he ht,List.drop_length,List.any_nil,cond_false]
  | succ k ih =>
   intro i n hi hn ht
   obtain ⟨m,rfl⟩:∃ m,n=m+1 := ⟨n-1,by omega⟩
   have hlt:i<l.length := by omega
   rw [List.drop_eq_getElem_cons hlt]
   simp only [loopO,hs i hlt,List.any_cons]
   cases hq:q l[i] with
   | true=>rfl
   | false =>
    refine ih (i+1) m (by omega) (by omega) ?_
    rw [List.take_succ_eq_append_getElem hlt,List.any_append,ht]
    simp [hq]
 exact key l.length 0 fu (by omega) hf (by simp)
theorem gd_lt {α:Type} {l:List α} {i:Nat} (h:i<l.length) (d:α):l.getD i d=l[i] := by simp [List.getD_eq_getElem?_getD,h]
abbrev EN := Bq.ENT
def nodeS (n:Int):Bool := bif decide (n≥1) then decide (n≤7) else false
def kindS (n:Int):Bool := bif decide (n≥1) then decide (n≤9) else false
end
section
open Go.RowKit
variable {fu:Nat}
end
end Go.Proofs.YtahamggipcikgaaDoor
namespace Go.Proofs.YtahamggipcikgaaDoor
open Go.RowKit
variable {fu:Nat}
theorem and8 (n m:Nat):((BitVec.ofInt (IntKind.bits .u8) (n:Int) &&& BitVec.ofInt (IntKind.bits .u8) (m:Int)).toNat)=(BitVec.ofNat 8 n &&& BitVec.ofNat 8 m).toNat := by
 show (BitVec.ofInt 8 (n:Int) &&& BitVec.ofInt 8 (m:Int)).toNat=_
 rw [BitVec.ofInt_natCast,BitVec.ofInt_natCast]
theorem or64 (n m:Nat):((BitVec.ofInt (IntKind.bits .u64) (n:Int) ||| BitVec.ofInt (IntKind.bits .u64) (m:Int)).toNat)=(BitVec.ofNat 64 n ||| BitVec.ofNat 64 m).toNat := by
 show (BitVec.ofInt 64 (n:Int) ||| BitVec.ofInt 64 (m:Int)).toNat=_
 rw [BitVec.ofInt_natCast,BitVec.ofInt_natCast]
theorem low7 (x:Nat) (h:x<256):IntKind.wrap .u8 ((BitVec.ofInt (IntKind.bits .u8) (x:Int) &&& BitVec.ofInt (IntKind.bits .u8) (127:Int)).toNat:Int)=((x % 128:Nat):Int) := by
 have h2:(BitVec.ofInt (IntKind.bits .u8) (x:Int) &&& BitVec.ofInt (IntKind.bits .u8) (127:Int)).toNat=x % 128 := by
  refine (and8 x 127).trans ?_
  rw [BitVec.toNat_and,BitVec.toNat_ofNat,BitVec.toNat_ofNat,Nat.mod_eq_of_lt h]
  exact Nat.and_two_pow_sub_one_eq_mod x 7
 rw [h2,wu8 (by omega) (by omega)]
theorem pow7 (i:Nat) (h:i≤9):(2:Int) ^ (min (Int.toNat (IntKind.wrap .i64 ((7:Int) * (i:Int)))) (IntKind.bits .u64))=((128 ^ i:Nat):Int) := by
 have e:IntKind.wrap .i64 ((7:Int) * (i:Int))=((7 * i:Nat):Int) := by rw [wi64 (by omega) (by omega)]; omega
 rw [e,Int.toNat_natCast,Nat.min_eq_left (by show 7 * i≤64; omega),show (128:Nat)=2 ^ 7 from rfl,← Nat.pow_mul]
 simp
theorem accum (c y i:Nat) (hi:i≤9) (hc:c<128 ^ i) (hy:c+y * 128 ^ i<18446744073709551616) :
  IntKind.wrap .u64 ((BitVec.ofInt (IntKind.bits .u64) (c:Int) ||| BitVec.ofInt (IntKind.bits .u64) (IntKind.wrap .u64 ((IntKind.wrap .u64 (y:Int)) * 2 ^ (min (Int.toNat (IntKind.wrap .i64 ((7:Int) * (i:Int)))) (IntKind.bits .u64))))).toNat:Int)=((c+y * 128 ^ i:Nat):Int) := by
 have hpos:0<128 ^ i := Nat.pow_pos (by decide)
 have hy1:y≤y * 128 ^ i := Nat.le_mul_of_pos_right y hpos
 rw [pow7 i hi,wu64 (x := (y:Int)) (by omega) (by omega),← Int.natCast_mul,wu64 (x := ((y * 128 ^ i:Nat):Int)) (by omega) (by omega)]
 have e1:(BitVec.ofInt (IntKind.bits .u64) (c:Int) ||| BitVec.ofInt (IntKind.bits .u64) ((y * 128 ^ i:Nat):Int)).toNat=c+y * 128 ^ i := by
  rw [or64,BitVec.toNat_or,BitVec.toNat_ofNat,BitVec.toNat_ofNat,Nat.mod_eq_of_lt (by omega),Nat.mod_eq_of_lt (by omega)]
  have e:(128:Nat) ^ i=2 ^ (7 * i) := by rw [show (128:Nat)=2 ^ 7 from rfl,← Nat.pow_mul]
  rw [e] at hc ⊢
  have := Nat.two_pow_add_eq_or_of_lt hc y
  rw [Nat.or_comm,Nat.mul_comm y,← this,Nat.add_comm]
 rw [e1,wu64 (by omega) (by omega)]
def numS:Nat→Nat→List Int→Int×Int×Int
 | _,_,[]=>(0,0,11)
 | i,acc,x :: r=>if i=9∧x ≠ 1 then (0,0,12) else if x=0∧0<i then (0,0,12) else if x<128 then (((acc+x.toNat % 128 * 128 ^ i:Nat):Int),((i+1:Nat):Int),0) else numS (i+1) (acc+x.toNat % 128 * 128 ^ i) r
theorem p37_any {a:List Int} (hb:∀ x ∈ a,0≤x∧x≤255) (_:a.length≤140737488355328) (hfu:10<fu):p37 fu (a,())=some ((),((numS 0 0 a).1,(numS 0 0 a).2.1,(numS 0 0 a).2.2,())) := by
 unfold p37
 dsimp only
 refine loopO_eq (fun (s:(Int×(Int×Unit))×Unit) => ∃ (i acc:Nat) (pre r:List Int),i≤9∧s=(((acc:Int),(i:Int),()),())∧a=pre ++ r∧pre.length=i∧acc<128 ^ i∧numS i acc r=numS 0 0 a) (fun s=>10-s.1.2.1.toNat) (fun _=>((),((numS 0 0 a).1,(numS 0 0 a).2.1,(numS 0 0 a).2.2,()))) ?_ fu _ ⟨0,0,[],a,by omega,rfl,rfl,rfl,by simp,rfl⟩ (by dsimp only; omega)
 rintro _ ⟨i,acc,pre,r,hi,rfl,ha,hp,hacc,hnum⟩
 have e1:decide ((i:Int)<10)=true := by simp; omega
 have wi:IntKind.wrap .i64 ((i:Int)+1)=((i+1:Nat):Int) := by rw [wi64 (by omega) (by omega)]; omega
 cases r with
 | nil =>
  right
  have hl:a.length=i := by rw [ha,List.append_nil,hp]
  have e2:((i:Int)==(a.length:Int))=true := by rw [hl]; exact beq_self_eq_true _
  rw [← hnum]
  simp only [e1,e2,cond_true,numS,inrO,Option.map_some]
 | cons x r =>
  have hlen:a.length=i+(r.length+1) := by rw [ha,List.length_append,hp,List.length_cons]
  have hx := hb x (by rw [ha]; simp)
  obtain ⟨n,rfl⟩ := Int.eq_ofNat_of_zero_le hx.1
  have hxg:List.getD a i (dflt (.int .u8))=(n:Int) := by
   rw [ha,List.getD_eq_getElem?_getD,List.getElem?_append_right (by omega),hp,Nat.sub_self]
   rfl
  have e2:((i:Int)==(a.length:Int))=false := by rw [hlen]; simp; omega
  have e3:decide ((0:Int)≤(i:Int)∧(i:Int)<(a.length:Int))=true := by rw [hlen]; simp; omega
  have e4:decide (i<a.length)=true := by rw [hlen]; simp
  have e7:decide ((0:Int)≤IntKind.wrap .i64 ((7:Int) * (i:Int)))=true := by rw [wi64 (by omega) (by omega)]; simp; omega
  by_cases h9:i=9∧(n:Int) ≠ 1
  ·right
   obtain ⟨h9,hn1⟩ := h9
   have hd:numS i acc ((n:Int) :: r)=(0,0,12) := by rw [numS,if_pos ⟨h9,hn1⟩]
   rw [← hnum,hd]
   have g1:((i:Int)==9)=true := by rw [h9]; rfl
   have g2:((n:Int) != 1)=true := bne_iff_ne.2 hn1
   simp only [e1,e2,e3,e4,Int.toNat_natCast,hxg,cond_true,cond_false,g1,g2,inrO,Option.map_some,orK_inr]
  ·by_cases h0:(n:Int)=0∧0<i
   ·right
    obtain ⟨hn0,hi0⟩ := h0
    have hi9:i ≠ 9 := fun e=>h9 ⟨e,by omega⟩
    have hd:numS i acc ((n:Int) :: r)=(0,0,12) := by rw [numS,if_neg h9,if_pos ⟨hn0,hi0⟩]
    rw [← hnum,hd]
    have g1:((i:Int)==9)=false := by simp; omega
    have g2:((n:Int)==0)=true := beq_iff_eq.2 hn0
    have g3:decide ((i:Int)>0)=true := by simp; omega
    simp only [e1,e2,e3,e4,Int.toNat_natCast,hxg,cond_true,cond_false,g1,g2,g3,inrO,Option.map_some,orK_inr]
   ·have hpow:i=9→(128:Nat) ^ i=9223372036854775808 := fun e=>by rw [e]
    have hpow8:i≤8→(128:Nat) ^ i≤72057594037927936 := fun e=>by
     have := Nat.pow_le_pow_right (n := 128) (by decide) e
     have e8:(128:Nat) ^ 8=72057594037927936 := by decide
     omega
    have hmul:n % 128 * 128 ^ i≤127 * 128 ^ i := Nat.mul_le_mul_right _ (by omega)
    have hbound:acc+n % 128 * 128 ^ i<18446744073709551616 := by
     by_cases e9:i=9
     ·have hn1:(n:Int)=1 := Decidable.byContradiction fun k=>h9 ⟨e9,k⟩
      have hn1':n=1 := by omega
      have := hpow e9
      rw [hn1'] at hmul ⊢
      rw [this] at hacc ⊢
      omega
     ·have := hpow8 (by omega)
      generalize 128 ^ i=q at *
      omega
    have hac := accum acc (n % 128) i hi hacc hbound
    by_cases h128:(n:Int)<128
    ·right
     have hd:numS i acc ((n:Int) :: r)=(((acc+n % 128 * 128 ^ i:Nat):Int),((i+1:Nat):Int),0) := by rw [numS,if_neg h9,if_neg h0,if_pos h128]; rfl
     rw [← hnum,hd]
     have e8:decide ((n:Int)<128)=true := decide_eq_true h128
     simp only [e1,e2,e3,e4,Int.toNat_natCast,hxg,cond_true,cond_false,e7,e8,low7 n (by omega),hac,wi]
     by_cases e9:i=9
     ·have hn1:(n:Int)=1 := Decidable.byContradiction fun k=>h9 ⟨e9,k⟩
      have hn1':n=1 := by omega
      subst e9 hn1'
      rfl
     ·have g1:((i:Int)==9)=false := by simp; omega
      rw [g1]
      by_cases hn0:n=0
      ·have hi0:i=0 := Decidable.byContradiction fun k=>h0 ⟨by omega,by omega⟩
       subst hi0 hn0
       rfl
      ·have g2:((n:Int)==0)=false := by simp; omega
       rw [g2]
       rfl
    ·left
     have e9:i ≠ 9 := fun e=>h9 ⟨e,by omega⟩
     have hd:numS i acc ((n:Int) :: r)=numS (i+1) (acc+n % 128 * 128 ^ i) r := by rw [numS,if_neg h9,if_neg h0,if_neg h128]; rfl
     have e8:decide ((n:Int)<128)=false := decide_eq_false h128
     have g1:((i:Int)==9)=false := by simp; omega
     have g2:((n:Int)==0)=false := by simp; omega
     refine ⟨((((acc+n % 128 * 128 ^ i:Nat):Int),((i+1:Nat):Int),()),()),?_,⟨i+1,acc+n % 128 * 128 ^ i,pre ++ [(n:Int)],r,by omega,rfl,?_,?_,?_,?_⟩,?_,rfl⟩
     ·simp only [e1,e2,e3,e4,Int.toNat_natCast,hxg,cond_true,cond_false,e7,e8,g1,g2,low7 n (by omega),hac,wi,orK_inl]
     ·rw [ha]; simp
     ·simp [hp]
     ·rw [Nat.pow_succ]
      generalize 128 ^ i=q at *
      omega
     ·rw [← hd]; exact hnum
     ·dsimp only
      omega
def unzz (v:Int):Int := if v % 2=1 then -(v / 2)-1 else v / 2
theorem numS_facts:∀ (r:List Int) (i acc:Nat),(∃ v k:Nat,numS i acc r=((v:Int),(k:Int),0)∧i<k∧k≤i+r.length) ∨ (∃ e:Int,e ≠ 0∧numS i acc r=(0,0,e))
 | [],_,_ => .inr ⟨11,by decide,rfl⟩
 | x :: r,i,acc=>by
  rw [numS]
  split
  ·exact .inr ⟨12,by decide,rfl⟩
  ·split
   ·exact .inr ⟨12,by decide,rfl⟩
   ·split
    ·exact .inl ⟨_,_,rfl,by omega,by simp only [List.length_cons]; omega⟩
    ·rcases numS_facts r (i+1) (acc+x.toNat % 128 * 128 ^ i) with ⟨v,k,h1,h2,h3⟩ | h
     ·exact .inl ⟨v,k,h1,by omega,by simp only [List.length_cons]; omega⟩
     ·exact .inr h
theorem numS_u:∀ (r:List Int) (i acc:Nat) (v k:Int),(∀ x ∈ r,0≤x∧x≤255)→i≤9→acc<128 ^ i→numS i acc r=(v,k,0)→isU v
 | [],i,acc,v,k,_,_,_,h=>by simp [numS] at h
 | x :: r,i,acc,v,k,hb,hi,ha,h=>by
  have hx := hb x (by simp)
  obtain ⟨n,rfl⟩ := Int.eq_ofNat_of_zero_le hx.1
  have hpow:i=9→(128:Nat) ^ i=9223372036854775808 := fun e=>by rw [e]
  have hpow8:i≤8→(128:Nat) ^ i≤72057594037927936 := fun e=>by
   have := Nat.pow_le_pow_right (n := 128) (by decide) e
   have e8:(128:Nat) ^ 8=72057594037927936 := by decide
   omega
  have hmul:n % 128 * 128 ^ i≤127 * 128 ^ i := Nat.mul_le_mul_right _ (by omega)
  rw [numS] at h
  split at h
  ·simp at h
  ·rename_i h9
   split at h
   ·simp at h
   ·split at h
    ·simp only [Prod.mk.injEq,Int.toNat_natCast,and_true] at h
     rw [← h.1]
     unfold isU
     by_cases e9:i=9
     ·have hn1:(n:Int)=1 := Decidable.byContradiction fun k=>h9 ⟨e9,k⟩
      have hn1':n=1 := by omega
      have := hpow e9
      rw [hn1'] at hmul ⊢
      rw [this] at ha ⊢
      omega
     ·have := hpow8 (by omega)
      generalize 128 ^ i=q at *
      omega
    ·rename_i h128
     have e9:i ≠ 9 := fun e=>h9 ⟨e,by omega⟩
     refine numS_u r (i+1) _ v k (fun y hy=>hb y (by simp [hy])) (by omega) ?_ h
     rw [Nat.pow_succ,Int.toNat_natCast]
     generalize 128 ^ i=q at *
     omega
theorem unzz_i {v:Int} (h:isU v):isI (unzz v) := by
 obtain ⟨h1,h2⟩ := h
 unfold unzz isI
 split <;> omega
theorem xor1 (n:Nat) (h:n<18446744073709551616):IntKind.wrap .i64 (IntKind.wrap .u64 ((BitVec.ofInt (IntKind.bits .u64) (Int.fdiv (n:Int) (2 ^ (min (Int.toNat (1:Int)) (IntKind.bits .u64)))) ^^^ BitVec.ofInt (IntKind.bits .u64) (IntKind.wrap .u64 (0-(IntKind.wrap .u64 ((BitVec.ofInt (IntKind.bits .u64) (n:Int) &&& BitVec.ofInt (IntKind.bits .u64) (1:Int)).toNat:Int))))).toNat:Int))=unzz (n:Int) := by
 have e1:(BitVec.ofInt (IntKind.bits .u64) (n:Int) &&& BitVec.ofInt (IntKind.bits .u64) (1:Int)).toNat=n % 2 := by
  refine (and64 n 1).trans ?_
  rw [BitVec.toNat_and,BitVec.toNat_ofNat,BitVec.toNat_ofNat,Nat.mod_eq_of_lt h]
  exact Nat.and_two_pow_sub_one_eq_mod n 1
 have e2:Int.fdiv (n:Int) (2 ^ (min (Int.toNat (1:Int)) (IntKind.bits .u64)))=((n / 2:Nat):Int) := by
  show Int.fdiv (n:Int) 2=_
  rw [Int.fdiv_eq_ediv_of_nonneg _ (by decide)]
  rfl
 have em:∀ x:Int,IntKind.wrap .u64 x=x % 18446744073709551616 := fun x=>rfl
 rw [e1,e2,wu64 (x := ((n % 2:Nat):Int)) (by omega) (by omega)]
 unfold unzz
 by_cases hodd:n % 2=1
 ·have d1:IntKind.wrap .u64 (0-((n % 2:Nat):Int))=((18446744073709551615:Nat):Int) := by rw [em]; omega
  rw [d1,xor64,xorAll _ (by omega),if_pos (by omega),wu64 (by omega) (by omega)]
  have hm:IntKind.wrap .i64 ((18446744073709551615-n / 2:Nat):Int) = -((n:Int) / 2)-1 := by
   have e1:(2:Int) ^ IntKind.bits .i64=18446744073709551616 := rfl
   have e2:(2:Int) ^ (IntKind.bits .i64-1)=9223372036854775808 := rfl
   unfold IntKind.wrap
   simp only [e1,e2]
   split
   ·omega
   ·rename_i h
    simp [IntKind.signed] at h
    omega
  rw [hm]
 ·have d1:IntKind.wrap .u64 (0-((n % 2:Nat):Int))=((0:Nat):Int) := by rw [em]; omega
  rw [d1,xor64,show BitVec.ofNat 64 0=0#64 from rfl,BitVec.xor_zero,BitVec.toNat_ofNat,Nat.mod_eq_of_lt (by omega),wu64 (by omega) (by omega),wi64 (by omega) (by omega),if_neg (by omega)]
  omega
theorem len8 {n:Nat} (h:n≤16):(n≤maxLen∧n * 8≤140737488355328) := ⟨Nat.le_trans h (by decide),by omega⟩
theorem sub_all {a:List Int} {c:Nat} (_:c≤a.length):sub' a c (a.length-c)=a.drop c := by
 rw [sub'_eq,List.take_of_length_le (by rw [List.length_drop]; omega)]
theorem xor0:IntKind.wrap .i64 (IntKind.wrap .u64 ((BitVec.ofInt (IntKind.bits .u64) (Int.fdiv (0:Int) (2 ^ (min (Int.toNat (1:Int)) (IntKind.bits .u64)))) ^^^ BitVec.ofInt (IntKind.bits .u64) (IntKind.wrap .u64 (0-(IntKind.wrap .u64 ((BitVec.ofInt (IntKind.bits .u64) (0:Int) &&& BitVec.ofInt (IntKind.bits .u64) (1:Int)).toNat:Int))))).toNat:Int))=0 := xor1 0 (by decide)
def byt (l:List Int):Prop := ∀ x ∈ l,0≤x∧x≤255
theorem byt_nil:byt [] := fun x hx=>by simp at hx
theorem numS_canon:∀ (r:List Int) (i acc:Nat) (v k:Int),(∀ x ∈ r,0≤x∧x≤255)→numS i acc r=(v,k,0) →
  ∃ w m:Nat,v=((acc+w * 128 ^ i:Nat):Int)∧k=((i+m:Nat):Int)∧r.take m=ub w∧(0<i→1≤w)
 | [],i,acc,v,k,_,h=>by
  simp [numS] at h
 | x :: r,i,acc,v,k,hb,h=>by
  have hx := hb x (by simp)
  obtain ⟨n,rfl⟩ := Int.eq_ofNat_of_zero_le hx.1
  rw [numS] at h
  split at h
  ·simp at h
  ·split at h
   ·simp at h
   ·rename_i h0
    split at h
    ·rename_i h128
     simp only [Prod.mk.injEq,Int.toNat_natCast,and_true] at h
     refine ⟨n,1,?_,?_,?_,fun hi => ?_⟩
     ·rw [← h.1,Nat.mod_eq_of_lt (by omega)]
     ·rw [← h.2]
     ·rw [ub_small (by omega)]
      rfl
     ·by_cases hn:n=0
      ·exact absurd ⟨by omega,hi⟩ h0
      ·omega
    ·rename_i h128
     obtain ⟨w,m,e1,e2,e3,e4⟩ := numS_canon r (i+1) _ v k (fun y hy=>hb y (by simp [hy])) h
     have hw := e4 (Nat.succ_pos i)
     refine ⟨n % 128+128 * w,m+1,?_,?_,?_,fun _=>by omega⟩
     ·rw [e1]
      congr 1
      rw [Int.toNat_natCast,Nat.pow_succ,Nat.add_mul,Nat.add_assoc]
      congr 2
      rw [Nat.mul_comm (128 ^ i) 128,← Nat.mul_assoc,Nat.mul_comm w 128]
     ·rw [e2]
      omega
     ·rw [List.take_succ_cons,e3,ub_big (v := n % 128+128 * w) (by omega),show (n % 128+128 * w) % 128+128=n by omega,show (n % 128+128 * w) / 128=w by omega]
theorem zz_unzz {v:Int} (h:isU v):zz (unzz v)=v := by
 obtain ⟨h1,h2⟩ := h
 unfold unzz zz
 split <;> split <;> omega
end Go.Proofs.YtahamggipcikgaaDoor
namespace Go.Proofs.YtahamggipcikgaaDoor
open Go.RowKit
variable {fu:Nat}
structure okA (fu:Nat) (a:List Int):Prop where
 hb:byt a
 hn:a.length≤140737488355328
 hfu:10<fu
theorem okA.dr {a:List Int} (h:okA fu a) (c:Nat):byt (a.drop c) := fun x hx=>h.hb x (List.mem_of_mem_drop hx)
def uS (a:List Int) (c:Nat):Option (Nat×Int) :=
 if (numS 0 0 (a.drop c)).2.2=0 then some (c+(numS 0 0 (a.drop c)).2.1.toNat,(numS 0 0 (a.drop c)).1) else none
def iS (a:List Int) (c:Nat):Option (Nat×Int) := (uS a c).bind fun r=>some (r.1,unzz r.2)
def cntS (m:Int) (a:List Int) (c:Nat):Option (Nat×Int) :=
 (uS a c).bind fun r=>if m<0 ∨ r.2>m ∨ r.2>((a.length-r.1:Nat):Int) then none else some r
def bytS (m:Int) (a:List Int) (c:Nat):Option (Nat×List Int) := (cntS m a c).bind fun r=>some (r.1+r.2.toNat,(a.drop r.1).take r.2.toNat)
def boolS (a:List Int) (c:Nat):Option (Nat×Bool) := if c<a.length∧a.getD c 0≤1 then some (c+1,a.getD c 0==1) else none
abbrev ER := Bool×((Int×(Int×Unit))×Unit)
abbrev PT := List Int×Int×ER×Unit
abbrev stO (a:List Int) (c h i:Int):PT := (a,c,(false,(h,i,()),()),())
abbrev stE (a:List Int) (c e q:Int):PT := (a,c,(true,(e,q,()),()),())
theorem dfu:(dflt .unit:den .unit)=() := rfl
theorem dfp:dflt (.pair (.int .i64) (.pair (.int .i64) .unit))=((0:Int),(0:Int),()) := rfl
def PR {α:Type} (a:List Int) (d:α) (r:Option (Nat×α)) (P:α→Prop) (o:Option ((PT×Unit×Unit)×α)):Prop :=
 (∃ (c:Nat) (v:α) (h i:Int),r=some (c,v)∧c≤a.length∧P v∧o=some ((stO a c h i,(),()),v)) ∨ (r=none ∧ ∃ c e q:Int,e ≠ 0∧o=some ((stE a c e q,(),()),d))
theorem p35_er {a:List Int} {c e q j k:Int}:p35_1 fu (stE a c e q,j,k,())=some ((stE a c e q,(),()),()) := by
 unfold p35_1
 simp only [cond_true,decide_true]
theorem p35_ok {a:List Int} {c h i j k:Int} (hk:k ≠ 0):p35_1 fu (stO a c h i,j,k,())=some ((stE a c k j,(),()),()) := by
 have g:(k != 0)=true := bne_iff_ne.2 hk
 unfold p35_1
 simp only [cond_true,cond_false,decide_true,g]
theorem p18_ok {a:List Int} {c:Int}:p18 fu ((a,c,(),()),0,())=some ((stO a c 0 0,(),()),()) := by
 unfold p18 p35
 simp only [bne_self_eq_false,cond_false,Option.bind_some,decide_true,cond_true]
 rfl
theorem p18_er {a:List Int} {c e:Int} (he:e ≠ 0):p18 fu ((a,c,(),()),e,())=some ((stE a c e c,(),()),()) := by
 have g:(e != 0)=true := bne_iff_ne.2 he
 unfold p18 p35
 simp only [g,cond_true,Option.bind_some,decide_true]
theorem p19_er {a:List Int} {c e q:Int}:p19_1 fu (stE a c e q,())=some ((stE a c e q,(),()),0) := by
 unfold p19_1
 simp only [cond_true,decide_true]
theorem uS_cases {a:List Int} {c:Nat} (h:okA fu a) (hc:c≤a.length) :
  (∃ v k:Nat,numS 0 0 (a.drop c)=((v:Int),(k:Int),0)∧uS a c=some (c+k,(v:Int))∧c+k≤a.length∧isU (v:Int)) ∨ (∃ e:Int,e ≠ 0∧numS 0 0 (a.drop c)=(0,0,e)∧uS a c=none) := by
 rcases numS_facts (a.drop c) 0 0 with ⟨v,k,hnum,hk0,hk⟩ | ⟨e,he,hnum⟩
 ·refine .inl ⟨v,k,hnum,?_,?_,numS_u _ 0 0 _ _ (h.dr c) (by omega) (by decide) hnum⟩
  ·unfold uS
   rw [hnum,if_pos rfl]
   rfl
  ·rw [List.length_drop] at hk; omega
 ·refine .inr ⟨e,he,hnum,?_⟩
  unfold uS
  rw [hnum,if_neg he]
theorem p19P {a:List Int} {c:Nat} {x y:Int} (h:okA fu a) (hc:c≤a.length):PR a 0 (uS a c) isU (p19_1 fu (stO a c x y,())) := by
 have e1:decide ((0:Int)≤(c:Int))=true := by simp
 have e2:decide (c≤a.length∧0+a.length≤a.length)=true := by simp; omega
 have e3:decide (c+(a.length-c)≤a.length)=true := by simp; omega
 have hl := h.hn
 rcases uS_cases h hc with ⟨v,k,hnum,hu,hk,hv⟩ | ⟨e,he,hnum,hu⟩
 ·have hw:IntKind.wrap .i64 ((c:Int)+(k:Int))=((c+k:Nat):Int) := by rw [wi64 (by omega) (by omega)]; omega
  refine .inl ⟨_,_,0,0,hu,hk,hv,?_⟩
  ·unfold p19_1
   simp only [cond_false,e1,Int.toNat_natCast,e2,e3,cond_true,decide_true]
   rw [sub_all hc,p37_any (h.dr c) (by rw [List.length_drop]; omega) h.hfu,hnum]
   simp only [Option.bind_some]
   rw [p18_ok]
   simp only [Option.bind_some,hw]
 ·have hw:IntKind.wrap .i64 ((c:Int)+0)=(c:Int) := by rw [wi64 (by omega) (by omega)]; omega
  refine .inr ⟨hu,c,e,c,he,?_⟩
  unfold p19_1
  simp only [cond_false,e1,Int.toNat_natCast,e2,e3,cond_true,decide_true]
  rw [sub_all hc,p37_any (h.dr c) (by rw [List.length_drop]; omega) h.hfu,hnum]
  simp only [Option.bind_some]
  rw [p18_er he]
  simp only [Option.bind_some,hw]
theorem p19N {a:List Int} {c:Nat} (h:okA fu a) (hc:c≤a.length):PR a 0 (uS a c) isU (p19 fu ((a,(c:Int),(),()),())) := by
 have e1:decide ((0:Int)≤(c:Int))=true := by simp
 have e2:decide (c≤a.length∧0+a.length≤a.length)=true := by simp; omega
 have e3:decide (c+(a.length-c)≤a.length)=true := by simp; omega
 have hl := h.hn
 rcases uS_cases h hc with ⟨v,k,hnum,hu,hk,hv⟩ | ⟨e,he,hnum,hu⟩
 ·have hw:IntKind.wrap .i64 ((c:Int)+(k:Int))=((c+k:Nat):Int) := by rw [wi64 (by omega) (by omega)]; omega
  refine .inl ⟨_,_,0,0,hu,hk,hv,?_⟩
  ·unfold p19
   simp only [e1,Int.toNat_natCast,e2,e3,cond_true,decide_true]
   rw [sub_all hc,p37_any (h.dr c) (by rw [List.length_drop]; omega) h.hfu,hnum]
   simp only [Option.bind_some]
   rw [p18_ok]
   simp only [Option.bind_some,hw]
 ·have hw:IntKind.wrap .i64 ((c:Int)+0)=(c:Int) := by rw [wi64 (by omega) (by omega)]; omega
  refine .inr ⟨hu,c,e,c,he,?_⟩
  unfold p19
  simp only [e1,Int.toNat_natCast,e2,e3,cond_true,decide_true]
  rw [sub_all hc,p37_any (h.dr c) (by rw [List.length_drop]; omega) h.hfu,hnum]
  simp only [Option.bind_some]
  rw [p18_er he]
  simp only [Option.bind_some,hw]
theorem p39_er {a:List Int} {c e q:Int}:p39_2 fu (stE a c e q,())=some ((stE a c e q,(),()),0) := by
 unfold p39_2
 simp only [cond_true,dfu,p19_er,Option.bind_some,decide_true]
 rw [xor0]
theorem p39P {a:List Int} {c:Nat} {x y:Int} (h:okA fu a) (hc:c≤a.length):PR a 0 (iS a c) isI (p39_2 fu (stO a c x y,())) := by
 unfold iS p39_2
 simp only [cond_false,decide_true,cond_true,dfp]
 rcases p19P (x := 0) (y := 0) h hc with ⟨c1,v,x1,y1,hr,h1,h2,h3⟩ | ⟨hr,c1,e,q,he,h3⟩
 ·obtain ⟨n,rfl⟩ := Int.eq_ofNat_of_zero_le h2.1
  simp only [h3,hr,Option.bind_some]
  rw [xor1 n (by have := h2.2; omega)]
  exact .inl ⟨_,_,_,_,rfl,h1,unzz_i h2,rfl⟩
 ·simp only [h3,hr,Option.bind_some,Option.bind_none]
  rw [xor0]
  exact .inr ⟨rfl,_,_,_,he,rfl⟩
theorem p36_er {a:List Int} {c e q j:Int}:p36 fu (stE a c e q,j,())=some ((stE a c e q,(),()),0) := by
 unfold p36
 simp only [cond_true,decide_true]
theorem p36_ok {a:List Int} {c x y j:Int}:p36 fu (stO a c x y,j,())=some ((stO a c 0 0,(),()),j) := by
 unfold p36
 simp only [cond_true,cond_false,decide_true]
 rfl
theorem p17_er {a:List Int} {c e q j:Int}:p17_2 fu (stE a c e q,j,())=some ((stE a c e q,(),()),0) := by
 unfold p17_2
 simp only [cond_true,dfu,p19_er,Option.bind_some,decide_true,p35_er]
 rcases Bool.eq_false_or_eq_true (decide (j<0)) with g | g <;> rcases Bool.eq_false_or_eq_true (decide ((0:Int)>IntKind.wrap .u64 j)) with g2 | g2 <;> rcases Bool.eq_false_or_eq_true (decide ((0:Int)>IntKind.wrap .u64 (IntKind.wrap .i64 ((a.length:Int)-c)))) with g3 | g3 <;> simp only [g,g2,g3,cond_true,cond_false,orK_inl,Option.bind_some,p35_er,p36_er]
def isC (a:List Int) (j:Int) (c:Nat) (n:Int):Prop := 0≤n∧n≤j ∧ ∃ c1,cntS j a c=some (c1,n)∧(c1:Int)+n≤a.length
theorem p17P {a:List Int} {c:Nat} {j x y:Int} (h:okA fu a) (hc:c≤a.length) (hj:isI j):PR a 0 (cntS j a c) (isC a j c) (p17_2 fu (stO a c x y,j,())) := by
 have hl := h.hn
 obtain ⟨hj1,hj2⟩ := hj
 unfold isC
 rcases p19P (x := 0) (y := 0) h hc with ⟨c1,v,x1,y1,hr,h1,⟨h2,h2'⟩,h3⟩ | ⟨hr,c1,e,q,he,h3⟩
 ·have hw2:IntKind.wrap .u64 (IntKind.wrap .i64 ((a.length:Int)-(c1:Int)))=((a.length-c1:Nat):Int) := by rw [wi64 (by omega) (by omega),wu64 (by omega) (by omega)]; omega
  by_cases hbad:j<0 ∨ v>j ∨ v>((a.length-c1:Nat):Int)
  ·refine .inr ⟨by unfold cntS; rw [hr,Option.bind_some,if_pos hbad],?_⟩
   unfold p17_2
   simp only [cond_false,decide_true,cond_true,dfp,h3,Option.bind_some]
   by_cases g:j<0
   ·simp only [decide_eq_true g,cond_true,orK_inl,p35_ok (show (13:Int) ≠ 0 by decide),Option.bind_some,p35_er,p36_er,Bool.cond_self]
    exact ⟨_,_,_,by decide,rfl⟩
   ·by_cases g2:v>j
    ·have g2':v>IntKind.wrap .u64 j := by rw [wu64 (by omega) (by omega)]; omega
     simp only [decide_eq_false g,decide_eq_true g2',cond_true,orK_inl,p35_ok (show (13:Int) ≠ 0 by decide),Option.bind_some,p35_er,p36_er,Bool.cond_self]
     exact ⟨_,_,_,by decide,rfl⟩
    ·have g2':¬ v>IntKind.wrap .u64 j := by rw [wu64 (by omega) (by omega)]; omega
     have g3:v>((a.length-c1:Nat):Int) := by omega
     simp only [decide_eq_false g,decide_eq_false g2',cond_true,cond_false,orK_inl,hw2,decide_eq_true g3,p35_ok (show (11:Int) ≠ 0 by decide),Option.bind_some,p36_er]
     exact ⟨_,_,_,by decide,rfl⟩
  ·have hcn:cntS j a c=some (c1,v) := by unfold cntS; rw [hr,Option.bind_some,if_neg hbad]
   have g:¬ j<0 := fun k=>hbad (.inl k)
   have g2:¬ v>IntKind.wrap .u64 j := by rw [wu64 (by omega) (by omega)]; omega
   have g3:¬ v>((a.length-c1:Nat):Int) := by omega
   have hwv:IntKind.wrap .i64 v=v := wi64 (by omega) (by omega)
   refine .inl ⟨c1,v,0,0,hcn,h1,⟨h2,by omega,c1,hcn,by omega⟩,?_⟩
   unfold p17_2
   simp only [cond_false,decide_true,cond_true,dfp,h3,Option.bind_some,decide_eq_false g,decide_eq_false g2,orK_inl,hw2,decide_eq_false g3,p36_ok,hwv]
 ·refine .inr ⟨by unfold cntS; rw [hr]; rfl,?_⟩
  unfold p17_2
  simp only [cond_false,decide_true,cond_true,dfp,h3,Option.bind_some,p35_er]
  refine ⟨c1,e,q,he,?_⟩
  rcases Bool.eq_false_or_eq_true (decide (j<0)) with g | g <;> rcases Bool.eq_false_or_eq_true (decide ((0:Int)>IntKind.wrap .u64 j)) with g2 | g2 <;> rcases Bool.eq_false_or_eq_true (decide ((0:Int)>IntKind.wrap .u64 (IntKind.wrap .i64 ((a.length:Int)-c1)))) with g3 | g3 <;> simp only [g,g2,g3,cond_true,cond_false,orK_inl,Option.bind_some,p35_er,p36_er]
theorem p59_er {a:List Int} {c e q j:Int}:p59_2 fu (stE a c e q,j,())=some ((stE a c e q,(),()),[]) := by
 unfold p59_2
 simp only [cond_true,decide_true,orK_inl,dfu]
theorem p59_short {a:List Int} {c j:Nat} {x y:Int} (hc:c≤a.length) (hn:a.length≤140737488355328) (h:a.length<c+j):p59_2 fu (stO a c x y,(j:Int),())=some ((stE a c 11 c,(),()),[]) := by
 have e1:decide ((j:Int)>IntKind.wrap .i64 ((a.length:Int)-(c:Int)))=true := by rw [wi64 (by omega) (by omega)]; simp; omega
 unfold p59_2
 simp only [cond_false,e1,cond_true,decide_true]
 rw [p18_er (by decide)]
 simp only [Option.bind_some,cond_true,orK_inl,dfu]
theorem p59_ok {a:List Int} {c j:Nat} {x y:Int} (hn:a.length≤140737488355328) (h:c+j≤a.length):p59_2 fu (stO a c x y,(j:Int),())=some ((stO a ((c+j:Nat):Int) 0 0,(),()),(a.drop c).take j) := by
 have e1:decide ((j:Int)>IntKind.wrap .i64 ((a.length:Int)-(c:Int)))=false := by rw [wi64 (by omega) (by omega)]; simp; omega
 have w1:IntKind.wrap .i64 ((c:Int)+(j:Int))=((c+j:Nat):Int) := by rw [wi64 (by omega) (by omega)]; omega
 have w2:IntKind.wrap .i64 (((c+j:Nat):Int)-(j:Int))=(c:Int) := by rw [wi64 (by omega) (by omega)]; omega
 have e2:decide ((0:Int)≤(c:Int))=true := by simp
 have e3:decide ((0:Int)≤((c+j:Nat):Int))=true := by simp; omega
 have e4:decide (c≤c+j∧0+(c+j)≤a.length)=true := by simp; omega
 have e6:decide (c+(c+j-c)≤a.length)=true := by simp; omega
 have es:sub' a c (c+j-c)=(a.drop c).take j := by rw [sub'_eq,Nat.add_sub_cancel_left]
 have hl:((a.drop c).take j).length≤140737488355328 := by rw [List.length_take,List.length_drop]; omega
 have e5:(((a.drop c).take j).length≤maxLen∧((a.drop c).take j).length * 1≤140737488355328)=True := eq_true ⟨Nat.le_trans hl (by decide),by omega⟩
 unfold p59_2
 simp only [cond_false,e1,orK_inl,w1,w2,e2,e3,Int.toNat_natCast,e4,e6,es,e5,decide_true,cond_true,dfp,dfu]
theorem p42_er {a:List Int} {c e q j:Int}:p42_1 fu (stE a c e q,j,())=some ((stE a c e q,(),()),[]) := by
 unfold p42_1
 simp only [cond_true,dfu,p17_er,p59_er,Option.bind_some,decide_true]
def isBs (a:List Int) (j:Int) (l:List Int):Prop := l.length≤a.length∧(l.length:Int)≤j∧byt l
theorem p42P {a:List Int} {c:Nat} {j x y:Int} (h:okA fu a) (hc:c≤a.length) (hj:isI j):PR a [] (bytS j a c) (isBs a j) (p42_1 fu (stO a c x y,j,())) := by
 unfold bytS p42_1
 simp only [cond_false,dfp,decide_true,cond_true]
 rcases p17P (x := 0) (y := 0) h hc hj with ⟨c1,v,x1,y1,hr,h1,⟨h2,h4,c2,h5,h6⟩,h3⟩ | ⟨hr,c1,e,q,he,h3⟩
 ·rw [hr] at h5
  injection h5 with h5
  injection h5 with h5 h7
  subst h5
  obtain ⟨n,rfl⟩ := Int.eq_ofNat_of_zero_le h2
  simp only [h3,hr,Option.bind_some,Int.toNat_natCast]
  rw [p59_ok h.hn (by omega)]
  simp only [Option.bind_some]
  exact .inl ⟨_,_,_,_,rfl,by omega,⟨by rw [List.length_take,List.length_drop]; omega,by rw [List.length_take,List.length_drop]; omega,fun x hx=>h.hb x (List.mem_of_mem_drop (List.mem_of_mem_take hx))⟩,rfl⟩
 ·simp only [h3,hr,Option.bind_some,Option.bind_none,p59_er]
  exact .inr ⟨rfl,_,_,_,he,rfl⟩
theorem p17N {a:List Int} {c:Nat} {j:Int} (h:okA fu a) (hc:c≤a.length) (hj:isI j):PR a 0 (cntS j a c) (isC a j c) (p17 fu ((a,(c:Int),(),()),j,())) := by
 have hl := h.hn
 obtain ⟨hj1,hj2⟩ := hj
 unfold isC
 rcases p19N h hc with ⟨c1,v,x1,y1,hr,h1,⟨h2,h2'⟩,h3⟩ | ⟨hr,c1,e,q,he,h3⟩
 ·have hw2:IntKind.wrap .u64 (IntKind.wrap .i64 ((a.length:Int)-(c1:Int)))=((a.length-c1:Nat):Int) := by rw [wi64 (by omega) (by omega),wu64 (by omega) (by omega)]; omega
  by_cases hbad:j<0 ∨ v>j ∨ v>((a.length-c1:Nat):Int)
  ·refine .inr ⟨by unfold cntS; rw [hr,Option.bind_some,if_pos hbad],?_⟩
   unfold p17
   simp only [decide_true,cond_true,h3,Option.bind_some]
   by_cases g:j<0
   ·simp only [decide_eq_true g,cond_true,orK_inl,p35_ok (show (13:Int) ≠ 0 by decide),Option.bind_some,p35_er,p36_er,Bool.cond_self]
    exact ⟨_,_,_,by decide,rfl⟩
   ·by_cases g2:v>j
    ·have g2':v>IntKind.wrap .u64 j := by rw [wu64 (by omega) (by omega)]; omega
     simp only [decide_eq_false g,decide_eq_true g2',cond_true,orK_inl,p35_ok (show (13:Int) ≠ 0 by decide),Option.bind_some,p35_er,p36_er,Bool.cond_self]
     exact ⟨_,_,_,by decide,rfl⟩
    ·have g2':¬ v>IntKind.wrap .u64 j := by rw [wu64 (by omega) (by omega)]; omega
     have g3:v>((a.length-c1:Nat):Int) := by omega
     simp only [decide_eq_false g,decide_eq_false g2',cond_true,cond_false,orK_inl,hw2,decide_eq_true g3,p35_ok (show (11:Int) ≠ 0 by decide),Option.bind_some,p36_er]
     exact ⟨_,_,_,by decide,rfl⟩
  ·have hcn:cntS j a c=some (c1,v) := by unfold cntS; rw [hr,Option.bind_some,if_neg hbad]
   have g:¬ j<0 := fun k=>hbad (.inl k)
   have g2:¬ v>IntKind.wrap .u64 j := by rw [wu64 (by omega) (by omega)]; omega
   have g3:¬ v>((a.length-c1:Nat):Int) := by omega
   have hwv:IntKind.wrap .i64 v=v := wi64 (by omega) (by omega)
   refine .inl ⟨c1,v,0,0,hcn,h1,⟨h2,by omega,c1,hcn,by omega⟩,?_⟩
   unfold p17
   simp only [decide_true,cond_true,cond_false,h3,Option.bind_some,decide_eq_false g,decide_eq_false g2,orK_inl,hw2,decide_eq_false g3,p36_ok,hwv]
 ·refine .inr ⟨by unfold cntS; rw [hr]; rfl,?_⟩
  unfold p17
  simp only [decide_true,cond_true,h3,Option.bind_some,p35_er]
  refine ⟨c1,e,q,he,?_⟩
  rcases Bool.eq_false_or_eq_true (decide (j<0)) with g | g <;> rcases Bool.eq_false_or_eq_true (decide ((0:Int)>IntKind.wrap .u64 j)) with g2 | g2 <;> rcases Bool.eq_false_or_eq_true (decide ((0:Int)>IntKind.wrap .u64 (IntKind.wrap .i64 ((a.length:Int)-c1)))) with g3 | g3 <;> simp only [g,g2,g3,cond_true,cond_false,orK_inl,Option.bind_some,p35_er,p36_er]
theorem PR.map {α β:Type} {a:List Int} {d:α} {r:Option (Nat×α)} {P:α→Prop} {o:Option ((PT×Unit×Unit)×α)} (g:α→β) {o':Option ((PT×Unit×Unit)×β)} {Q:β→Prop} (h:PR a d r P o) (hq:∀ v,P v→Q (g v))
  (h1:∀ c x y v,o=some ((stO a c x y,(),()),v)→o' = some ((stO a c x y,(),()),g v)) (h2:∀ c e q,o=some ((stE a c e q,(),()),d)→o' = some ((stE a c e q,(),()),g d)):PR a (g d) (r.bind fun r=>some (r.1,g r.2)) Q o' := by
 rcases h with ⟨c,v,x,y,hr,hc,hv,ho⟩ | ⟨hr,c,e,q,he,ho⟩
 ·exact .inl ⟨c,g v,x,y,by rw [hr]; rfl,hc,hq v hv,h1 _ _ _ _ ho⟩
 ·exact .inr ⟨by rw [hr]; rfl,c,e,q,he,h2 _ _ _ ho⟩
def repS {α:Type} (S:List Int→Nat→Option (Nat×α)) (a:List Int):Nat→List α→Nat→Option (Nat×List α)
 | 0,l,c=>some (c,l)
 | n+1,l,c=>(S a c).bind fun r=>repS S a n (l ++ [r.2]) r.1
def listS {α:Type} (S:List Int→Nat→Option (Nat×α)) (m:Int) (a:List Int) (c:Nat):Option (Nat×List α) := (cntS m a c).bind fun r=>repS S a r.2.toNat [] r.1
section
variable {α S R:Type} {f:S→Option (S ⊕ R)} {a:List Int} {P:α→Prop} {Sx:List Int→Nat→Option (Nat×α)} {n:Nat}
theorem list_er (mk:Nat→List α→PT→S)
  (her:∀ k l c e q,k<n→l.length=k→e ≠ 0 → ∃ d,f (mk k l (stE a c e q))=some (.inl (mk (k+1) (l ++ [d]) (stE a c e q)))):∀ m k l c e q j,k+m=n→l.length=k→e ≠ 0→m<j → ∃ (l':List α) (i:Nat),l'.length=n∧loopO j f (mk k l (stE a c e q))=loopO (i+1) f (mk n l' (stE a c e q))
 | 0,k,l,c,e,q,j,hk,hl,he,hj=>by
  obtain ⟨j,rfl⟩:∃ i,j=i+1 := ⟨j-1,by omega⟩
  have:k=n := by omega
  subst this
  exact ⟨l,j,hl,rfl⟩
 | m+1,k,l,c,e,q,j,hk,hl,he,hj=>by
  obtain ⟨j,rfl⟩:∃ i,j=i+1 := ⟨j-1,by omega⟩
  obtain ⟨d,hd⟩ := her k l c e q (by omega) hl he
  obtain ⟨l',i,h1,h2⟩ := list_er mk her m (k+1) (l ++ [d]) c e q j (by omega) (by simp [hl]) he (by omega)
  exact ⟨l',i,h1,by rw [← h2]; simp only [loopO,hd]⟩
theorem list_loop (mk:Nat→List α→PT→S)
  (hok:∀ k l (c:Nat) x y,k<n→l.length=k→c≤a.length→(∃ c1 v x1 y1,Sx a c=some (c1,v)∧c1≤a.length∧P v∧f (mk k l (stO a c x y))=some (.inl (mk (k+1) (l ++ [v]) (stO a c1 x1 y1)))) ∨ (Sx a c=none ∧ ∃ c1 e q v,e ≠ 0∧f (mk k l (stO a c x y))=some (.inl (mk (k+1) (l ++ [v]) (stE a c1 e q)))))
  (her:∀ k l c e q,k<n→l.length=k→e ≠ 0 → ∃ d,f (mk k l (stE a c e q))=some (.inl (mk (k+1) (l ++ [d]) (stE a c e q)))):∀ m k l (c:Nat) x y j,k+m=n→l.length=k→c≤a.length→(∀ z ∈ l,P z)→m<j →
   (∃ (c1:Nat) (v:List α) (x1 y1:Int) (i:Nat),repS Sx a m l c=some (c1,v)∧c1≤a.length∧(∀ z ∈ v,P z)∧v.length=n∧loopO j f (mk k l (stO a c x y))=loopO (i+1) f (mk n v (stO a c1 x1 y1))) ∨
    (repS Sx a m l c=none ∧ ∃ (c1 e q:Int) (v:List α) (i:Nat),e ≠ 0∧v.length=n∧loopO j f (mk k l (stO a c x y))=loopO (i+1) f (mk n v (stE a c1 e q)))
 | 0,k,l,c,x,y,j,hk,hl,hc,hP,hj=>by
  obtain ⟨j,rfl⟩:∃ i,j=i+1 := ⟨j-1,by omega⟩
  have:k=n := by omega
  subst this
  exact .inl ⟨c,l,x,y,j,rfl,hc,hP,hl,rfl⟩
 | m+1,k,l,c,x,y,j,hk,hl,hc,hP,hj=>by
  obtain ⟨j,rfl⟩:∃ i,j=i+1 := ⟨j-1,by omega⟩
  rcases hok k l c x y (by omega) hl hc with ⟨c1,v,x1,y1,h1,h2,h3,h4⟩ | ⟨h1,c1,e,q,v,he,h4⟩
  ·have hP':∀ z ∈ l ++ [v],P z := fun z hz=>by
    rcases List.mem_append.1 hz with hz | hz
    ·exact hP z hz
    ·rw [List.mem_singleton] at hz
     rw [hz]
     exact h3
   have := list_loop mk hok her m (k+1) (l ++ [v]) c1 x1 y1 j (by omega) (by simp [hl]) h2 hP' (by omega)
   have e:loopO (j+1) f (mk k l (stO a c x y))=loopO j f (mk (k+1) (l ++ [v]) (stO a c1 x1 y1)) := by simp only [loopO,h4]
   rw [e]
   simp only [repS,h1,Option.bind_some]
   exact this
  ·obtain ⟨l',i,g1,g2⟩ := list_er mk her m (k+1) (l ++ [v]) c1 e q j (by omega) (by simp [hl]) he (by omega)
   exact .inr ⟨by simp only [repS,h1,Option.bind_none],c1,e,q,l',i,he,g1,by rw [← g2]; simp only [loopO,h4]⟩
theorem list_all {o:Option R} {fu:Nat} {c:Nat} {x y:Int} (mk:Nat→List α→PT→S) (ho:loopO fu f (mk 0 [] (stO a c x y))=o)
  (hok:∀ k l (c:Nat) x y,k<n→l.length=k→c≤a.length→(∃ c1 v x1 y1,Sx a c=some (c1,v)∧c1≤a.length∧P v∧f (mk k l (stO a c x y))=some (.inl (mk (k+1) (l ++ [v]) (stO a c1 x1 y1)))) ∨ (Sx a c=none ∧ ∃ c1 e q v,e ≠ 0∧f (mk k l (stO a c x y))=some (.inl (mk (k+1) (l ++ [v]) (stE a c1 e q)))))
  (her:∀ k l c e q,k<n→l.length=k→e ≠ 0 → ∃ d,f (mk k l (stE a c e q))=some (.inl (mk (k+1) (l ++ [d]) (stE a c e q)))) (hc:c≤a.length) (hn:n<fu) :
   (∃ (c1:Nat) (v:List α) (x1 y1:Int) (i:Nat),repS Sx a n [] c=some (c1,v)∧c1≤a.length∧(∀ z ∈ v,P z)∧v.length=n∧o=loopO (i+1) f (mk n v (stO a c1 x1 y1))) ∨
    (repS Sx a n [] c=none ∧ ∃ (c1 e q:Int) (v:List α) (i:Nat),e ≠ 0∧v.length=n∧o=loopO (i+1) f (mk n v (stE a c1 e q))) := by
 subst ho
 exact list_loop mk hok her n 0 [] c x y fu (by omega) rfl hc (fun z hz=>by simp at hz) hn
end
theorem isC.nat {a:List Int} {j:Int} {c c1:Nat} {v:Int} (hr:cntS j a c=some (c1,v)) (hv:isC a j c v):∃ k:Nat,v=(k:Int)∧(k:Int)≤j∧c1+k≤a.length := by
 obtain ⟨h2,h4,c2,h5,h6⟩ := hv
 rw [hr] at h5
 injection h5 with h5
 injection h5 with h5 h7
 subst h5
 exact ⟨v.toNat,by omega,by omega,by omega⟩
theorem take1 {a:List Int} {c:Nat} (h:c<a.length):(a.drop c).take 1=[a.getD c 0] := by
 rw [List.drop_eq_getElem_cons h,List.take_succ_cons,List.take_zero,List.getD_eq_getElem?_getD,List.getElem?_eq_getElem h]
 rfl
theorem p38_er {a:List Int} {c e q:Int}:p38_2 fu (stE a c e q,())=some ((stE a c e q,(),()),false) := by
 unfold p38_2
 simp only [cond_true,dfu,p59_er,Option.bind_some,decide_true,List.length_nil]
 rfl
theorem p38P {a:List Int} {c:Nat} {x y:Int} (h:okA fu a) (hc:c≤a.length):PR a false (boolS a c) (fun _=>True) (p38_2 fu (stO a c x y,())) := by
 have hn := h.hn
 unfold boolS p38_2
 simp only [cond_true,cond_false,dfp,decide_true]
 by_cases hlt:c<a.length
 ·have h1 := p59_ok (fu := fu) (x := 0) (y := 0) h.hn (show c+1≤a.length by omega)
  rw [take1 hlt] at h1
  simp only [show ((1:Nat):Int)=1 from rfl] at h1
  generalize hv:a.getD c 0=v at h1 ⊢
  have e0:List.getD [v] 0 (dflt (.int .u8))=v := rfl
  have e1:(((List.length [v]:Nat):Int)==1)=true := rfl
  have e2:decide ((0:Int)≤0∧0<((List.length [v]:Nat):Int))=true := rfl
  have e3:decide (0<List.length [v])=true := rfl
  simp only [h1,Option.bind_some,e0,e1,e2,e3,cond_true,orK_inl]
  by_cases hv1:v>1
  ·have hb:¬ (c<a.length∧v≤1) := by omega
   rw [if_neg hb]
   simp only [decide_eq_true hv1,cond_true,p35_ok (show (16:Int) ≠ 0 by decide),Option.bind_some,orK_inl]
   exact .inr ⟨rfl,_,_,_,by decide,rfl⟩
  ·have hb:c<a.length∧v≤1 := by omega
   rw [if_pos hb]
   simp only [decide_eq_false hv1,cond_false,orK_inl]
   exact .inl ⟨_,_,_,_,rfl,by omega,trivial,rfl⟩
 ·have h1 := p59_short (fu := fu) (x := 0) (y := 0) hc h.hn (show a.length<c+1 by omega)
  simp only [show ((1:Nat):Int)=1 from rfl] at h1
  rw [if_neg (fun k=>hlt k.1)]
  have e1:(((List.length ([]:List Int):Nat):Int)==1)=false := rfl
  simp only [h1,Option.bind_some,e1,cond_false,cond_true,orK_inl]
  exact .inr ⟨rfl,_,_,_,by decide,rfl⟩
theorem p22_er {a:List Int} {c e q:Int}:p22 fu (stE a c e q,())=some ((stE a c e q,(),()),(e,q,())) := by
 unfold p22 pAsM
 simp only [cond_true,cond_false,Option.bind_some,Bool.not_false,decide_true,orK_inl]
theorem p22_ok {a:List Int} {c x y:Int}:p22 fu (stO a c x y,())=some ((stO a c 0 0,(),()),(0,0,())) := by
 unfold p22 pAsM
 simp only [cond_true,cond_false,Option.bind_some,Bool.not_true,decide_true,orK_inl]
 rfl
theorem p23_er {a:List Int} {c e q:Int} (he:e ≠ 0):p23 fu (stE a c e q,())=some ((stE a c e q,(),()),e) := by
 have g:(e==0)=false := beq_eq_false_iff_ne.2 he
 unfold p23
 simp only [cond_true,dfu,p22_er,Option.bind_some,decide_true,g,cond_false]
theorem p23_ok {a:List Int} {c x y:Int}:p23 fu (stO a c x y,())=some ((stO a c 0 0,(),()),if c<(a.length:Int) then 15 else 0) := by
 unfold p23
 simp only [cond_true,cond_false,dfp,p22_ok,Option.bind_some,decide_true,BEq.rfl]
 by_cases g:c<(a.length:Int)
 ·simp only [decide_eq_true g,cond_true,if_pos g]
 ·simp only [decide_eq_false g,cond_false,if_neg g]
end Go.Proofs.YtahamggipcikgaaDoor
namespace Go.Proofs.YtahamggipcikgaaDoor
open Go.RowKit
variable {fu:Nat}
def lB {α:Type} (enc:α→List Int) (l:List α):List Int := uB (l.length:Int) ++ l.flatMap enc
theorem getD_at {α:Type} {l:List α} {k:Nat} (h:k<l.length) (d:α):l.getD k d=l[k] := by
 rw [List.getD_eq_getElem?_getD,List.getElem?_eq_getElem h]
 rfl
def Cz {α:Type} (S:List Int→Nat→Option (Nat×α)) (enc:α→List Int) (W:α→Prop):Prop :=
 ∀ (a:List Int) (c c':Nat) (v:α),byt a→S a c=some (c',v)→W v∧a.drop c=enc v ++ a.drop c'
theorem byt_drop {a:List Int} (h:byt a) (c:Nat):byt (a.drop c) := fun x hx=>h x (List.mem_of_mem_drop hx)
theorem Cn_u:Cz uS uB isU := by
 intro a c c' v hb h
 unfold uS at h
 split at h
 ·rename_i h0
  injection h with h
  injection h with h1 h2
  have hnum:numS 0 0 (a.drop c)=((numS 0 0 (a.drop c)).1,(numS 0 0 (a.drop c)).2.1,0) := by rw [← h0]
  have hu := numS_u (a.drop c) 0 0 _ _ (byt_drop hb c) (by omega) (by decide) hnum
  obtain ⟨w,m,e1,e2,e3,_⟩ := numS_canon (a.drop c) 0 0 (numS 0 0 (a.drop c)).1 (numS 0 0 (a.drop c)).2.1 (byt_drop hb c) hnum
  rw [h2] at hu
  rw [e2] at h1
  rw [e1] at h2
  simp only [Nat.pow_zero,Nat.mul_one,Nat.zero_add,Int.toNat_natCast] at h1 h2
  subst h1 h2
  refine ⟨hu,?_⟩
  show _=ub w ++ _
  rw [← e3,← List.drop_drop,List.take_append_drop]
 ·cases h
theorem Cn_i:Cz iS iB isI := by
 intro a c c' v hb h
 unfold iS at h
 obtain ⟨⟨c0,v0⟩,e0,h⟩ := Option.bind_eq_some_iff.1 h
 injection h with h
 injection h with h1 h2
 subst h1 h2
 obtain ⟨g,e⟩ := Cn_u a c c0 v0 hb e0
 refine ⟨unzz_i g,?_⟩
 unfold iB
 dsimp only
 rw [zz_unzz g]
 exact e
theorem Cn_b {m:Int}:Cz (bytS m) tB fun l=>(l.length:Int)≤m∧byt l := by
 intro a c c' v hb h
 unfold bytS cntS at h
 obtain ⟨⟨c0,v0⟩,e0,h⟩ := Option.bind_eq_some_iff.1 h
 obtain ⟨⟨c1,v1⟩,e1,h1⟩ := Option.bind_eq_some_iff.1 e0
 injection h with h
 injection h with h2 h3
 dsimp only at h1 h2 h3
 split at h1
 ·cases h1
 ·rename_i hc
  injection h1 with h1
  injection h1 with h4 h5
  subst h4 h5 h2 h3
  obtain ⟨g,e⟩ := Cn_u a c c1 v1 hb e1
  obtain ⟨n,rfl⟩ := Int.eq_ofNat_of_zero_le g.1
  have hl:((a.drop c1).take (Int.toNat (n:Int))).length=n := by
   rw [Int.toNat_natCast,List.length_take,List.length_drop]
   omega
  refine ⟨⟨by rw [hl]; omega,fun x hx=>hb x (List.mem_of_mem_drop (List.mem_of_mem_take hx))⟩,?_⟩
  unfold tB
  rw [hl,List.append_assoc,← List.drop_drop,List.take_append_drop]
  exact e
theorem Cn_o:Cz boolS bB fun _=>True := by
 intro a c c' v hb h
 unfold boolS at h
 split at h
 ·rename_i hc
  injection h with h
  injection h with h1 h2
  subst h1 h2
  refine ⟨trivial,?_⟩
  obtain ⟨hc1,h2⟩ := hc
  have hg:a.getD c 0=a[c] := getD_at hc1 0
  have h1 := hb a[c] (List.getElem_mem hc1)
  rw [hg] at h2 ⊢
  rw [List.drop_eq_getElem_cons hc1]
  unfold bB
  have h3:a[c]=0 ∨ a[c]=1 := by omega
  rcases h3 with h3 | h3 <;> rw [h3] <;> rfl
 ·cases h
theorem Cn_rep {α:Type} {S:List Int→Nat→Option (Nat×α)} {enc:α→List Int} {W:α→Prop} (hS:Cz S enc W):∀ (n:Nat) (s:List α) (a:List Int) (c c':Nat) (l:List α),byt a→repS S a n s c=some (c',l) →
  ∃ t:List α,l=s ++ t∧t.length=n∧(∀ x ∈ t,W x)∧a.drop c=t.flatMap enc ++ a.drop c'
 | 0,s,a,c,c',l,_,h=>by
  injection h with h
  injection h with h1 h2
  subst h1 h2
  exact ⟨[],by simp,rfl,fun x hx=>by simp at hx,by simp⟩
 | n+1,s,a,c,c',l,hb,h=>by
  obtain ⟨⟨c0,v0⟩,e0,h⟩ := Option.bind_eq_some_iff.1 h
  obtain ⟨g,d⟩ := hS _ _ _ _ hb e0
  obtain ⟨t,h1,h2,h3,h4⟩ := Cn_rep hS n (s ++ [v0]) a c0 c' l hb h
  refine ⟨v0 :: t,by rw [h1]; simp,by rw [List.length_cons,h2],fun x hx => ?_,by rw [d,h4,List.flatMap_cons,List.append_assoc]⟩
  rcases List.mem_cons.1 hx with rfl | hx
  ·exact g
  ·exact h3 x hx
theorem Cn_list {α:Type} {S:List Int→Nat→Option (Nat×α)} {enc:α→List Int} {W:α→Prop} {m:Int} (hS:Cz S enc W):Cz (listS S m) (lB enc) fun l=>(∀ x ∈ l,W x)∧(l.length:Int)≤m := by
 intro a c c' l hb h
 unfold listS cntS at h
 obtain ⟨⟨c0,v0⟩,e0,h⟩ := Option.bind_eq_some_iff.1 h
 obtain ⟨⟨c1,v1⟩,e1,h1⟩ := Option.bind_eq_some_iff.1 e0
 dsimp only at h h1
 split at h1
 ·cases h1
 ·rename_i hc
  injection h1 with h1
  injection h1 with h4 h5
  subst h4 h5
  obtain ⟨g,e⟩ := Cn_u a c c1 v1 hb e1
  obtain ⟨n,rfl⟩ := Int.eq_ofNat_of_zero_le g.1
  obtain ⟨t,e2,e3,e4,e5⟩ := Cn_rep hS _ _ _ _ _ _ hb h
  rw [List.nil_append] at e2
  subst e2
  rw [Int.toNat_natCast] at e3
  refine ⟨⟨e4,by omega⟩,?_⟩
  rw [e,e5]
  unfold lB
  rw [e3,List.append_assoc]
end Go.Proofs.YtahamggipcikgaaDoor
namespace Go.Proofs.YtahamggipcikgaaDoor
open Go.RowKit
variable {fu:Nat}
def PE {α:Type} (a:List Int) (r:Option (Nat×α)) (o:Option ((PT×Unit×Unit)×α)):Prop :=
 (∃ (c:Nat) (v:α) (h i:Int),r=some (c,v)∧c≤a.length∧o=some ((stO a c h i,(),()),v)) ∨ (r=none ∧ ∃ (c e q:Int) (d:α),e ≠ 0∧o=some ((stE a c e q,(),()),d))
def kdS (a:List Int) (c:Nat):Option (Nat×Int) := (iS a c).bind fun r=>if r.2<1 ∨ r.2>3 then none else some r
theorem lt01:decide ((0:Int)<1)=true := rfl
theorem p77_er {a:List Int} {c e q:Int}:p77_1 fu (stE a c e q,())=some ((stE a c e q,(),()),0) := by
 unfold p77_1
 simp only [cond_true,dfu,p39_er,Option.bind_some,decide_true,orK_inl,p35_er,lt01]
theorem p77P {a:List Int} {c:Nat} {x y:Int} (h:okA fu a) (hc:c≤a.length):PE a (kdS a c) (p77_1 fu (stO a c x y,())) := by
 unfold kdS p77_1
 simp only [cond_false,dfp,decide_true,cond_true]
 rcases p39P (x := 0) (y := 0) h hc with ⟨c1,v,x1,y1,hr,h1,_,h3⟩ | ⟨hr,c1,e,q,he,h3⟩
 ·simp only [h3,hr,Option.bind_some]
  by_cases g:v<1
  ·simp only [decide_eq_true g,cond_true,orK_inl,p35_ok (show (16:Int) ≠ 0 by decide),Option.bind_some]
   exact .inr ⟨if_pos (.inl g),_,_,_,_,by decide,rfl⟩
  ·by_cases g2:v>3
   ·simp only [decide_eq_false g,decide_eq_true g2,cond_true,cond_false,orK_inl,p35_ok (show (16:Int) ≠ 0 by decide),Option.bind_some]
    exact .inr ⟨if_pos (.inr g2),_,_,_,_,by decide,rfl⟩
   ·simp only [decide_eq_false g,decide_eq_false g2,cond_false,orK_inl]
    exact .inl ⟨_,_,_,_,if_neg (by omega),h1,rfl⟩
 ·simp only [h3,hr,Option.bind_some,Option.bind_none,lt01,cond_true,orK_inl,p35_er]
  exact .inr ⟨rfl,_,_,_,_,he,rfl⟩
theorem i7:isI 7 := by unfold isI; omega
theorem i8:isI 8 := by unfold isI; omega
theorem i4096:isI 4096 := by unfold isI; omega
theorem i262144:isI 262144 := by unfold isI; omega
theorem p62_er {a:List Int} {c e q:Int} (hf:10<fu):p62_2 fu (stE a c e q,())=some ((stE a c e q,(),()),[]) := by
 obtain ⟨k,rfl⟩:∃ k,fu=k+1 := ⟨fu-1,by omega⟩
 unfold p62_2
 simp only [cond_true,dfu,p17_er,Option.bind_some,decide_true,loopO,Int.lt_irrefl,decide_false,cond_false,inrO,Option.map_some]
theorem p62P {a:List Int} {c:Nat} {x y:Int} (h:okA fu a) (hc:c≤a.length) (hf:4194304<fu):PE a (listS iS 7 a c) (p62_2 fu (stO a c x y,())) := by
 unfold listS p62_2
 simp only [cond_false,dfp,decide_true,cond_true]
 rcases p17P (x := 0) (y := 0) h hc i7 with ⟨c1,v,x1,y1,hr,h1,g1,o1⟩ | ⟨hr,c1,e,q,he,o1⟩
 ·obtain ⟨n,rfl,hn,hcn⟩ := isC.nat hr g1
  simp only [o1,hr,Option.bind_some,Int.toNat_natCast]
  generalize hL:loopO fu _ _=o
  refine Or.elim (list_all (n := n) (P := fun _=>True) (Sx := iS) (fun k l st=>((l,(k:Int),()),(st,()))) hL (fun k l c x y hk hl hc => ?_) (fun k l c e q hk hl he => ?_) h1 (by omega)) ?_ ?_
  ·have e1:decide ((k:Int)<(n:Int))=true := by simp; omega
   have e2:(l.length+1≤maxLen∧(l.length+1) * 8≤140737488355328)=True := eq_true ⟨Nat.le_trans (show l.length+1≤140737488355328 by omega) (by decide),by omega⟩
   have e3:IntKind.wrap .i64 ((k:Int)+1)=((k+1:Nat):Int) := by rw [wi64 (by omega) (by omega)]; omega
   rcases p39P (x := x) (y := y) h hc with ⟨c1,v,x1,y1,q1,q2,q3,q4⟩ | ⟨q1,c1,e,q,he,q4⟩
   ·exact .inl ⟨c1,v,x1,y1,q1,q2,trivial,by simp only [e1,q4,cond_true,decide_true,Option.bind_some,List.length_singleton,e2,e3]⟩
   ·exact .inr ⟨q1,c1,e,q,_,he,by simp only [e1,q4,cond_true,decide_true,Option.bind_some,List.length_singleton,e2,e3]; rfl⟩
  ·have e1:decide ((k:Int)<(n:Int))=true := by simp; omega
   have e2:(l.length+1≤maxLen∧(l.length+1) * 8≤140737488355328)=True := eq_true ⟨Nat.le_trans (show l.length+1≤140737488355328 by omega) (by decide),by omega⟩
   have e3:IntKind.wrap .i64 ((k:Int)+1)=((k+1:Nat):Int) := by rw [wi64 (by omega) (by omega)]; omega
   exact ⟨_,by simp only [e1,p39_er,cond_true,decide_true,Option.bind_some,List.length_singleton,e2,e3]; rfl⟩
  ·rintro ⟨c2,w,x2,y2,i,g2,g3,_,_,g6⟩
   refine .inl ⟨c2,w,x2,y2,g2,g3,?_⟩
   rw [g6]
   simp only [loopO,Int.lt_irrefl,decide_false,cond_false,inrO,Option.map_some]
  ·rintro ⟨g2,c2,e,q,w,i,he,_,g6⟩
   refine .inr ⟨g2,c2,e,q,w,he,?_⟩
   rw [g6]
   simp only [loopO,Int.lt_irrefl,decide_false,cond_false,inrO,Option.map_some]
 ·obtain ⟨k,hk⟩:∃ k,fu=k+1 := ⟨fu-1,by omega⟩
  simp only [o1,hr,Option.bind_some,Option.bind_none]
  refine .inr ⟨rfl,c1,e,q,[],he,?_⟩
  rw [hk]
  simp only [loopO,Int.lt_irrefl,decide_false,cond_false,inrO,Option.map_some]
abbrev CF := List Int×List Int×Unit
def cfS (a:List Int) (c:Nat):Option (Nat×CF) := (listS iS 7 a c).bind fun r=>(listS iS 7 a r.1).bind fun s=>some (s.1,(r.2,s.2,()))
theorem p61_er {a:List Int} {c e q:Int} {x:CF}:p61_7 fu (stE a c e q,x,())=some ((stE a c e q,(),(),(),()),([],[],())) := by
 unfold p61_7
 simp only [cond_true,decide_true]
theorem p61_ok {a:List Int} {c x y:Int} {l m:List Int}:p61_7 fu (stO a c x y,(l,m,()),())=some ((stO a c 0 0,(),(),(),()),(l,m,())) := by
 unfold p61_7
 simp only [cond_true,cond_false,decide_true]
 rfl
theorem p41_er {a:List Int} {c e q:Int} (hf:10<fu):p41_1 fu (stE a c e q,())=some ((stE a c e q,(),()),([],[],())) := by
 unfold p41_1
 simp only [cond_true,dfu,p62_er hf,p61_er,Option.bind_some,decide_true]
theorem p41P {a:List Int} {c:Nat} {x y:Int} (h:okA fu a) (hc:c≤a.length) (hf:4194304<fu):PE a (cfS a c) (p41_1 fu (stO a c x y,())) := by
 have hf':10<fu := by omega
 unfold cfS p41_1
 simp only [decide_true,cond_true,cond_false,dfp]
 rcases p62P (x := 0) (y := 0) h hc hf with ⟨c1,v1,x1,y1,hr1,h1,o1⟩ | ⟨hr1,c1,e,q,d,he,o1⟩
 ·simp only [o1,hr1,Option.bind_some]
  rcases p62P (x := x1) (y := y1) h h1 hf with ⟨c2,v2,x2,y2,hr2,h2,o2⟩ | ⟨hr2,c2,e,q,d,he,o2⟩
  ·simp only [o2,hr2,Option.bind_some,p61_ok]
   exact .inl ⟨_,_,_,_,rfl,h2,rfl⟩
  ·simp only [o2,hr2,Option.bind_some,Option.bind_none,p61_er]
   exact .inr ⟨rfl,_,_,_,_,he,rfl⟩
 ·simp only [o1,hr1,Option.bind_some,Option.bind_none,p62_er hf',p61_er]
  exact .inr ⟨rfl,_,_,_,_,he,rfl⟩
abbrev EZ := Int×Int×Int×List Int×List Int×List Int×Unit
def enS (a:List Int) (c:Nat):Option (Nat×EZ) :=
 (uS a c).bind fun r0=>(uS a r0.1).bind fun r1=>(kdS a r1.1).bind fun r2=>(bytS 262144 a r2.1).bind fun r3=>(cfS a r3.1).bind fun r4=>some (r4.1,(r0.2,r1.2,r2.2,r3.2,r4.2.1,r4.2.2.1,()))
def en2S (a:List Int) (c:Nat):Option (Nat×EN) := (enS a c).bind fun r=>some (r.1,(r.2.1,r.2.2.1,r.2.2.2.1,r.2.2.2.2.1,r.2.2.2.2.2.1,r.2.2.2.2.2.2.1))
theorem p76_er {a:List Int} {c e q:Int} {x:EZ}:p76_5 fu (stE a c e q,x,())=some ((stE a c e q,(),(),(),(),()),(0,0,0,[],[],[],())) := by
 unfold p76_5
 simp only [cond_true,decide_true]
theorem p76_ok {a:List Int} {c x y:Int} {i t k:Int} {d v l:List Int}:p76_5 fu (stO a c x y,(i,t,k,d,v,l,()),())=some ((stO a c 0 0,(),(),(),(),()),(i,t,k,d,v,l,())) := by
 unfold p76_5
 simp only [cond_true,cond_false,decide_true]
 rfl
theorem p60_er {a:List Int} {c e q:Int} (hf:10<fu):p60_1 fu (stE a c e q,())=some ((stE a c e q,(),()),(0,0,0,[],[],[],())) := by
 unfold p60_1
 simp only [cond_true,dfu,p19_er,p77_er,p42_er,p41_er hf,p76_er,Option.bind_some,decide_true]
theorem p60P {a:List Int} {c:Nat} {x y:Int} (h:okA fu a) (hc:c≤a.length) (hf:4194304<fu):PE a (enS a c) (p60_1 fu (stO a c x y,())) := by
 have hf':10<fu := by omega
 unfold enS p60_1
 simp only [decide_true,cond_true,cond_false,dfp]
 rcases p19P (x := 0) (y := 0) h hc with ⟨c0,v0,x0,y0,hr0,h0,g0,o0⟩ | ⟨hr0,c0,e,q,he,o0⟩
 rotate_left
 ·simp only [o0,hr0,Option.bind_some,Option.bind_none,p19_er,p77_er,p42_er,p41_er hf',p76_er]
  exact .inr ⟨rfl,_,_,_,_,he,rfl⟩
 simp only [o0,hr0,Option.bind_some]
 rcases p19P (x := x0) (y := y0) h h0 with ⟨c1,v1,x1,y1,hr1,h1,g1,o1⟩ | ⟨hr1,c1,e,q,he,o1⟩
 rotate_left
 ·simp only [o1,hr1,Option.bind_some,Option.bind_none,p77_er,p42_er,p41_er hf',p76_er]
  exact .inr ⟨rfl,_,_,_,_,he,rfl⟩
 simp only [o1,hr1,Option.bind_some]
 rcases p77P (x := x1) (y := y1) h h1 with ⟨c2,v2,x2,y2,hr2,h2,o2⟩ | ⟨hr2,c2,e,q,d,he,o2⟩
 rotate_left
 ·simp only [o2,hr2,Option.bind_some,Option.bind_none,p42_er,p41_er hf',p76_er]
  exact .inr ⟨rfl,_,_,_,_,he,rfl⟩
 simp only [o2,hr2,Option.bind_some]
 rcases p42P (x := x2) (y := y2) h h2 i262144 with ⟨c3,v3,x3,y3,hr3,h3,g3,o3⟩ | ⟨hr3,c3,e,q,he,o3⟩
 rotate_left
 ·simp only [o3,hr3,Option.bind_some,Option.bind_none,p41_er hf',p76_er]
  exact .inr ⟨rfl,_,_,_,_,he,rfl⟩
 simp only [o3,hr3,Option.bind_some]
 rcases p41P (x := x3) (y := y3) h h3 hf with ⟨c4,⟨v4,w4,⟨⟩⟩,x4,y4,hr4,h4,o4⟩ | ⟨hr4,c4,e,q,d,he,o4⟩
 rotate_left
 ·simp only [o4,hr4,Option.bind_some,Option.bind_none,p76_er]
  exact .inr ⟨rfl,_,_,_,_,he,rfl⟩
 simp only [o4,hr4,Option.bind_some]
 simp only [p76_ok,Option.bind_some]
 exact .inl ⟨_,_,_,_,rfl,h4,rfl⟩
theorem p40_er {a:List Int} {c e q:Int} (hf:10<fu):p40_1 fu (stE a c e q,())=some ((stE a c e q,(),()),[]) := by
 obtain ⟨k,rfl⟩:∃ k,fu=k+1 := ⟨fu-1,by omega⟩
 unfold p40_1
 simp only [cond_true,dfu,p17_er,Option.bind_some,decide_true,loopO,Int.lt_irrefl,decide_false,cond_false,inrO,Option.map_some]
theorem p40P {a:List Int} {c:Nat} {x y:Int} (h:okA fu a) (hc:c≤a.length) (hf:4194304<fu):PE a (listS en2S 8 a c) (p40_1 fu (stO a c x y,())) := by
 unfold listS p40_1
 simp only [cond_false,dfp,decide_true,cond_true]
 rcases p17P (x := 0) (y := 0) h hc i8 with ⟨c1,v,x1,y1,hr,h1,g1,o1⟩ | ⟨hr,c1,e,q,he,o1⟩
 ·obtain ⟨n,rfl,hn,hcn⟩ := isC.nat hr g1
  simp only [o1,hr,Option.bind_some,Int.toNat_natCast]
  generalize hL:loopO fu _ _=o
  refine Or.elim (list_all (n := n) (P := fun _=>True) (Sx := en2S) (fun k l st=>((l,(k:Int),()),(st,()))) hL (fun k l c x y hk hl hc => ?_) (fun k l c e q hk hl he => ?_) h1 (by omega)) ?_ ?_
  ·have e1:decide ((k:Int)<(n:Int))=true := by simp; omega
   have e2:(l.length+1≤maxLen∧(l.length+1) * 96≤140737488355328)=True := eq_true ⟨Nat.le_trans (show l.length+1≤140737488355328 by omega) (by decide),by omega⟩
   have e3:IntKind.wrap .i64 ((k:Int)+1)=((k+1:Nat):Int) := by rw [wi64 (by omega) (by omega)]; omega
   rcases p60P (x := x) (y := y) h hc hf with ⟨c1,⟨i0,i1,i2,i3,i4,i5,⟨⟩⟩,x1,y1,q1,q2,q4⟩ | ⟨q1,c1,e,q,⟨i0,i1,i2,i3,i4,i5,⟨⟩⟩,he,q4⟩
   ·exact .inl ⟨c1,(i0,i1,i2,i3,i4,i5),x1,y1,by rw [en2S,q1]; rfl,q2,trivial,by simp only [e1,q4,cond_true,decide_true,Option.bind_some,List.length_singleton,e2,e3]⟩
   ·exact .inr ⟨by rw [en2S,q1]; rfl,c1,e,q,_,he,by simp only [e1,q4,cond_true,decide_true,Option.bind_some,List.length_singleton,e2,e3]; rfl⟩
  ·have e1:decide ((k:Int)<(n:Int))=true := by simp; omega
   have e2:(l.length+1≤maxLen∧(l.length+1) * 96≤140737488355328)=True := eq_true ⟨Nat.le_trans (show l.length+1≤140737488355328 by omega) (by decide),by omega⟩
   have e3:IntKind.wrap .i64 ((k:Int)+1)=((k+1:Nat):Int) := by rw [wi64 (by omega) (by omega)]; omega
   exact ⟨_,by simp only [e1,p60_er (show 10<fu by omega),cond_true,decide_true,Option.bind_some,List.length_singleton,e2,e3]; rfl⟩
  ·rintro ⟨c2,w,x2,y2,i,g2,g3,_,_,g6⟩
   refine .inl ⟨c2,w,x2,y2,g2,g3,?_⟩
   rw [g6]
   simp only [loopO,Int.lt_irrefl,decide_false,cond_false,inrO,Option.map_some]
  ·rintro ⟨g2,c2,e,q,w,i,he,_,g6⟩
   refine .inr ⟨g2,c2,e,q,w,he,?_⟩
   rw [g6]
   simp only [loopO,Int.lt_irrefl,decide_false,cond_false,inrO,Option.map_some]
 ·obtain ⟨k,hk⟩:∃ k,fu=k+1 := ⟨fu-1,by omega⟩
  simp only [o1,hr,Option.bind_some,Option.bind_none]
  refine .inr ⟨rfl,c1,e,q,[],he,?_⟩
  rw [hk]
  simp only [loopO,Int.lt_irrefl,decide_false,cond_false,inrO,Option.map_some]
end Go.Proofs.YtahamggipcikgaaDoor
namespace Go.Proofs.YtahamggipcikgaaDoor
open Go.RowKit
variable {fu:Nat}
abbrev MZ := Int×Int×Int×Int×Int×Int×List EN×Int×Bool×Int×List Int×List Int×List Int×Bool×Unit
def isZ (z:MZ):Bool := isBq (0,z.1,z.2.1,z.2.2.1,z.2.2.2.1,z.2.2.2.2.1,z.2.2.2.2.2.1,z.2.2.2.2.2.2.1,z.2.2.2.2.2.2.2.1,z.2.2.2.2.2.2.2.2.1,z.2.2.2.2.2.2.2.2.2.1,(z.2.2.2.2.2.2.2.2.2.2.1,z.2.2.2.2.2.2.2.2.2.2.2.1),z.2.2.2.2.2.2.2.2.2.2.2.2.1,z.2.2.2.2.2.2.2.2.2.2.2.2.2.1)
theorem q32_is (z:MZ):p32 fu (z,())=some ((),isZ z) := isBq_is fu (0,z.1,z.2.1,z.2.2.1,z.2.2.2.1,z.2.2.2.2.1,z.2.2.2.2.2.1,z.2.2.2.2.2.2.1,z.2.2.2.2.2.2.2.1,z.2.2.2.2.2.2.2.2.1,z.2.2.2.2.2.2.2.2.2.1,(z.2.2.2.2.2.2.2.2.2.2.1,z.2.2.2.2.2.2.2.2.2.2.2.1),z.2.2.2.2.2.2.2.2.2.2.2.2.1,z.2.2.2.2.2.2.2.2.2.2.2.2.2.1)
theorem q15_is (n:Int):p15 fu (n,())=some ((),nodeS n) := by
 unfold p15 nodeS
 dsimp only
 cases decide (n≥1) <;> rfl
theorem q43_is (n:Int):p43 fu (n,())=some ((),kindS n) := by
 unfold p43 kindS
 dsimp only
 cases decide (n≥1) <;> rfl
theorem q18_er {a:List Int} {c e q k:Int}:p18_1 fu (stE a c e q,k,())=some ((stE a c e q,(),()),()) := by
 unfold p18_1
 simp only [cond_true,dfu,p35_er,Option.bind_some,decide_true]
theorem q18_ok {a:List Int} {c x y k:Int} (hk:k ≠ 0):p18_1 fu (stO a c x y,k,())=some ((stE a c k c,(),()),()) := by
 unfold p18_1
 simp only [cond_true,cond_false,dfp,p35_ok hk,Option.bind_some,decide_true]
def btS (a:List Int) (c:Nat):Option (Nat×MZ) := (boolS a c).bind fun r0=>bif r0.2 then
  (uS a r0.1).bind fun r1=>(uS a r1.1).bind fun r2=>some (r2.1,(6,0,0,r1.2,r2.2,0,[],0,false,0,[],[],[],false,()))
 else (uS a r0.1).bind fun r1=>(uS a r1.1).bind fun r2=>(uS a r2.1).bind fun r3=>(uS a r3.1).bind fun r4=>some (r4.1,(5,0,0,r1.2,r2.2,r3.2,[],r4.2,false,0,[],[],[],false,()))
theorem p20_er {a:List Int} {c e q:Int}:p20 fu (stE a c e q,())=some ((stE a c e q,(),()),(5,0,0,0,0,0,[],0,false,0,[],[],[],false,())) := by
 unfold p20
 simp only [cond_true,cond_false,dfu,p38_er,p19_er,Option.bind_some,decide_true]
theorem p20P {a:List Int} {c:Nat} {x y:Int} (h:okA fu a) (hc:c≤a.length):PE a (btS a c) (p20 fu (stO a c x y,())) := by
 unfold btS p20
 simp only [decide_true,cond_true,cond_false,dfp]
 rcases p38P (x := 0) (y := 0) h hc with ⟨c0,v0,x0,y0,hr0,h0,g0,o0⟩ | ⟨hr0,c0,e,q,he,o0⟩
 rotate_left
 ·simp only [o0,hr0,Option.bind_some,Option.bind_none,p19_er,cond_false]
  exact .inr ⟨rfl,_,_,_,_,he,rfl⟩
 simp only [o0,hr0,Option.bind_some]
 cases v0 with
 | true =>
  simp only [cond_true]
  rcases p19P (x := x0) (y := y0) h h0 with ⟨c1,v1,x1,y1,hr1,h1,g1,o1⟩ | ⟨hr1,c1,e,q,he,o1⟩
  rotate_left
  ·simp only [o1,hr1,Option.bind_some,Option.bind_none,p19_er]
   exact .inr ⟨rfl,_,_,_,_,he,rfl⟩
  simp only [o1,hr1,Option.bind_some]
  rcases p19P (x := x1) (y := y1) h h1 with ⟨c2,v2,x2,y2,hr2,h2,g2,o2⟩ | ⟨hr2,c2,e,q,he,o2⟩
  rotate_left
  ·simp only [o2,hr2,Option.bind_some,Option.bind_none]
   exact .inr ⟨rfl,_,_,_,_,he,rfl⟩
  simp only [o2,hr2,Option.bind_some]
  exact .inl ⟨_,_,_,_,rfl,h2,rfl⟩
 | false =>
  simp only [cond_false]
  rcases p19P (x := x0) (y := y0) h h0 with ⟨c1,v1,x1,y1,hr1,h1,g1,o1⟩ | ⟨hr1,c1,e,q,he,o1⟩
  rotate_left
  ·simp only [o1,hr1,Option.bind_some,Option.bind_none,p19_er]
   exact .inr ⟨rfl,_,_,_,_,he,rfl⟩
  simp only [o1,hr1,Option.bind_some]
  rcases p19P (x := x1) (y := y1) h h1 with ⟨c2,v2,x2,y2,hr2,h2,g2,o2⟩ | ⟨hr2,c2,e,q,he,o2⟩
  rotate_left
  ·simp only [o2,hr2,Option.bind_some,Option.bind_none,p19_er]
   exact .inr ⟨rfl,_,_,_,_,he,rfl⟩
  simp only [o2,hr2,Option.bind_some]
  rcases p19P (x := x2) (y := y2) h h2 with ⟨c3,v3,x3,y3,hr3,h3,g3,o3⟩ | ⟨hr3,c3,e,q,he,o3⟩
  rotate_left
  ·simp only [o3,hr3,Option.bind_some,Option.bind_none,p19_er]
   exact .inr ⟨rfl,_,_,_,_,he,rfl⟩
  simp only [o3,hr3,Option.bind_some]
  rcases p19P (x := x3) (y := y3) h h3 with ⟨c4,v4,x4,y4,hr4,h4,g4,o4⟩ | ⟨hr4,c4,e,q,he,o4⟩
  rotate_left
  ·simp only [o4,hr4,Option.bind_some,Option.bind_none]
   exact .inr ⟨rfl,_,_,_,_,he,rfl⟩
  simp only [o4,hr4,Option.bind_some]
  exact .inl ⟨_,_,_,_,rfl,h4,rfl⟩
theorem tri {α:Type} (b c:Bool) (x:α):(bif !b then x else bif c then x else x)=x := by cases b <;> cases c <;> rfl
def mgE (c:Nat) (z:MZ):Option (Nat×MZ) := bif kindS z.1 && !isZ z then some (c,z) else none
def mgS (a:List Int) (c:Nat):Option (Nat×MZ) :=
 (iS a c).bind fun r0=>(uS a r0.1).bind fun r1=>(uS a r1.1).bind fun r2=>(uS a r2.1).bind fun r3=>(listS en2S 8 a r3.1).bind fun r4=>(uS a r4.1).bind fun r5=>(boolS a r5.1).bind fun r6=>(uS a r6.1).bind fun r7=>(cfS a r7.1).bind fun r8=>(bytS 262144 a r8.1).bind fun r9=>(boolS a r9.1).bind fun r10 =>
  mgE r10.1 (r0.2,0,0,r1.2,r2.2,r3.2,r4.2,r5.2,r6.2,r7.2,r8.2.1,r8.2.2.1,r9.2,r10.2,())
theorem p21_er {a:List Int} {c e q:Int} (hf:10<fu):∃ z,p21 fu (stE a c e q,())=some ((stE a c e q,(),()),z) := by
 refine ⟨(0,0,0,0,0,0,[],0,false,0,[],[],[],false,()),?_⟩
 unfold p21
 simp only [cond_true,dfu,p39_er,p19_er,p40_er hf,p38_er,p41_er hf,p42_er,q43_is,q32_is,q18_er,tri,Option.bind_some,decide_true]
theorem p21P {a:List Int} {c:Nat} {x y:Int} (h:okA fu a) (hc:c≤a.length) (hf:4194304<fu):PE a (mgS a c) (p21 fu (stO a c x y,())) := by
 have hf':10<fu := by omega
 unfold mgS p21
 simp only [decide_true,cond_true,cond_false,dfp,q43_is,q32_is,Option.bind_some]
 rcases p39P (x := 0) (y := 0) h hc with ⟨c0,v0,x0,y0,hr0,h0,g0,o0⟩ | ⟨hr0,c0,e,q,he,o0⟩
 rotate_left
 ·simp only [o0,hr0,Option.bind_some,Option.bind_none,p19_er,p40_er hf',p38_er,p41_er hf',p42_er,q18_er,tri]
  exact .inr ⟨rfl,_,_,_,_,he,rfl⟩
 simp only [o0,hr0,Option.bind_some]
 rcases p19P (x := x0) (y := y0) h h0 with ⟨c1,v1,x1,y1,hr1,h1,g1,o1⟩ | ⟨hr1,c1,e,q,he,o1⟩
 rotate_left
 ·simp only [o1,hr1,Option.bind_some,Option.bind_none,p19_er,p40_er hf',p38_er,p41_er hf',p42_er,q18_er,tri]
  exact .inr ⟨rfl,_,_,_,_,he,rfl⟩
 simp only [o1,hr1,Option.bind_some]
 rcases p19P (x := x1) (y := y1) h h1 with ⟨c2,v2,x2,y2,hr2,h2,g2,o2⟩ | ⟨hr2,c2,e,q,he,o2⟩
 rotate_left
 ·simp only [o2,hr2,Option.bind_some,Option.bind_none,p19_er,p40_er hf',p38_er,p41_er hf',p42_er,q18_er,tri]
  exact .inr ⟨rfl,_,_,_,_,he,rfl⟩
 simp only [o2,hr2,Option.bind_some]
 rcases p19P (x := x2) (y := y2) h h2 with ⟨c3,v3,x3,y3,hr3,h3,g3,o3⟩ | ⟨hr3,c3,e,q,he,o3⟩
 rotate_left
 ·simp only [o3,hr3,Option.bind_some,Option.bind_none,p19_er,p40_er hf',p38_er,p41_er hf',p42_er,q18_er,tri]
  exact .inr ⟨rfl,_,_,_,_,he,rfl⟩
 simp only [o3,hr3,Option.bind_some]
 rcases p40P (x := x3) (y := y3) h h3 hf with ⟨c4,v4,x4,y4,hr4,h4,o4⟩ | ⟨hr4,c4,e,q,d,he,o4⟩
 rotate_left
 ·simp only [o4,hr4,Option.bind_some,Option.bind_none,p19_er,p38_er,p41_er hf',p42_er,q18_er,tri]
  exact .inr ⟨rfl,_,_,_,_,he,rfl⟩
 simp only [o4,hr4,Option.bind_some]
 rcases p19P (x := x4) (y := y4) h h4 with ⟨c5,v5,x5,y5,hr5,h5,g5,o5⟩ | ⟨hr5,c5,e,q,he,o5⟩
 rotate_left
 ·simp only [o5,hr5,Option.bind_some,Option.bind_none,p19_er,p38_er,p41_er hf',p42_er,q18_er,tri]
  exact .inr ⟨rfl,_,_,_,_,he,rfl⟩
 simp only [o5,hr5,Option.bind_some]
 rcases p38P (x := x5) (y := y5) h h5 with ⟨c6,v6,x6,y6,hr6,h6,g6,o6⟩ | ⟨hr6,c6,e,q,he,o6⟩
 rotate_left
 ·simp only [o6,hr6,Option.bind_some,Option.bind_none,p19_er,p38_er,p41_er hf',p42_er,q18_er,tri]
  exact .inr ⟨rfl,_,_,_,_,he,rfl⟩
 simp only [o6,hr6,Option.bind_some]
 rcases p19P (x := x6) (y := y6) h h6 with ⟨c7,v7,x7,y7,hr7,h7,g7,o7⟩ | ⟨hr7,c7,e,q,he,o7⟩
 rotate_left
 ·simp only [o7,hr7,Option.bind_some,Option.bind_none,p38_er,p41_er hf',p42_er,q18_er,tri]
  exact .inr ⟨rfl,_,_,_,_,he,rfl⟩
 simp only [o7,hr7,Option.bind_some]
 rcases p41P (x := x7) (y := y7) h h7 hf with ⟨c8,⟨v8,w8,⟨⟩⟩,x8,y8,hr8,h8,o8⟩ | ⟨hr8,c8,e,q,⟨d,d2,⟨⟩⟩,he,o8⟩
 rotate_left
 ·simp only [o8,hr8,Option.bind_some,Option.bind_none,p38_er,p42_er,q18_er,tri]
  exact .inr ⟨rfl,_,_,_,_,he,rfl⟩
 simp only [o8,hr8,Option.bind_some]
 rcases p42P (x := x8) (y := y8) h h8 i262144 with ⟨c9,v9,x9,y9,hr9,h9,g9,o9⟩ | ⟨hr9,c9,e,q,he,o9⟩
 rotate_left
 ·simp only [o9,hr9,Option.bind_some,Option.bind_none,p38_er,q18_er,tri]
  exact .inr ⟨rfl,_,_,_,_,he,rfl⟩
 simp only [o9,hr9,Option.bind_some]
 rcases p38P (x := x9) (y := y9) h h9 with ⟨c10,v10,x10,y10,hr10,h10,g10,o10⟩ | ⟨hr10,c10,e,q,he,o10⟩
 rotate_left
 ·simp only [o10,hr10,Option.bind_some,Option.bind_none,q18_er,tri]
  exact .inr ⟨rfl,_,_,_,_,he,rfl⟩
 simp only [o10,hr10,Option.bind_some]
 simp only [mgE]
 cases kindS v0 with
 | false =>
  simp only [Bool.not_false,cond_true,Bool.false_and,cond_false,q18_ok (show (111:Int) ≠ 0 by decide),Option.bind_some]
  exact .inr ⟨rfl,_,_,_,_,by decide,rfl⟩
 | true =>
  simp only [Bool.not_true,cond_false,Bool.true_and]
  cases isZ (v0,0,0,v1,v2,v3,v4,v5,v6,v7,v8,w8,v9,v10,()) with
  | true =>
   simp only [Bool.not_true,cond_true,cond_false,q18_ok (show (111:Int) ≠ 0 by decide),Option.bind_some]
   exact .inr ⟨rfl,_,_,_,_,by decide,rfl⟩
  | false =>
   simp only [Bool.not_false,cond_true,cond_false]
   exact .inl ⟨_,_,_,_,rfl,h10,rfl⟩
end Go.Proofs.YtahamggipcikgaaDoor
namespace Go.Proofs.YtahamggipcikgaaDoor
open Go.RowKit
variable {fu:Nat}
def okP (fr to kd:Int):Bool := (kd==1||kd==2) && (nodeS fr && (nodeS to && !(fr==to)))
theorem first_is (a c f:Int):(bif (f != (1:Int)) then bif (f != (2:Int)) then inrO (some ((),(([]:List WR),(1:Int),()))) else bif !nodeS a then inrO (some ((),([],(1:Int),()))) else bif !nodeS c then inrO (some ((),([],(1:Int),()))) else bif (a==c) then inrO (some ((),([],(1:Int),()))) else some (.inl ((),()))
  else bif !nodeS a then inrO (some ((),([],(1:Int),()))) else bif !nodeS c then inrO (some ((),([],(1:Int),()))) else bif (a==c) then inrO (some ((),([],(1:Int),()))) else some (.inl ((),())))=bif okP a c f then (some (.inl ((),())):Option ((Unit×Unit) ⊕ (Unit×(List WR×(Int×Unit))))) else inrO (some ((),([],(1:Int),()))) := by
 unfold okP bne
 generalize (f==(1:Int))=b1
 generalize (f==(2:Int))=b2
 generalize nodeS a=b3
 generalize nodeS c=b4
 generalize (a==c)=b5
 cases b1 <;> cases b2 <;> cases b3 <;> cases b4 <;> cases b5 <;> rfl
def mkW (g fr to:Int) (z:MZ):WR := (g,z.1,fr,to,z.2.2.2.1,z.2.2.2.2.1,z.2.2.2.2.2.1,z.2.2.2.2.2.2.1,z.2.2.2.2.2.2.2.1,z.2.2.2.2.2.2.2.2.1,z.2.2.2.2.2.2.2.2.2.1,(z.2.2.2.2.2.2.2.2.2.2.1,z.2.2.2.2.2.2.2.2.2.2.2.1),z.2.2.2.2.2.2.2.2.2.2.2.2.1,z.2.2.2.2.2.2.2.2.2.2.2.2.2.1)
def wrS (fr to kd:Int) (a:List Int) (c:Nat):Option (Nat×WR) := (uS a c).bind fun r=>(bif kd==2 then btS a r.1 else mgS a r.1).bind fun s=>some (s.1,mkW r.2 fr to s.2)
def opnS (fr to kd:Int) (a:List Int):Option (List WR) := bif okP fr to kd then (cntS 4096 a 0).bind fun r=>if r.2=0 then none else (repS (wrS fr to kd) a r.2.toNat [] r.1).bind fun s=>if s.1<a.length then none else some s.2 else none
section
variable {α S R:Type} {f:S→Option (S ⊕ R)} {a:List Int} {Sx:List Int→Nat→Option (Nat×α)} {n:Nat}
theorem list_brk (mk:Nat→List α→PT→S) (brk:List α→PT→R)
  (hok:∀ k l (c:Nat) x y,k<n→l.length=k→c≤a.length→(∃ c1 v x1 y1,Sx a c=some (c1,v)∧c1≤a.length∧f (mk k l (stO a c x y))=some (.inl (mk (k+1) (l ++ [v]) (stO a c1 x1 y1)))) ∨ (Sx a c=none ∧ ∃ c1 e q,e ≠ 0∧f (mk k l (stO a c x y))=some (.inr (brk l (stE a c1 e q)))))
  (hend:∀ l (c:Nat) x y,l.length=n→f (mk n l (stO a c x y))=some (.inr (brk l (stO a c x y)))):∀ m k l (c:Nat) x y j,k+m=n→l.length=k→c≤a.length→m<j →
   (∃ (c1:Nat) (v:List α) (x1 y1:Int),repS Sx a m l c=some (c1,v)∧c1≤a.length∧v.length=n∧loopO j f (mk k l (stO a c x y))=some (brk v (stO a c1 x1 y1))) ∨
    (repS Sx a m l c=none ∧ ∃ (c1 e q:Int) (v:List α),e ≠ 0∧loopO j f (mk k l (stO a c x y))=some (brk v (stE a c1 e q)))
 | 0,k,l,c,x,y,j,hk,hl,hc,hj=>by
  obtain ⟨j,rfl⟩:∃ i,j=i+1 := ⟨j-1,by omega⟩
  have:k=n := by omega
  subst this
  exact .inl ⟨c,l,x,y,rfl,hc,hl,by simp only [loopO,hend l c x y hl]⟩
 | m+1,k,l,c,x,y,j,hk,hl,hc,hj=>by
  obtain ⟨j,rfl⟩:∃ i,j=i+1 := ⟨j-1,by omega⟩
  rcases hok k l c x y (by omega) hl hc with ⟨c1,v,x1,y1,h1,h2,h4⟩ | ⟨h1,c1,e,q,he,h4⟩
  ·have := list_brk mk brk hok hend m (k+1) (l ++ [v]) c1 x1 y1 j (by omega) (by simp [hl]) h2 (by omega)
   have e:loopO (j+1) f (mk k l (stO a c x y))=loopO j f (mk (k+1) (l ++ [v]) (stO a c1 x1 y1)) := by simp only [loopO,h4]
   rw [e]
   simp only [repS,h1,Option.bind_some]
   exact this
  ·exact .inr ⟨by simp only [repS,h1,Option.bind_none],c1,e,q,l,he,by simp only [loopO,h4]⟩
theorem list_brka {o:Option R} {fu:Nat} {c:Nat} {x y:Int} (mk:Nat→List α→PT→S) (brk:List α→PT→R) (ho:loopO fu f (mk 0 [] (stO a c x y))=o)
  (hok:∀ k l (c:Nat) x y,k<n→l.length=k→c≤a.length→(∃ c1 v x1 y1,Sx a c=some (c1,v)∧c1≤a.length∧f (mk k l (stO a c x y))=some (.inl (mk (k+1) (l ++ [v]) (stO a c1 x1 y1)))) ∨ (Sx a c=none ∧ ∃ c1 e q,e ≠ 0∧f (mk k l (stO a c x y))=some (.inr (brk l (stE a c1 e q)))))
  (hend:∀ l (c:Nat) x y,l.length=n→f (mk n l (stO a c x y))=some (.inr (brk l (stO a c x y)))) (hc:c≤a.length) (hn:n<fu) :
   (∃ (c1:Nat) (v:List α) (x1 y1:Int),repS Sx a n [] c=some (c1,v)∧c1≤a.length∧v.length=n∧o=some (brk v (stO a c1 x1 y1))) ∨
    (repS Sx a n [] c=none ∧ ∃ (c1 e q:Int) (v:List α),e ≠ 0∧o=some (brk v (stE a c1 e q))) := by
 subst ho
 exact list_brk mk brk hok hend n 0 [] c x y fu (by omega) rfl hc hn
end
theorem p16_is {a:List Int} (h:a.length≤140737488355328):p16 fu (a,())=some ((),(a,0,(),())) := by
 unfold p16
 simp only [fits2 h,decide_true,cond_true]
theorem p7_is {a:List Int} (h:okA fu a) (hf:4194304<fu) (fr to kd:Int) :
  (∃ l,opnS fr to kd a=some l∧p7 fu ((fr,to,kd,a,()),())=some ((),l,0,())) ∨ (opnS fr to kd a=none ∧ ∃ e:Int,e ≠ 0∧p7 fu ((fr,to,kd,a,()),())=some ((),[],e,())) := by
 have hf':10<fu := by omega
 obtain ⟨kk,hkk⟩:∃ k,fu=k+1 := ⟨fu-1,by omega⟩
 have hn := h.hn
 unfold p7
 simp only [q15_is,Option.bind_some]
 rw [first_is]
 unfold opnS
 cases hok:okP fr to kd with
 | false =>
  simp only [cond_false]
  exact .inr ⟨trivial,1,by decide,rfl⟩
 | true =>
 simp only [cond_true,orK_inl,p16_is h.hn,Option.bind_some,decide_true]
 have hcnt := p17N (c := 0) (j := 4096) h (Nat.zero_le _) i4096
 change PR a 0 (cntS 4096 a 0) _ (p17 fu ((a,(0:Int),(),()),4096,())) at hcnt
 have e00:((0:Int)==0)=true := rfl
 rcases hcnt with ⟨c1,v,x1,y1,hr,h1,g1,o1⟩ | ⟨hr,c1,e,q,he,o1⟩
 ·obtain ⟨n,rfl,hn',hcn⟩ := isC.nat hr g1
  simp only [o1,hr,Option.bind_some,Int.toNat_natCast]
  by_cases hn0:n=0
  ·subst hn0
   have e0:(((0:Nat):Int)==0)=true := rfl
   simp only [e0,cond_true,q18_ok (show (111:Int) ≠ 0 by decide),Option.bind_some,orK_inl]
   refine .inr ⟨by first | exact trivial | rfl,111,by decide,?_⟩
   rw [hkk]
   simp only [loopO,Int.natCast_zero,Int.lt_irrefl,decide_false,cond_false,inrO,Option.map_some,orK_inl,p23_er (show (111:Int) ≠ 0 by decide),Option.bind_some]
   rfl
  ·have e0:((n:Int)==0)=false := by simp; omega
   have e9:((n:Int)=0)=False := by simp; omega
   simp only [e0,cond_false,orK_inl,e9,if_false]
   generalize hL:loopO fu _ _=o
   refine Or.elim (list_brka (n := n) (Sx := wrS fr to kd) (fun k l st=>((l,(k:Int),()),(st,()))) (fun l st=>(Sum.inl ((l,()),(st,())):_ ⊕ _)) hL (fun k l c x y hk hl hc => ?_) (fun l c x y hl => ?_) h1 (by omega)) (fun key => ?_) (fun key => ?_)
   rotate_left 2
   ·obtain ⟨c2,w,x2,y2,q1,q2,q3,q4⟩ := key
    rw [q1]
    subst q4
    simp only [Option.bind_some,orK_inl,p23_ok]
    by_cases hc2:c2<a.length
    ·have hc3:(c2:Int)<(a.length:Int) := by omega
     rw [if_pos hc2,if_pos hc3]
     exact .inr ⟨rfl,15,by decide,rfl⟩
    ·have hc3:¬ (c2:Int)<(a.length:Int) := by omega
     rw [if_neg hc2,if_neg hc3]
     exact .inl ⟨_,rfl,rfl⟩
   ·obtain ⟨q1,c2,e,q,w,he,q4⟩ := key
    rw [q1]
    subst q4
    have g:(e != 0)=true := bne_iff_ne.2 he
    simp only [Option.bind_none,orK_inl,p23_er he,Option.bind_some,g,cond_true]
    exact .inr ⟨by first | exact trivial | rfl,e,he,rfl⟩
   ·have e1:decide ((k:Int)<(n:Int))=true := by simp; omega
    have e2:(l.length+1≤maxLen∧(l.length+1) * 184≤140737488355328)=True := eq_true ⟨Nat.le_trans (show l.length+1≤140737488355328 by omega) (by decide),by omega⟩
    have e3:IntKind.wrap .i64 ((k:Int)+1)=((k+1:Nat):Int) := by rw [wi64 (by omega) (by omega)]; omega
    simp only [e1,cond_true]
    unfold wrS
    rcases p19P (x := x) (y := y) h hc with ⟨d1,v1,x3,y3,r1,r2,_,r4⟩ | ⟨r1,d1,e,q,he,r4⟩
    ·simp only [r1,r4,Option.bind_some]
     cases (kd==2) with
     | true =>
      simp only [cond_true]
      rcases p20P (x := x3) (y := y3) h r2 with ⟨d2,⟨z0,z1,z2,z3,z4,z5,z6,z7,z8,z9,za,zb,zc,zd,⟨⟩⟩,x4,y4,s1,s2,s4⟩ | ⟨s1,d2,e,q,z,he,s4⟩
      ·simp only [s1,s4,Option.bind_some,orK_inl,p22_ok,bne_self_eq_false,cond_false,List.length_singleton,e2,decide_true,cond_true,e3]
       exact .inl ⟨_,_,_,_,rfl,s2,rfl⟩
      ·have g:(e != 0)=true := bne_iff_ne.2 he
       simp only [s1,s4,Option.bind_some,Option.bind_none,orK_inl,p22_er,g,cond_true]
       exact .inr ⟨trivial,_,_,_,he,rfl⟩
     | false =>
      simp only [cond_false]
      rcases p21P (x := x3) (y := y3) h r2 hf with ⟨d2,⟨z0,z1,z2,z3,z4,z5,z6,z7,z8,z9,za,zb,zc,zd,⟨⟩⟩,x4,y4,s1,s2,s4⟩ | ⟨s1,d2,e,q,z,he,s4⟩
      ·simp only [s1,s4,Option.bind_some,orK_inl,p22_ok,bne_self_eq_false,cond_false,List.length_singleton,e2,decide_true,cond_true,e3]
       exact .inl ⟨_,_,_,_,rfl,s2,rfl⟩
      ·have g:(e != 0)=true := bne_iff_ne.2 he
       simp only [s1,s4,Option.bind_some,Option.bind_none,cond_true,orK_inl,p22_er,g]
       exact .inr ⟨trivial,_,_,_,he,rfl⟩
    ·have g:(e != 0)=true := bne_iff_ne.2 he
     obtain ⟨z,hz⟩ := p21_er (a := a) (c := d1) (e := e) (q := q) hf'
     simp only [r1,r4,Option.bind_some,Option.bind_none]
     cases (kd==2) with
     | true =>
      simp only [cond_true,p20_er,Option.bind_some,orK_inl,p22_er,g]
      exact .inr ⟨trivial,_,_,_,he,rfl⟩
     | false =>
      simp only [cond_false,hz,Option.bind_some,cond_true,orK_inl,p22_er,g]
      exact .inr ⟨trivial,_,_,_,he,rfl⟩
   ·simp only [Int.lt_irrefl,decide_false,cond_false,inrO,Option.map_some]
 ·simp only [o1,hr,Option.bind_some,Option.bind_none,e00,cond_true,q18_er,orK_inl]
  refine .inr ⟨by first | exact trivial | rfl,e,he,?_⟩
  have g:(e != 0)=true := bne_iff_ne.2 he
  rw [hkk]
  simp only [loopO,Int.lt_irrefl,decide_false,cond_false,inrO,Option.map_some,orK_inl,p23_er he,Option.bind_some,g,cond_true]
end Go.Proofs.YtahamggipcikgaaDoor
namespace Go.Proofs.YtahamggipcikgaaDoor
open Go.RowKit
variable {fu:Nat}
def ndW (l:List Int):Prop := (∀ x ∈ l,isI x)∧(l.length:Int)≤7
theorem Cn_kd:Cz kdS iB fun k=>isI k∧1≤k∧k≤3 := by
 intro a c c' v hb h
 unfold kdS at h
 obtain ⟨⟨c0,v0⟩,e0,h⟩ := Option.bind_eq_some_iff.1 h
 dsimp only at h
 split at h
 ·cases h
 ·rename_i hc
  injection h with h
  injection h with h1 h2
  subst h1 h2
  obtain ⟨g,e⟩ := Cn_i _ _ _ _ hb e0
  exact ⟨⟨g,by omega,by omega⟩,e⟩
theorem Cn_nd:Cz (listS iS 7) nB ndW := Cn_list Cn_i
theorem Cn_cf:Cz cfS (fun x=>cB x.1 x.2.1) fun x=>ndW x.1∧ndW x.2.1 := by
 intro a c c' v hb h
 unfold cfS at h
 obtain ⟨⟨c0,v0⟩,e0,h⟩ := Option.bind_eq_some_iff.1 h
 obtain ⟨⟨c1,v1⟩,e1,h⟩ := Option.bind_eq_some_iff.1 h
 injection h with h
 injection h with h1 h2
 subst h1 h2
 obtain ⟨g0,d0⟩ := Cn_nd _ _ _ _ hb e0
 obtain ⟨g1,d1⟩ := Cn_nd _ _ _ _ hb e1
 dsimp only at d1
 exact ⟨⟨g0,g1⟩,by rw [d0,d1]; simp only [cB,List.append_assoc]⟩
structure enW (y:EN):Prop where
 i:isU y.1
 t:isU y.2.1
 k:isI y.2.2.1
 k1:(1:Int)≤y.2.2.1
 k3:(y.2.2.1:Int)≤3
 d:(List.length y.2.2.2.1:Int)≤262144
 db:byt y.2.2.2.1
 v:ndW y.2.2.2.2.1
 l:ndW y.2.2.2.2.2
theorem Cn_en:Cz en2S Bq.entB enW := by
 intro a c c' v hb h
 unfold en2S enS at h
 obtain ⟨⟨cz,vz⟩,ez,h⟩ := Option.bind_eq_some_iff.1 h
 injection h with h
 injection h with h1 h2
 subst h1 h2
 obtain ⟨⟨c0,v0⟩,e0,h⟩ := Option.bind_eq_some_iff.1 ez
 obtain ⟨⟨c1,v1⟩,e1,h⟩ := Option.bind_eq_some_iff.1 h
 obtain ⟨⟨c2,v2⟩,e2,h⟩ := Option.bind_eq_some_iff.1 h
 obtain ⟨⟨c3,v3⟩,e3,h⟩ := Option.bind_eq_some_iff.1 h
 obtain ⟨⟨c4,v4⟩,e4,h⟩ := Option.bind_eq_some_iff.1 h
 injection h with h
 injection h with h1 h2
 subst h1 h2
 obtain ⟨g0,d0⟩ := Cn_u _ _ _ _ hb e0
 obtain ⟨g1,d1⟩ := Cn_u _ _ _ _ hb e1
 obtain ⟨⟨g2,g3,g4⟩,d2⟩ := Cn_kd _ _ _ _ hb e2
 obtain ⟨⟨g5,g6⟩,d3⟩ := Cn_b _ _ _ _ hb e3
 obtain ⟨⟨g7,g8⟩,d4⟩ := Cn_cf _ _ _ _ hb e4
 dsimp only at d1 d2 d3 d4
 exact ⟨⟨g0,g1,g2,g3,g4,g5,g6,g7,g8⟩,by rw [d0,d1,d2,d3,d4]; simp only [Bq.entB,eB,List.append_assoc]⟩
structure msW (x:WR):Prop where
 g:isU x.1
 k:isI x.2.1
 kk:kindS x.2.1=true
 t:isU x.2.2.2.2.1
 i:isU x.2.2.2.2.2.1
 l:isU x.2.2.2.2.2.2.1
 e:∀ y ∈ (x.2.2.2.2.2.2.2.1:List EN),enW y
 el:(List.length x.2.2.2.2.2.2.2.1:Int)≤8
 c:isU x.2.2.2.2.2.2.2.2.1
 h:isU x.2.2.2.2.2.2.2.2.2.2.1
 cv:ndW x.2.2.2.2.2.2.2.2.2.2.2.1.1
 cl:ndW x.2.2.2.2.2.2.2.2.2.2.2.1.2
 d:(List.length x.2.2.2.2.2.2.2.2.2.2.2.2.1:Int)≤262144
 db:byt x.2.2.2.2.2.2.2.2.2.2.2.2.1
theorem nd0:ndW [] := ⟨fun x hx=>by simp at hx,by decide⟩
theorem isU0:isU 0 := ⟨by decide,by decide⟩
theorem Cn_bt {g fr to:Int} (hg:isU g):∀ (a:List Int) (c c':Nat) (z:MZ),byt a→btS a c=some (c',z)→(msW (mkW g fr to z)∧isBq (mkW g fr to z)=true)∧a.drop c=Bq.beatB (mkW g fr to z) ++ a.drop c' := by
 intro a c c' z hb h
 unfold btS at h
 obtain ⟨⟨c0,v0⟩,e0,h⟩ := Option.bind_eq_some_iff.1 h
 obtain ⟨_,d0⟩ := Cn_o _ _ _ _ hb e0
 cases v0 with
 | true =>
  simp only [cond_true] at h
  obtain ⟨⟨c1,v1⟩,e1,h⟩ := Option.bind_eq_some_iff.1 h
  obtain ⟨⟨c2,v2⟩,e2,h⟩ := Option.bind_eq_some_iff.1 h
  injection h with h
  injection h with h1 h2
  subst h1 h2
  obtain ⟨g1,d1⟩ := Cn_u _ _ _ _ hb e1
  obtain ⟨g2,d2⟩ := Cn_u _ _ _ _ hb e2
  dsimp only at d1 d2
  refine ⟨⟨⟨hg,(show isI 6 by unfold isI; decide),rfl,g1,g2,isU0,fun y hy=>by simp [mkW] at hy,by simp [mkW],isU0,isU0,nd0,nd0,by simp [mkW],byt_nil⟩,rfl⟩,?_⟩
  rw [d0,d1,d2]
  simp only [Bq.beatB,mkW,List.append_assoc]
  rfl
 | false =>
  simp only [cond_false] at h
  obtain ⟨⟨c1,v1⟩,e1,h⟩ := Option.bind_eq_some_iff.1 h
  obtain ⟨⟨c2,v2⟩,e2,h⟩ := Option.bind_eq_some_iff.1 h
  obtain ⟨⟨c3,v3⟩,e3,h⟩ := Option.bind_eq_some_iff.1 h
  obtain ⟨⟨c4,v4⟩,e4,h⟩ := Option.bind_eq_some_iff.1 h
  injection h with h
  injection h with h1 h2
  subst h1 h2
  obtain ⟨g1,d1⟩ := Cn_u _ _ _ _ hb e1
  obtain ⟨g2,d2⟩ := Cn_u _ _ _ _ hb e2
  obtain ⟨g3,d3⟩ := Cn_u _ _ _ _ hb e3
  obtain ⟨g4,d4⟩ := Cn_u _ _ _ _ hb e4
  dsimp only at d1 d2 d3 d4
  refine ⟨⟨⟨hg,(show isI 5 by unfold isI; decide),rfl,g1,g2,g3,fun y hy=>by simp [mkW] at hy,by simp [mkW],g4,isU0,nd0,nd0,by simp [mkW],byt_nil⟩,rfl⟩,?_⟩
  rw [d0,d1,d2,d3,d4]
  have e65:((5:Int)==6)=false := rfl
  simp only [Bq.beatB,mkW,e65,cond_false,List.append_assoc]
theorem Cn_mg {g fr to:Int} (hg:isU g):∀ (a:List Int) (c c':Nat) (z:MZ),byt a→mgS a c=some (c',z)→(msW (mkW g fr to z)∧isZ z=false)∧a.drop c=Bq.msgB (mkW g fr to z) ++ a.drop c' := by
 intro a c c' z hb h
 unfold mgS at h
 obtain ⟨⟨c0,v0⟩,e0,h⟩ := Option.bind_eq_some_iff.1 h
 obtain ⟨⟨c1,v1⟩,e1,h⟩ := Option.bind_eq_some_iff.1 h
 obtain ⟨⟨c2,v2⟩,e2,h⟩ := Option.bind_eq_some_iff.1 h
 obtain ⟨⟨c3,v3⟩,e3,h⟩ := Option.bind_eq_some_iff.1 h
 obtain ⟨⟨c4,v4⟩,e4,h⟩ := Option.bind_eq_some_iff.1 h
 obtain ⟨⟨c5,v5⟩,e5,h⟩ := Option.bind_eq_some_iff.1 h
 obtain ⟨⟨c6,v6⟩,e6,h⟩ := Option.bind_eq_some_iff.1 h
 obtain ⟨⟨c7,v7⟩,e7,h⟩ := Option.bind_eq_some_iff.1 h
 obtain ⟨⟨c8,v8⟩,e8,h⟩ := Option.bind_eq_some_iff.1 h
 obtain ⟨⟨c9,v9⟩,e9,h⟩ := Option.bind_eq_some_iff.1 h
 obtain ⟨⟨c10,v10⟩,e10,h⟩ := Option.bind_eq_some_iff.1 h
 unfold mgE at h
 dsimp only at h
 cases hk:kindS v0 with
 | false=>rw [hk] at h; cases h
 | true =>
 rw [hk] at h
 obtain ⟨g0,d0⟩ := Cn_i _ _ _ _ hb e0
 obtain ⟨g1,d1⟩ := Cn_u _ _ _ _ hb e1
 obtain ⟨g2,d2⟩ := Cn_u _ _ _ _ hb e2
 obtain ⟨g3,d3⟩ := Cn_u _ _ _ _ hb e3
 obtain ⟨⟨g4,g4'⟩,d4⟩ := Cn_list Cn_en _ _ _ _ hb e4
 obtain ⟨g5,d5⟩ := Cn_u _ _ _ _ hb e5
 obtain ⟨_,d6⟩ := Cn_o _ _ _ _ hb e6
 obtain ⟨g7,d7⟩ := Cn_u _ _ _ _ hb e7
 obtain ⟨⟨g8,g8'⟩,d8⟩ := Cn_cf _ _ _ _ hb e8
 obtain ⟨⟨g9,g9'⟩,d9⟩ := Cn_b _ _ _ _ hb e9
 obtain ⟨_,d10⟩ := Cn_o _ _ _ _ hb e10
 dsimp only at d1 d2 d3 d4 d5 d6 d7 d8 d9 d10
 generalize hz:((v0,0,0,v1,v2,v3,v4,v5,v6,v7,v8.1,v8.2.1,v9,v10,()):MZ)=zz at h
 cases hi:isZ zz with
 | true=>rw [hi] at h; cases h
 | false =>
 rw [hi] at h
 injection h with h
 injection h with h1 h2
 subst h1 h2 hz
 refine ⟨⟨⟨hg,g0,hk,g1,g2,g3,g4,g4',g5,g7,g8,g8',g9,g9'⟩,hi⟩,?_⟩
 rw [d0,d1,d2,d3,d4,d5,d6,d7,d8,d9,d10]
 simp only [Bq.msgB,mkW,lB,List.append_assoc]
def wrW (fr to kd:Int) (x:WR):Prop := msW x∧x.2.2.1=fr∧toq x=to∧kindq x=kd
theorem isZ_mk (g fr to:Int) (z:MZ):isBq (mkW g fr to z)=isZ z := by
 have h1 := isBq_is 0 (mkW g fr to z)
 have h2 := q32_is (fu := 0) z
 obtain ⟨k,a,b,r⟩ := z
 have h3:p32 0 ((k,a,b,r),())=Bq.p32 0 (msgZ (mkW g fr to (k,a,b,r)),()) := rfl
 rw [h1,h2] at h3
 exact (congrArg Prod.snd (Option.some.inj h3)).symm
theorem Cn_wr {fr to kd:Int} (hk:kd=1 ∨ kd=2):Cz (wrS fr to kd) (Bq.wireB kd) (wrW fr to kd) := by
 intro a c c' v hb h
 unfold wrS at h
 obtain ⟨⟨c0,g⟩,e0,h⟩ := Option.bind_eq_some_iff.1 h
 obtain ⟨⟨c1,z⟩,e1,h⟩ := Option.bind_eq_some_iff.1 h
 injection h with h
 injection h with h1 h2
 subst h1 h2
 obtain ⟨g0,d0⟩ := Cn_u _ _ _ _ hb e0
 rcases hk with rfl | rfl
 ·obtain ⟨⟨q1,q2⟩,q3⟩ := Cn_mg (fr := fr) (to := to) g0 _ _ _ _ hb e1
  refine ⟨⟨q1,rfl,rfl,by unfold kindq; rw [isZ_mk,q2]; rfl⟩,?_⟩
  dsimp only at q3
  rw [d0,q3]
  simp only [Bq.wireB,List.append_assoc]
  rfl
 ·obtain ⟨⟨q1,q2⟩,q3⟩ := Cn_bt (fr := fr) (to := to) g0 _ _ _ _ hb e1
  refine ⟨⟨q1,rfl,rfl,by unfold kindq; rw [q2]; rfl⟩,?_⟩
  dsimp only at q3
  rw [d0,q3]
  simp only [Bq.wireB,List.append_assoc]
  rfl
theorem okP_parts {fr to kd:Int} (h:okP fr to kd=true):(kd=1 ∨ kd=2)∧nodeS fr=true∧nodeS to=true∧fr ≠ to := by
 unfold okP at h
 simp only [Bool.and_eq_true,Bool.or_eq_true,beq_iff_eq,Bool.not_eq_true',beq_eq_false_iff_ne] at h
 exact ⟨h.1,h.2.1,h.2.2.1,h.2.2.2⟩
theorem open_canon {fr to kd:Int} {a:List Int} {l:List WR} (hb:byt a) (h:opnS fr to kd a=some l):okP fr to kd=true∧l ≠ []∧l.length≤4096∧(∀ x ∈ l,wrW fr to kd x)∧a=Bq.wrB kd l := by
 unfold opnS at h
 cases hok:okP fr to kd with
 | false=>rw [hok] at h; cases h
 | true =>
 rw [hok] at h
 simp only [cond_true] at h
 obtain ⟨⟨c0,n⟩,e0,h⟩ := Option.bind_eq_some_iff.1 h
 dsimp only at h
 split at h
 ·cases h
 ·rename_i hn0
  obtain ⟨⟨c1,w⟩,e1,h⟩ := Option.bind_eq_some_iff.1 h
  dsimp only at h
  split at h
  ·cases h
  ·rename_i hc1
   injection h with h
   subst h
   unfold cntS at e0
   obtain ⟨⟨c2,v2⟩,e2,h1⟩ := Option.bind_eq_some_iff.1 e0
   dsimp only at h1
   split at h1
   ·cases h1
   ·rename_i hc
    injection h1 with h1
    injection h1 with h4 h5
    subst h4 h5
    obtain ⟨g,e⟩ := Cn_u a 0 c2 v2 hb e2
    obtain ⟨n,rfl⟩ := Int.eq_ofNat_of_zero_le g.1
    obtain ⟨t,k2,k3,k4,k5⟩ := Cn_rep (Cn_wr (okP_parts hok).1) _ _ _ _ _ _ hb e1
    rw [List.nil_append] at k2
    subst k2
    rw [Int.toNat_natCast] at k3
    refine ⟨rfl,fun hn=>by rw [hn] at k3; simp at k3; omega,by omega,k4,?_⟩
    have d:a=a.drop 0 := rfl
    rw [d,e,k5,List.drop_eq_nil_of_le (by omega),List.append_nil]
    unfold Bq.wrB
    rw [k3]
end Go.Proofs.YtahamggipcikgaaDoor
namespace Go.Proofs.YtahamggipcikgaaDoor
open Go.RowKit
variable {fu:Nat}
abbrev EX (α:Type) := Except Int (Nat×α)
def bx {α β:Type} (r:EX α) (k:Nat×α→EX β):EX β := match r with
 | .ok v=>k v
 | .error e => .error e
theorem bx_ok {α β:Type} (v:Nat×α) (k:Nat×α→EX β):bx (.ok v) k=k v := rfl
theorem bx_er {α β:Type} (e:Int) (k:Nat×α→EX β):bx (.error e) k = .error e := rfl
def uX (a:List Int) (c:Nat):EX Int := if (numS 0 0 (a.drop c)).2.2=0 then .ok (c+(numS 0 0 (a.drop c)).2.1.toNat,(numS 0 0 (a.drop c)).1) else .error (numS 0 0 (a.drop c)).2.2
def iX (a:List Int) (c:Nat):EX Int := bx (uX a c) fun r => .ok (r.1,unzz r.2)
def cntX (m:Int) (a:List Int) (c:Nat):EX Int := bx (uX a c) fun r=>if m<0 ∨ r.2>m then .error 13 else if r.2>((a.length-r.1:Nat):Int) then .error 11 else .ok r
def bytX (m:Int) (a:List Int) (c:Nat):EX (List Int) := bx (cntX m a c) fun r => .ok (r.1+r.2.toNat,(a.drop r.1).take r.2.toNat)
def boolX (a:List Int) (c:Nat):EX Bool := if c<a.length then (if a.getD c 0≤1 then .ok (c+1,a.getD c 0==1) else .error 16) else .error 11
def PRX {α:Type} (a:List Int) (d:α) (r:EX α) (P:α→Prop) (o:Option ((PT×Unit×Unit)×α)):Prop :=
 (∃ (c:Nat) (v:α) (h i:Int),r = .ok (c,v)∧c≤a.length∧P v∧o=some ((stO a c h i,(),()),v)) ∨ (∃ e:Int,r = .error e ∧ ∃ c q:Int,e ≠ 0∧o=some ((stE a c e q,(),()),d))
theorem uX_cases {a:List Int} {c:Nat} (h:okA fu a) (hc:c≤a.length) :
  (∃ v k:Nat,numS 0 0 (a.drop c)=((v:Int),(k:Int),0)∧uX a c = .ok (c+k,(v:Int))∧c+k≤a.length∧isU (v:Int)) ∨ (∃ e:Int,e ≠ 0∧numS 0 0 (a.drop c)=(0,0,e)∧uX a c = .error e) := by
 rcases uS_cases h hc with ⟨v,k,h1,h2,h3,h4⟩ | ⟨e,h1,h2,h3⟩
 ·refine .inl ⟨v,k,h1,?_,h3,h4⟩
  unfold uX
  rw [h1,if_pos rfl]
  rfl
 ·refine .inr ⟨e,h1,h2,?_⟩
  unfold uX
  rw [h2,if_neg h1]
theorem p19X {a:List Int} {c:Nat} {x y:Int} (h:okA fu a) (hc:c≤a.length):PRX a 0 (uX a c) isU (p19_1 fu (stO a c x y,())) := by
 have e1:decide ((0:Int)≤(c:Int))=true := by simp
 have e2:decide (c≤a.length∧0+a.length≤a.length)=true := by simp; omega
 have e3:decide (c+(a.length-c)≤a.length)=true := by simp; omega
 have hl := h.hn
 rcases uX_cases h hc with ⟨v,k,hnum,hu,hk,hv⟩ | ⟨e,he,hnum,hu⟩
 ·have hw:IntKind.wrap .i64 ((c:Int)+(k:Int))=((c+k:Nat):Int) := by rw [wi64 (by omega) (by omega)]; omega
  refine .inl ⟨_,_,0,0,hu,hk,hv,?_⟩
  ·unfold p19_1
   simp only [cond_false,e1,Int.toNat_natCast,e2,e3,cond_true,decide_true]
   rw [sub_all hc,p37_any (h.dr c) (by rw [List.length_drop]; omega) h.hfu,hnum]
   simp only [Option.bind_some]
   rw [p18_ok]
   simp only [Option.bind_some,hw]
 ·have hw:IntKind.wrap .i64 ((c:Int)+0)=(c:Int) := by rw [wi64 (by omega) (by omega)]; omega
  refine .inr ⟨e,hu,c,c,he,?_⟩
  unfold p19_1
  simp only [cond_false,e1,Int.toNat_natCast,e2,e3,cond_true,decide_true]
  rw [sub_all hc,p37_any (h.dr c) (by rw [List.length_drop]; omega) h.hfu,hnum]
  simp only [Option.bind_some]
  rw [p18_er he]
  simp only [Option.bind_some,hw]
theorem p19Y {a:List Int} {c:Nat} (h:okA fu a) (hc:c≤a.length):PRX a 0 (uX a c) isU (p19 fu ((a,(c:Int),(),()),())) := by
 have e1:decide ((0:Int)≤(c:Int))=true := by simp
 have e2:decide (c≤a.length∧0+a.length≤a.length)=true := by simp; omega
 have e3:decide (c+(a.length-c)≤a.length)=true := by simp; omega
 have hl := h.hn
 rcases uX_cases h hc with ⟨v,k,hnum,hu,hk,hv⟩ | ⟨e,he,hnum,hu⟩
 ·have hw:IntKind.wrap .i64 ((c:Int)+(k:Int))=((c+k:Nat):Int) := by rw [wi64 (by omega) (by omega)]; omega
  refine .inl ⟨_,_,0,0,hu,hk,hv,?_⟩
  ·unfold p19
   simp only [e1,Int.toNat_natCast,e2,e3,cond_true,decide_true]
   rw [sub_all hc,p37_any (h.dr c) (by rw [List.length_drop]; omega) h.hfu,hnum]
   simp only [Option.bind_some]
   rw [p18_ok]
   simp only [Option.bind_some,hw]
 ·have hw:IntKind.wrap .i64 ((c:Int)+0)=(c:Int) := by rw [wi64 (by omega) (by omega)]; omega
  refine .inr ⟨e,hu,c,c,he,?_⟩
  unfold p19
  simp only [e1,Int.toNat_natCast,e2,e3,cond_true,decide_true]
  rw [sub_all hc,p37_any (h.dr c) (by rw [List.length_drop]; omega) h.hfu,hnum]
  simp only [Option.bind_some]
  rw [p18_er he]
  simp only [Option.bind_some,hw]
theorem p39X {a:List Int} {c:Nat} {x y:Int} (h:okA fu a) (hc:c≤a.length):PRX a 0 (iX a c) isI (p39_2 fu (stO a c x y,())) := by
 unfold iX p39_2
 simp only [cond_false,decide_true,cond_true,dfp]
 rcases p19X (x := 0) (y := 0) h hc with ⟨c1,v,x1,y1,hr,h1,h2,h3⟩ | ⟨e,hr,c1,q,he,h3⟩
 ·obtain ⟨n,rfl⟩ := Int.eq_ofNat_of_zero_le h2.1
  simp only [h3,hr,Option.bind_some,bx_ok]
  rw [xor1 n (by have := h2.2; omega)]
  exact .inl ⟨_,_,_,_,rfl,h1,unzz_i h2,rfl⟩
 ·simp only [h3,hr,Option.bind_some,bx_er]
  rw [xor0]
  exact .inr ⟨e,rfl,_,_,he,rfl⟩
def isCX (a:List Int) (j:Int) (c:Nat) (n:Int):Prop := 0≤n∧n≤j ∧ ∃ c1,cntX j a c = .ok (c1,n)∧(c1:Int)+n≤a.length
theorem p17X {a:List Int} {c:Nat} {j x y:Int} (h:okA fu a) (hc:c≤a.length) (hj:isI j):PRX a 0 (cntX j a c) (isCX a j c) (p17_2 fu (stO a c x y,j,())) := by
 have hl := h.hn
 obtain ⟨hj1,hj2⟩ := hj
 unfold isCX
 rcases p19X (x := 0) (y := 0) h hc with ⟨c1,v,x1,y1,hr,h1,⟨h2,h2'⟩,h3⟩ | ⟨e,hr,c1,q,he,h3⟩
 ·have hw2:IntKind.wrap .u64 (IntKind.wrap .i64 ((a.length:Int)-(c1:Int)))=((a.length-c1:Nat):Int) := by rw [wi64 (by omega) (by omega),wu64 (by omega) (by omega)]; omega
  by_cases hbad:j<0 ∨ v>j
  ·have hcn:cntX j a c = .error 13 := by unfold cntX; rw [hr,bx_ok,if_pos hbad]
   refine .inr ⟨13,hcn,?_⟩
   unfold p17_2
   simp only [cond_false,dfp,decide_true,cond_true,h3,Option.bind_some]
   by_cases g:j<0
   ·simp only [decide_eq_true g,cond_true,orK_inl,p35_ok (show (13:Int) ≠ 0 by decide),Option.bind_some,p35_er,p36_er,Bool.cond_self]
    exact ⟨_,_,by decide,rfl⟩
   ·have g2':v>IntKind.wrap .u64 j := by rw [wu64 (by omega) (by omega)]; omega
    simp only [decide_eq_false g,decide_eq_true g2',cond_true,orK_inl,p35_ok (show (13:Int) ≠ 0 by decide),Option.bind_some,p35_er,p36_er,Bool.cond_self]
    exact ⟨_,_,by decide,rfl⟩
  ·have g:¬ j<0 := fun k=>hbad (.inl k)
   have g2':¬ v>IntKind.wrap .u64 j := by rw [wu64 (by omega) (by omega)]; omega
   by_cases hb2:v>((a.length-c1:Nat):Int)
   ·have hcn:cntX j a c = .error 11 := by unfold cntX; rw [hr,bx_ok,if_neg hbad,if_pos hb2]
    refine .inr ⟨11,hcn,?_⟩
    unfold p17_2
    simp only [cond_false,dfp,decide_true,cond_true,h3,Option.bind_some]
    simp only [decide_eq_false g,decide_eq_false g2',cond_true,cond_false,orK_inl,hw2,decide_eq_true hb2,p35_ok (show (11:Int) ≠ 0 by decide),Option.bind_some,p36_er]
    exact ⟨_,_,by decide,rfl⟩
   ·have hcn:cntX j a c = .ok (c1,v) := by unfold cntX; rw [hr,bx_ok,if_neg hbad,if_neg hb2]
    have hwv:IntKind.wrap .i64 v=v := wi64 (by omega) (by omega)
    refine .inl ⟨c1,v,0,0,hcn,h1,⟨h2,by omega,c1,hcn,by omega⟩,?_⟩
    unfold p17_2
    simp only [cond_false,dfp,decide_true,cond_true,cond_false,h3,Option.bind_some,decide_eq_false g,decide_eq_false g2',orK_inl,hw2,decide_eq_false hb2,p36_ok,hwv]
 ·refine .inr ⟨e,by unfold cntX; rw [hr,bx_er],?_⟩
  unfold p17_2
  simp only [cond_false,dfp,decide_true,cond_true,h3,Option.bind_some,p35_er]
  refine ⟨c1,q,he,?_⟩
  rcases Bool.eq_false_or_eq_true (decide (j<0)) with g | g <;> rcases Bool.eq_false_or_eq_true (decide ((0:Int)>IntKind.wrap .u64 j)) with g2 | g2 <;> rcases Bool.eq_false_or_eq_true (decide ((0:Int)>IntKind.wrap .u64 (IntKind.wrap .i64 ((a.length:Int)-c1)))) with g3 | g3 <;> simp only [g,g2,g3,cond_true,cond_false,orK_inl,Option.bind_some,p35_er,p36_er]
theorem p17Y {a:List Int} {c:Nat} {j:Int} (h:okA fu a) (hc:c≤a.length) (hj:isI j):PRX a 0 (cntX j a c) (isCX a j c) (p17 fu ((a,(c:Int),(),()),j,())) := by
 have hl := h.hn
 obtain ⟨hj1,hj2⟩ := hj
 unfold isCX
 rcases p19Y h hc with ⟨c1,v,x1,y1,hr,h1,⟨h2,h2'⟩,h3⟩ | ⟨e,hr,c1,q,he,h3⟩
 ·have hw2:IntKind.wrap .u64 (IntKind.wrap .i64 ((a.length:Int)-(c1:Int)))=((a.length-c1:Nat):Int) := by rw [wi64 (by omega) (by omega),wu64 (by omega) (by omega)]; omega
  by_cases hbad:j<0 ∨ v>j
  ·have hcn:cntX j a c = .error 13 := by unfold cntX; rw [hr,bx_ok,if_pos hbad]
   refine .inr ⟨13,hcn,?_⟩
   unfold p17
   simp only [decide_true,cond_true,h3,Option.bind_some]
   by_cases g:j<0
   ·simp only [decide_eq_true g,cond_true,orK_inl,p35_ok (show (13:Int) ≠ 0 by decide),Option.bind_some,p35_er,p36_er,Bool.cond_self]
    exact ⟨_,_,by decide,rfl⟩
   ·have g2':v>IntKind.wrap .u64 j := by rw [wu64 (by omega) (by omega)]; omega
    simp only [decide_eq_false g,decide_eq_true g2',cond_true,orK_inl,p35_ok (show (13:Int) ≠ 0 by decide),Option.bind_some,p35_er,p36_er,Bool.cond_self]
    exact ⟨_,_,by decide,rfl⟩
  ·have g:¬ j<0 := fun k=>hbad (.inl k)
   have g2':¬ v>IntKind.wrap .u64 j := by rw [wu64 (by omega) (by omega)]; omega
   by_cases hb2:v>((a.length-c1:Nat):Int)
   ·have hcn:cntX j a c = .error 11 := by unfold cntX; rw [hr,bx_ok,if_neg hbad,if_pos hb2]
    refine .inr ⟨11,hcn,?_⟩
    unfold p17
    simp only [decide_true,cond_true,h3,Option.bind_some]
    simp only [decide_eq_false g,decide_eq_false g2',cond_true,cond_false,orK_inl,hw2,decide_eq_true hb2,p35_ok (show (11:Int) ≠ 0 by decide),Option.bind_some,p36_er]
    exact ⟨_,_,by decide,rfl⟩
   ·have hcn:cntX j a c = .ok (c1,v) := by unfold cntX; rw [hr,bx_ok,if_neg hbad,if_neg hb2]
    have hwv:IntKind.wrap .i64 v=v := wi64 (by omega) (by omega)
    refine .inl ⟨c1,v,0,0,hcn,h1,⟨h2,by omega,c1,hcn,by omega⟩,?_⟩
    unfold p17
    simp only [decide_true,cond_true,cond_false,h3,Option.bind_some,decide_eq_false g,decide_eq_false g2',orK_inl,hw2,decide_eq_false hb2,p36_ok,hwv]
 ·refine .inr ⟨e,by unfold cntX; rw [hr,bx_er],?_⟩
  unfold p17
  simp only [decide_true,cond_true,h3,Option.bind_some,p35_er]
  refine ⟨c1,q,he,?_⟩
  rcases Bool.eq_false_or_eq_true (decide (j<0)) with g | g <;> rcases Bool.eq_false_or_eq_true (decide ((0:Int)>IntKind.wrap .u64 j)) with g2 | g2 <;> rcases Bool.eq_false_or_eq_true (decide ((0:Int)>IntKind.wrap .u64 (IntKind.wrap .i64 ((a.length:Int)-c1)))) with g3 | g3 <;> simp only [g,g2,g3,cond_true,cond_false,orK_inl,Option.bind_some,p35_er,p36_er]
theorem p42X {a:List Int} {c:Nat} {j x y:Int} (h:okA fu a) (hc:c≤a.length) (hj:isI j):PRX a [] (bytX j a c) (isBs a j) (p42_1 fu (stO a c x y,j,())) := by
 unfold bytX p42_1
 simp only [cond_false,dfp,decide_true,cond_true]
 rcases p17X (x := 0) (y := 0) h hc hj with ⟨c1,v,x1,y1,hr,h1,⟨h2,h4,c2,h5,h6⟩,h3⟩ | ⟨e,hr,c1,q,he,h3⟩
 ·rw [hr] at h5
  injection h5 with h5
  injection h5 with h5 h7
  subst h5
  obtain ⟨n,rfl⟩ := Int.eq_ofNat_of_zero_le h2
  simp only [h3,hr,Option.bind_some,Int.toNat_natCast,bx_ok]
  rw [p59_ok h.hn (by omega)]
  simp only [Option.bind_some]
  exact .inl ⟨_,_,_,_,rfl,by omega,⟨by rw [List.length_take,List.length_drop]; omega,by rw [List.length_take,List.length_drop]; omega,fun x hx=>h.hb x (List.mem_of_mem_drop (List.mem_of_mem_take hx))⟩,rfl⟩
 ·simp only [h3,hr,Option.bind_some,bx_er,p59_er]
  exact .inr ⟨e,rfl,_,_,he,rfl⟩
theorem p38X {a:List Int} {c:Nat} {x y:Int} (h:okA fu a) (hc:c≤a.length):PRX a false (boolX a c) (fun _=>True) (p38_2 fu (stO a c x y,())) := by
 unfold boolX p38_2
 simp only [cond_true,cond_false,dfp,decide_true]
 by_cases hlt:c<a.length
 ·have h1 := p59_ok (fu := fu) (x := 0) (y := 0) h.hn (show c+1≤a.length by omega)
  rw [take1 hlt] at h1
  simp only [show ((1:Nat):Int)=1 from rfl] at h1
  rw [if_pos hlt]
  generalize hv:a.getD c 0=v at h1 ⊢
  have e0:List.getD [v] 0 (dflt (.int .u8))=v := rfl
  have e1:(((List.length [v]:Nat):Int)==1)=true := rfl
  have e2:decide ((0:Int)≤0∧0<((List.length [v]:Nat):Int))=true := rfl
  have e3:decide (0<List.length [v])=true := rfl
  simp only [h1,Option.bind_some,e0,e1,e2,e3,cond_true,orK_inl]
  by_cases hv1:v>1
  ·rw [if_neg (by omega)]
   simp only [decide_eq_true hv1,cond_true,p35_ok (show (16:Int) ≠ 0 by decide),Option.bind_some,orK_inl]
   exact .inr ⟨16,rfl,_,_,by decide,rfl⟩
  ·rw [if_pos (by omega)]
   simp only [decide_eq_false hv1,cond_false,orK_inl]
   exact .inl ⟨_,_,_,_,rfl,by omega,trivial,rfl⟩
 ·have h1 := p59_short (fu := fu) (x := 0) (y := 0) hc h.hn (show a.length<c+1 by omega)
  simp only [show ((1:Nat):Int)=1 from rfl] at h1
  rw [if_neg hlt]
  have e1:(((List.length ([]:List Int):Nat):Int)==1)=false := rfl
  simp only [h1,Option.bind_some,e1,cond_false,cond_true,orK_inl]
  exact .inr ⟨11,rfl,_,_,by decide,rfl⟩
end Go.Proofs.YtahamggipcikgaaDoor
namespace Go.Proofs.YtahamggipcikgaaDoor
open Go.RowKit
variable {fu:Nat}
def PEX {α:Type} (a:List Int) (r:EX α) (o:Option ((PT×Unit×Unit)×α)):Prop :=
 (∃ (c:Nat) (v:α) (h i:Int),r = .ok (c,v)∧c≤a.length∧o=some ((stO a c h i,(),()),v)) ∨ (∃ e:Int,r = .error e ∧ ∃ (c q:Int) (d:α),e ≠ 0∧o=some ((stE a c e q,(),()),d))
def repX {α:Type} (S:List Int→Nat→EX α) (a:List Int):Nat→List α→Nat→EX (List α)
 | 0,l,c => .ok (c,l)
 | n+1,l,c=>bx (S a c) fun r=>repX S a n (l ++ [r.2]) r.1
def listX {α:Type} (S:List Int→Nat→EX α) (m:Int) (a:List Int) (c:Nat):EX (List α) := bx (cntX m a c) fun r=>repX S a r.2.toNat [] r.1
theorem isCX.nat {a:List Int} {j:Int} {c c1:Nat} {v:Int} (hr:cntX j a c = .ok (c1,v)) (hv:isCX a j c v):∃ k:Nat,v=(k:Int)∧(k:Int)≤j∧c1+k≤a.length := by
 obtain ⟨h2,h4,c2,h5,h6⟩ := hv
 rw [hr] at h5
 injection h5 with h5
 injection h5 with h5 h7
 subst h5
 exact ⟨v.toNat,by omega,by omega,by omega⟩
section
variable {α S R:Type} {f:S→Option (S ⊕ R)} {a:List Int} {Sx:List Int→Nat→EX α} {n:Nat}
theorem list_loopX (mk:Nat→List α→PT→S)
  (hok:∀ k l (c:Nat) x y,k<n→l.length=k→c≤a.length→(∃ c1 v x1 y1,Sx a c = .ok (c1,v)∧c1≤a.length∧f (mk k l (stO a c x y))=some (.inl (mk (k+1) (l ++ [v]) (stO a c1 x1 y1)))) ∨ (∃ e,Sx a c = .error e ∧ ∃ c1 q v,e ≠ 0∧f (mk k l (stO a c x y))=some (.inl (mk (k+1) (l ++ [v]) (stE a c1 e q)))))
  (her:∀ k l c e q,k<n→l.length=k→e ≠ 0 → ∃ d,f (mk k l (stE a c e q))=some (.inl (mk (k+1) (l ++ [d]) (stE a c e q)))):∀ m k l (c:Nat) x y j,k+m=n→l.length=k→c≤a.length→m<j →
   (∃ (c1:Nat) (v:List α) (x1 y1:Int) (i:Nat),repX Sx a m l c = .ok (c1,v)∧c1≤a.length∧v.length=n∧loopO j f (mk k l (stO a c x y))=loopO (i+1) f (mk n v (stO a c1 x1 y1))) ∨
    (∃ e:Int,repX Sx a m l c = .error e ∧ ∃ (c1 q:Int) (v:List α) (i:Nat),e ≠ 0∧v.length=n∧loopO j f (mk k l (stO a c x y))=loopO (i+1) f (mk n v (stE a c1 e q)))
 | 0,k,l,c,x,y,j,hk,hl,hc,hj=>by
  obtain ⟨j,rfl⟩:∃ i,j=i+1 := ⟨j-1,by omega⟩
  have:k=n := by omega
  subst this
  exact .inl ⟨c,l,x,y,j,rfl,hc,hl,rfl⟩
 | m+1,k,l,c,x,y,j,hk,hl,hc,hj=>by
  obtain ⟨j,rfl⟩:∃ i,j=i+1 := ⟨j-1,by omega⟩
  rcases hok k l c x y (by omega) hl hc with ⟨c1,v,x1,y1,h1,h2,h4⟩ | ⟨e,h1,c1,q,v,he,h4⟩
  ·have := list_loopX mk hok her m (k+1) (l ++ [v]) c1 x1 y1 j (by omega) (by simp [hl]) h2 (by omega)
   have e:loopO (j+1) f (mk k l (stO a c x y))=loopO j f (mk (k+1) (l ++ [v]) (stO a c1 x1 y1)) := by simp only [loopO,h4]
   rw [e]
   simp only [repX,h1,bx_ok]
   exact this
  ·obtain ⟨l',i,g1,g2⟩ := list_er mk her m (k+1) (l ++ [v]) c1 e q j (by omega) (by simp [hl]) he (by omega)
   exact .inr ⟨e,by simp only [repX,h1,bx_er],c1,q,l',i,he,g1,by rw [← g2]; simp only [loopO,h4]⟩
theorem list_allX {o:Option R} {fu:Nat} {c:Nat} {x y:Int} (mk:Nat→List α→PT→S) (ho:loopO fu f (mk 0 [] (stO a c x y))=o)
  (hok:∀ k l (c:Nat) x y,k<n→l.length=k→c≤a.length→(∃ c1 v x1 y1,Sx a c = .ok (c1,v)∧c1≤a.length∧f (mk k l (stO a c x y))=some (.inl (mk (k+1) (l ++ [v]) (stO a c1 x1 y1)))) ∨ (∃ e,Sx a c = .error e ∧ ∃ c1 q v,e ≠ 0∧f (mk k l (stO a c x y))=some (.inl (mk (k+1) (l ++ [v]) (stE a c1 e q)))))
  (her:∀ k l c e q,k<n→l.length=k→e ≠ 0 → ∃ d,f (mk k l (stE a c e q))=some (.inl (mk (k+1) (l ++ [d]) (stE a c e q)))) (hc:c≤a.length) (hn:n<fu) :
   (∃ (c1:Nat) (v:List α) (x1 y1:Int) (i:Nat),repX Sx a n [] c = .ok (c1,v)∧c1≤a.length∧v.length=n∧o=loopO (i+1) f (mk n v (stO a c1 x1 y1))) ∨
    (∃ e:Int,repX Sx a n [] c = .error e ∧ ∃ (c1 q:Int) (v:List α) (i:Nat),e ≠ 0∧v.length=n∧o=loopO (i+1) f (mk n v (stE a c1 e q))) := by
 subst ho
 exact list_loopX mk hok her n 0 [] c x y fu (by omega) rfl hc hn
end
def kdX (a:List Int) (c:Nat):EX Int := bx (iX a c) fun r=>if r.2<1 ∨ r.2>3 then .error 16 else .ok r
theorem p77X {a:List Int} {c:Nat} {x y:Int} (h:okA fu a) (hc:c≤a.length):PEX a (kdX a c) (p77_1 fu (stO a c x y,())) := by
 unfold kdX p77_1
 simp only [cond_false,dfp,decide_true,cond_true]
 rcases p39X (x := 0) (y := 0) h hc with ⟨c1,v,x1,y1,hr,h1,_,h3⟩ | ⟨e,hr,c1,q,he,h3⟩
 ·simp only [h3,hr,Option.bind_some,bx_ok]
  by_cases g:v<1
  ·simp only [decide_eq_true g,cond_true,orK_inl,p35_ok (show (16:Int) ≠ 0 by decide),Option.bind_some]
   exact .inr ⟨16,if_pos (.inl g),_,_,_,by decide,rfl⟩
  ·by_cases g2:v>3
   ·simp only [decide_eq_false g,decide_eq_true g2,cond_true,cond_false,orK_inl,p35_ok (show (16:Int) ≠ 0 by decide),Option.bind_some]
    exact .inr ⟨16,if_pos (.inr g2),_,_,_,by decide,rfl⟩
   ·simp only [decide_eq_false g,decide_eq_false g2,cond_false,orK_inl]
    exact .inl ⟨_,_,_,_,if_neg (by omega),h1,rfl⟩
 ·simp only [h3,hr,Option.bind_some,bx_er,lt01,cond_true,orK_inl,p35_er]
  exact .inr ⟨_,rfl,_,_,_,he,rfl⟩
theorem p62X {a:List Int} {c:Nat} {x y:Int} (h:okA fu a) (hc:c≤a.length) (hf:4194304<fu):PEX a (listX iX 7 a c) (p62_2 fu (stO a c x y,())) := by
 unfold listX p62_2
 simp only [cond_false,dfp,decide_true,cond_true]
 rcases p17X (x := 0) (y := 0) h hc i7 with ⟨c1,v,x1,y1,hr,h1,g1,o1⟩ | ⟨e,hr,c1,q,he,o1⟩
 ·obtain ⟨n,rfl,hn,hcn⟩ := isCX.nat hr g1
  simp only [o1,hr,Option.bind_some,bx_ok,Int.toNat_natCast]
  generalize hL:loopO fu _ _=o
  refine Or.elim (list_allX (n := n) (Sx := iX) (fun k l st=>((l,(k:Int),()),(st,()))) hL (fun k l c x y hk hl hc => ?_) (fun k l c e q hk hl he => ?_) h1 (by omega)) ?_ ?_
  ·have e1:decide ((k:Int)<(n:Int))=true := by simp; omega
   have e2:(l.length+1≤maxLen∧(l.length+1) * 8≤140737488355328)=True := eq_true ⟨Nat.le_trans (show l.length+1≤140737488355328 by omega) (by decide),by omega⟩
   have e3:IntKind.wrap .i64 ((k:Int)+1)=((k+1:Nat):Int) := by rw [wi64 (by omega) (by omega)]; omega
   rcases p39X (x := x) (y := y) h hc with ⟨c1,v,x1,y1,q1,q2,q3,q4⟩ | ⟨e,q1,c1,q,he,q4⟩
   ·exact .inl ⟨c1,v,x1,y1,q1,q2,by simp only [e1,q4,cond_true,decide_true,Option.bind_some,List.length_singleton,e2,e3]⟩
   ·exact .inr ⟨e,q1,c1,q,_,he,by simp only [e1,q4,cond_true,decide_true,Option.bind_some,List.length_singleton,e2,e3]; rfl⟩
  ·have e1:decide ((k:Int)<(n:Int))=true := by simp; omega
   have e2:(l.length+1≤maxLen∧(l.length+1) * 8≤140737488355328)=True := eq_true ⟨Nat.le_trans (show l.length+1≤140737488355328 by omega) (by decide),by omega⟩
   have e3:IntKind.wrap .i64 ((k:Int)+1)=((k+1:Nat):Int) := by rw [wi64 (by omega) (by omega)]; omega
   exact ⟨_,by simp only [e1,p39_er,cond_true,decide_true,Option.bind_some,List.length_singleton,e2,e3]; rfl⟩
  ·rintro ⟨c2,w,x2,y2,i,g2,g3,_,g6⟩
   refine .inl ⟨c2,w,x2,y2,g2,g3,?_⟩
   rw [g6]
   simp only [loopO,Int.lt_irrefl,decide_false,cond_false,inrO,Option.map_some]
  ·rintro ⟨e,g2,c2,q,w,i,he,_,g6⟩
   refine .inr ⟨e,g2,c2,q,w,he,?_⟩
   rw [g6]
   simp only [loopO,Int.lt_irrefl,decide_false,cond_false,inrO,Option.map_some]
 ·obtain ⟨k,hk⟩:∃ k,fu=k+1 := ⟨fu-1,by omega⟩
  simp only [o1,hr,Option.bind_some,bx_er]
  refine .inr ⟨e,rfl,c1,q,[],he,?_⟩
  rw [hk]
  simp only [loopO,Int.lt_irrefl,decide_false,cond_false,inrO,Option.map_some]
def cfX (a:List Int) (c:Nat):EX CF := bx (listX iX 7 a c) fun r=>bx (listX iX 7 a r.1) fun s => .ok (s.1,(r.2,s.2,()))
theorem p41X {a:List Int} {c:Nat} {x y:Int} (h:okA fu a) (hc:c≤a.length) (hf:4194304<fu):PEX a (cfX a c) (p41_1 fu (stO a c x y,())) := by
 have hf':10<fu := by omega
 unfold cfX p41_1
 simp only [decide_true,cond_true,cond_false,dfp]
 rcases p62X (x := 0) (y := 0) h hc hf with ⟨c1,v1,x1,y1,hr1,h1,o1⟩ | ⟨e,hr1,c1,q,d,he,o1⟩
 ·simp only [o1,hr1,Option.bind_some,bx_ok]
  rcases p62X (x := x1) (y := y1) h h1 hf with ⟨c2,v2,x2,y2,hr2,h2,o2⟩ | ⟨e,hr2,c2,q,d,he,o2⟩
  ·simp only [o2,hr2,Option.bind_some,bx_ok,p61_ok]
   exact .inl ⟨_,_,_,_,rfl,h2,rfl⟩
  ·simp only [o2,hr2,Option.bind_some,bx_er,p61_er]
   exact .inr ⟨_,rfl,_,_,_,he,rfl⟩
 ·simp only [o1,hr1,Option.bind_some,bx_er,p62_er hf',p61_er]
  exact .inr ⟨_,rfl,_,_,_,he,rfl⟩
def enX (a:List Int) (c:Nat):EX EZ :=
 bx (uX a c) fun r0=>bx (uX a r0.1) fun r1=>bx (kdX a r1.1) fun r2=>bx (bytX 262144 a r2.1) fun r3=>bx (cfX a r3.1) fun r4 => .ok (r4.1,(r0.2,r1.2,r2.2,r3.2,r4.2.1,r4.2.2.1,()))
def en2X (a:List Int) (c:Nat):EX EN := bx (enX a c) fun r => .ok (r.1,(r.2.1,r.2.2.1,r.2.2.2.1,r.2.2.2.2.1,r.2.2.2.2.2.1,r.2.2.2.2.2.2.1))
theorem p60X {a:List Int} {c:Nat} {x y:Int} (h:okA fu a) (hc:c≤a.length) (hf:4194304<fu):PEX a (enX a c) (p60_1 fu (stO a c x y,())) := by
 have hf':10<fu := by omega
 unfold enX p60_1
 simp only [decide_true,cond_true,cond_false,dfp]
 rcases p19X (x := 0) (y := 0) h hc with ⟨c0,v0,x0,y0,hr0,h0,g0,o0⟩ | ⟨e,hr0,c0,q,he,o0⟩
 rotate_left
 ·simp only [o0,hr0,Option.bind_some,bx_er,p19_er,p77_er,p42_er,p41_er hf',p76_er]
  exact .inr ⟨_,rfl,_,_,_,he,rfl⟩
 simp only [o0,hr0,Option.bind_some,bx_ok]
 rcases p19X (x := x0) (y := y0) h h0 with ⟨c1,v1,x1,y1,hr1,h1,g1,o1⟩ | ⟨e,hr1,c1,q,he,o1⟩
 rotate_left
 ·simp only [o1,hr1,Option.bind_some,bx_er,p77_er,p42_er,p41_er hf',p76_er]
  exact .inr ⟨_,rfl,_,_,_,he,rfl⟩
 simp only [o1,hr1,Option.bind_some,bx_ok]
 rcases p77X (x := x1) (y := y1) h h1 with ⟨c2,v2,x2,y2,hr2,h2,o2⟩ | ⟨e,hr2,c2,q,d,he,o2⟩
 rotate_left
 ·simp only [o2,hr2,Option.bind_some,bx_er,p42_er,p41_er hf',p76_er]
  exact .inr ⟨_,rfl,_,_,_,he,rfl⟩
 simp only [o2,hr2,Option.bind_some,bx_ok]
 rcases p42X (x := x2) (y := y2) h h2 i262144 with ⟨c3,v3,x3,y3,hr3,h3,g3,o3⟩ | ⟨e,hr3,c3,q,he,o3⟩
 rotate_left
 ·simp only [o3,hr3,Option.bind_some,bx_er,p41_er hf',p76_er]
  exact .inr ⟨_,rfl,_,_,_,he,rfl⟩
 simp only [o3,hr3,Option.bind_some,bx_ok]
 rcases p41X (x := x3) (y := y3) h h3 hf with ⟨c4,⟨v4,w4,⟨⟩⟩,x4,y4,hr4,h4,o4⟩ | ⟨e,hr4,c4,q,d,he,o4⟩
 rotate_left
 ·simp only [o4,hr4,Option.bind_some,bx_er,p76_er]
  exact .inr ⟨_,rfl,_,_,_,he,rfl⟩
 simp only [o4,hr4,Option.bind_some,bx_ok]
 simp only [p76_ok,Option.bind_some]
 exact .inl ⟨_,_,_,_,rfl,h4,rfl⟩
theorem p40X {a:List Int} {c:Nat} {x y:Int} (h:okA fu a) (hc:c≤a.length) (hf:4194304<fu):PEX a (listX en2X 8 a c) (p40_1 fu (stO a c x y,())) := by
 unfold listX p40_1
 simp only [cond_false,dfp,decide_true,cond_true]
 rcases p17X (x := 0) (y := 0) h hc i8 with ⟨c1,v,x1,y1,hr,h1,g1,o1⟩ | ⟨e,hr,c1,q,he,o1⟩
 ·obtain ⟨n,rfl,hn,hcn⟩ := isCX.nat hr g1
  simp only [o1,hr,Option.bind_some,bx_ok,Int.toNat_natCast]
  generalize hL:loopO fu _ _=o
  refine Or.elim (list_allX (n := n) (Sx := en2X) (fun k l st=>((l,(k:Int),()),(st,()))) hL (fun k l c x y hk hl hc => ?_) (fun k l c e q hk hl he => ?_) h1 (by omega)) ?_ ?_
  ·have e1:decide ((k:Int)<(n:Int))=true := by simp; omega
   have e2:(l.length+1≤maxLen∧(l.length+1) * 96≤140737488355328)=True := eq_true ⟨Nat.le_trans (show l.length+1≤140737488355328 by omega) (by decide),by omega⟩
   have e3:IntKind.wrap .i64 ((k:Int)+1)=((k+1:Nat):Int) := by rw [wi64 (by omega) (by omega)]; omega
   rcases p60X (x := x) (y := y) h hc hf with ⟨c1,⟨i0,i1,i2,i3,i4,i5,⟨⟩⟩,x1,y1,q1,q2,q4⟩ | ⟨e,q1,c1,q,⟨i0,i1,i2,i3,i4,i5,⟨⟩⟩,he,q4⟩
   ·exact .inl ⟨c1,(i0,i1,i2,i3,i4,i5),x1,y1,by rw [en2X,q1]; rfl,q2,by simp only [e1,q4,cond_true,decide_true,Option.bind_some,List.length_singleton,e2,e3]⟩
   ·exact .inr ⟨e,by rw [en2X,q1]; rfl,c1,q,_,he,by simp only [e1,q4,cond_true,decide_true,Option.bind_some,List.length_singleton,e2,e3]; rfl⟩
  ·have e1:decide ((k:Int)<(n:Int))=true := by simp; omega
   have e2:(l.length+1≤maxLen∧(l.length+1) * 96≤140737488355328)=True := eq_true ⟨Nat.le_trans (show l.length+1≤140737488355328 by omega) (by decide),by omega⟩
   have e3:IntKind.wrap .i64 ((k:Int)+1)=((k+1:Nat):Int) := by rw [wi64 (by omega) (by omega)]; omega
   exact ⟨_,by simp only [e1,p60_er (show 10<fu by omega),cond_true,decide_true,Option.bind_some,List.length_singleton,e2,e3]; rfl⟩
  ·rintro ⟨c2,w,x2,y2,i,g2,g3,_,g6⟩
   refine .inl ⟨c2,w,x2,y2,g2,g3,?_⟩
   rw [g6]
   simp only [loopO,Int.lt_irrefl,decide_false,cond_false,inrO,Option.map_some]
  ·rintro ⟨e,g2,c2,q,w,i,he,_,g6⟩
   refine .inr ⟨e,g2,c2,q,w,he,?_⟩
   rw [g6]
   simp only [loopO,Int.lt_irrefl,decide_false,cond_false,inrO,Option.map_some]
 ·obtain ⟨k,hk⟩:∃ k,fu=k+1 := ⟨fu-1,by omega⟩
  simp only [o1,hr,Option.bind_some,bx_er]
  refine .inr ⟨e,rfl,c1,q,[],he,?_⟩
  rw [hk]
  simp only [loopO,Int.lt_irrefl,decide_false,cond_false,inrO,Option.map_some]
end Go.Proofs.YtahamggipcikgaaDoor
namespace Go.Proofs.YtahamggipcikgaaDoor
open Go.RowKit
variable {fu:Nat}
def btX (a:List Int) (c:Nat):EX MZ := bx (boolX a c) fun r0=>bif r0.2 then
  bx (uX a r0.1) fun r1=>bx (uX a r1.1) fun r2 => .ok (r2.1,(6,0,0,r1.2,r2.2,0,[],0,false,0,[],[],[],false,()))
 else bx (uX a r0.1) fun r1=>bx (uX a r1.1) fun r2=>bx (uX a r2.1) fun r3=>bx (uX a r3.1) fun r4 => .ok (r4.1,(5,0,0,r1.2,r2.2,r3.2,[],r4.2,false,0,[],[],[],false,()))
theorem p20X {a:List Int} {c:Nat} {x y:Int} (h:okA fu a) (hc:c≤a.length):PEX a (btX a c) (p20 fu (stO a c x y,())) := by
 unfold btX p20
 simp only [decide_true,cond_true,cond_false,dfp]
 rcases p38X (x := 0) (y := 0) h hc with ⟨c0,v0,x0,y0,hr0,h0,g0,o0⟩ | ⟨e,hr0,c0,q,he,o0⟩
 rotate_left
 ·simp only [o0,hr0,Option.bind_some,bx_er,p19_er,cond_false]
  exact .inr ⟨_,rfl,_,_,_,he,rfl⟩
 simp only [o0,hr0,Option.bind_some,bx_ok]
 cases v0 with
 | true =>
  simp only [cond_true]
  rcases p19X (x := x0) (y := y0) h h0 with ⟨c1,v1,x1,y1,hr1,h1,g1,o1⟩ | ⟨e,hr1,c1,q,he,o1⟩
  rotate_left
  ·simp only [o1,hr1,Option.bind_some,bx_er,p19_er]
   exact .inr ⟨_,rfl,_,_,_,he,rfl⟩
  simp only [o1,hr1,Option.bind_some,bx_ok]
  rcases p19X (x := x1) (y := y1) h h1 with ⟨c2,v2,x2,y2,hr2,h2,g2,o2⟩ | ⟨e,hr2,c2,q,he,o2⟩
  rotate_left
  ·simp only [o2,hr2,Option.bind_some,bx_er]
   exact .inr ⟨_,rfl,_,_,_,he,rfl⟩
  simp only [o2,hr2,Option.bind_some,bx_ok]
  exact .inl ⟨_,_,_,_,rfl,h2,rfl⟩
 | false =>
  simp only [cond_false]
  rcases p19X (x := x0) (y := y0) h h0 with ⟨c1,v1,x1,y1,hr1,h1,g1,o1⟩ | ⟨e,hr1,c1,q,he,o1⟩
  rotate_left
  ·simp only [o1,hr1,Option.bind_some,bx_er,p19_er]
   exact .inr ⟨_,rfl,_,_,_,he,rfl⟩
  simp only [o1,hr1,Option.bind_some,bx_ok]
  rcases p19X (x := x1) (y := y1) h h1 with ⟨c2,v2,x2,y2,hr2,h2,g2,o2⟩ | ⟨e,hr2,c2,q,he,o2⟩
  rotate_left
  ·simp only [o2,hr2,Option.bind_some,bx_er,p19_er]
   exact .inr ⟨_,rfl,_,_,_,he,rfl⟩
  simp only [o2,hr2,Option.bind_some,bx_ok]
  rcases p19X (x := x2) (y := y2) h h2 with ⟨c3,v3,x3,y3,hr3,h3,g3,o3⟩ | ⟨e,hr3,c3,q,he,o3⟩
  rotate_left
  ·simp only [o3,hr3,Option.bind_some,bx_er,p19_er]
   exact .inr ⟨_,rfl,_,_,_,he,rfl⟩
  simp only [o3,hr3,Option.bind_some,bx_ok]
  rcases p19X (x := x3) (y := y3) h h3 with ⟨c4,v4,x4,y4,hr4,h4,g4,o4⟩ | ⟨e,hr4,c4,q,he,o4⟩
  rotate_left
  ·simp only [o4,hr4,Option.bind_some,bx_er]
   exact .inr ⟨_,rfl,_,_,_,he,rfl⟩
  simp only [o4,hr4,Option.bind_some,bx_ok]
  exact .inl ⟨_,_,_,_,rfl,h4,rfl⟩
def mgEX (c:Nat) (z:MZ):EX MZ := bif kindS z.1 && !isZ z then .ok (c,z) else .error 111
def mgX (a:List Int) (c:Nat):EX MZ :=
 bx (iX a c) fun r0=>bx (uX a r0.1) fun r1=>bx (uX a r1.1) fun r2=>bx (uX a r2.1) fun r3=>bx (listX en2X 8 a r3.1) fun r4=>bx (uX a r4.1) fun r5=>bx (boolX a r5.1) fun r6=>bx (uX a r6.1) fun r7=>bx (cfX a r7.1) fun r8=>bx (bytX 262144 a r8.1) fun r9=>bx (boolX a r9.1) fun r10 =>
  mgEX r10.1 (r0.2,0,0,r1.2,r2.2,r3.2,r4.2,r5.2,r6.2,r7.2,r8.2.1,r8.2.2.1,r9.2,r10.2,())
theorem p21X {a:List Int} {c:Nat} {x y:Int} (h:okA fu a) (hc:c≤a.length) (hf:4194304<fu):PEX a (mgX a c) (p21 fu (stO a c x y,())) := by
 have hf':10<fu := by omega
 unfold mgX p21
 simp only [decide_true,cond_true,cond_false,dfp,q43_is,q32_is,Option.bind_some]
 rcases p39X (x := 0) (y := 0) h hc with ⟨c0,v0,x0,y0,hr0,h0,g0,o0⟩ | ⟨e,hr0,c0,q,he,o0⟩
 rotate_left
 ·simp only [o0,hr0,Option.bind_some,bx_er,p19_er,p40_er hf',p38_er,p41_er hf',p42_er,q18_er,tri]
  exact .inr ⟨_,rfl,_,_,_,he,rfl⟩
 simp only [o0,hr0,Option.bind_some,bx_ok]
 rcases p19X (x := x0) (y := y0) h h0 with ⟨c1,v1,x1,y1,hr1,h1,g1,o1⟩ | ⟨e,hr1,c1,q,he,o1⟩
 rotate_left
 ·simp only [o1,hr1,Option.bind_some,bx_er,p19_er,p40_er hf',p38_er,p41_er hf',p42_er,q18_er,tri]
  exact .inr ⟨_,rfl,_,_,_,he,rfl⟩
 simp only [o1,hr1,Option.bind_some,bx_ok]
 rcases p19X (x := x1) (y := y1) h h1 with ⟨c2,v2,x2,y2,hr2,h2,g2,o2⟩ | ⟨e,hr2,c2,q,he,o2⟩
 rotate_left
 ·simp only [o2,hr2,Option.bind_some,bx_er,p19_er,p40_er hf',p38_er,p41_er hf',p42_er,q18_er,tri]
  exact .inr ⟨_,rfl,_,_,_,he,rfl⟩
 simp only [o2,hr2,Option.bind_some,bx_ok]
 rcases p19X (x := x2) (y := y2) h h2 with ⟨c3,v3,x3,y3,hr3,h3,g3,o3⟩ | ⟨e,hr3,c3,q,he,o3⟩
 rotate_left
 ·simp only [o3,hr3,Option.bind_some,bx_er,p19_er,p40_er hf',p38_er,p41_er hf',p42_er,q18_er,tri]
  exact .inr ⟨_,rfl,_,_,_,he,rfl⟩
 simp only [o3,hr3,Option.bind_some,bx_ok]
 rcases p40X (x := x3) (y := y3) h h3 hf with ⟨c4,v4,x4,y4,hr4,h4,o4⟩ | ⟨e,hr4,c4,q,d,he,o4⟩
 rotate_left
 ·simp only [o4,hr4,Option.bind_some,bx_er,p19_er,p38_er,p41_er hf',p42_er,q18_er,tri]
  exact .inr ⟨_,rfl,_,_,_,he,rfl⟩
 simp only [o4,hr4,Option.bind_some,bx_ok]
 rcases p19X (x := x4) (y := y4) h h4 with ⟨c5,v5,x5,y5,hr5,h5,g5,o5⟩ | ⟨e,hr5,c5,q,he,o5⟩
 rotate_left
 ·simp only [o5,hr5,Option.bind_some,bx_er,p19_er,p38_er,p41_er hf',p42_er,q18_er,tri]
  exact .inr ⟨_,rfl,_,_,_,he,rfl⟩
 simp only [o5,hr5,Option.bind_some,bx_ok]
 rcases p38X (x := x5) (y := y5) h h5 with ⟨c6,v6,x6,y6,hr6,h6,g6,o6⟩ | ⟨e,hr6,c6,q,he,o6⟩
 rotate_left
 ·simp only [o6,hr6,Option.bind_some,bx_er,p19_er,p38_er,p41_er hf',p42_er,q18_er,tri]
  exact .inr ⟨_,rfl,_,_,_,he,rfl⟩
 simp only [o6,hr6,Option.bind_some,bx_ok]
 rcases p19X (x := x6) (y := y6) h h6 with ⟨c7,v7,x7,y7,hr7,h7,g7,o7⟩ | ⟨e,hr7,c7,q,he,o7⟩
 rotate_left
 ·simp only [o7,hr7,Option.bind_some,bx_er,p38_er,p41_er hf',p42_er,q18_er,tri]
  exact .inr ⟨_,rfl,_,_,_,he,rfl⟩
 simp only [o7,hr7,Option.bind_some,bx_ok]
 rcases p41X (x := x7) (y := y7) h h7 hf with ⟨c8,⟨v8,w8,⟨⟩⟩,x8,y8,hr8,h8,o8⟩ | ⟨e,hr8,c8,q,⟨d,d2,⟨⟩⟩,he,o8⟩
 rotate_left
 ·simp only [o8,hr8,Option.bind_some,bx_er,p38_er,p42_er,q18_er,tri]
  exact .inr ⟨_,rfl,_,_,_,he,rfl⟩
 simp only [o8,hr8,Option.bind_some,bx_ok]
 rcases p42X (x := x8) (y := y8) h h8 i262144 with ⟨c9,v9,x9,y9,hr9,h9,g9,o9⟩ | ⟨e,hr9,c9,q,he,o9⟩
 rotate_left
 ·simp only [o9,hr9,Option.bind_some,bx_er,p38_er,q18_er,tri]
  exact .inr ⟨_,rfl,_,_,_,he,rfl⟩
 simp only [o9,hr9,Option.bind_some,bx_ok]
 rcases p38X (x := x9) (y := y9) h h9 with ⟨c10,v10,x10,y10,hr10,h10,g10,o10⟩ | ⟨e,hr10,c10,q,he,o10⟩
 rotate_left
 ·simp only [o10,hr10,Option.bind_some,bx_er,q18_er,tri]
  exact .inr ⟨_,rfl,_,_,_,he,rfl⟩
 simp only [o10,hr10,Option.bind_some,bx_ok]
 simp only [mgEX]
 cases kindS v0 with
 | false =>
  simp only [Bool.not_false,cond_true,Bool.false_and,cond_false,q18_ok (show (111:Int) ≠ 0 by decide),Option.bind_some]
  exact .inr ⟨111,rfl,_,_,_,by decide,rfl⟩
 | true =>
  simp only [Bool.not_true,cond_false,Bool.true_and]
  cases isZ (v0,0,0,v1,v2,v3,v4,v5,v6,v7,v8,w8,v9,v10,()) with
  | true =>
   simp only [Bool.not_true,cond_true,cond_false,q18_ok (show (111:Int) ≠ 0 by decide),Option.bind_some]
   exact .inr ⟨111,rfl,_,_,_,by decide,rfl⟩
  | false =>
   simp only [Bool.not_false,cond_true,cond_false]
   exact .inl ⟨_,_,_,_,rfl,h10,rfl⟩
end Go.Proofs.YtahamggipcikgaaDoor
namespace Go.Proofs.YtahamggipcikgaaDoor
open Go.RowKit
variable {fu:Nat}
def bo {α β:Type} (r:EX α) (k:Nat×α→Except Int β):Except Int β := match r with
 | .ok v=>k v
 | .error e => .error e
theorem bo_ok {α β:Type} (v:Nat×α) (k:Nat×α→Except Int β):bo (.ok v) k=k v := rfl
theorem bo_er {α β:Type} (e:Int) (k:Nat×α→Except Int β):bo (.error e) k = .error e := rfl
def wrX (fr to kd:Int) (a:List Int) (c:Nat):EX WR := bx (uX a c) fun r=>bx (bif kd==2 then btX a r.1 else mgX a r.1) fun s => .ok (s.1,mkW r.2 fr to s.2)
def opnX (fr to kd:Int) (a:List Int):Except Int (List WR) := bif okP fr to kd then bo (cntX 4096 a 0) fun r=>if r.2=0 then .error 111 else bo (repX (wrX fr to kd) a r.2.toNat [] r.1) fun s=>if s.1<a.length then .error 15 else .ok s.2 else .error 1
section
variable {α S R:Type} {f:S→Option (S ⊕ R)} {a:List Int} {Sx:List Int→Nat→EX α} {n:Nat}
theorem list_brkX (mk:Nat→List α→PT→S) (brk:List α→PT→R)
  (hok:∀ k l (c:Nat) x y,k<n→l.length=k→c≤a.length→(∃ c1 v x1 y1,Sx a c = .ok (c1,v)∧c1≤a.length∧f (mk k l (stO a c x y))=some (.inl (mk (k+1) (l ++ [v]) (stO a c1 x1 y1)))) ∨ (∃ e,Sx a c = .error e ∧ ∃ c1 q,e ≠ 0∧f (mk k l (stO a c x y))=some (.inr (brk l (stE a c1 e q)))))
  (hend:∀ l (c:Nat) x y,l.length=n→f (mk n l (stO a c x y))=some (.inr (brk l (stO a c x y)))):∀ m k l (c:Nat) x y j,k+m=n→l.length=k→c≤a.length→m<j →
   (∃ (c1:Nat) (v:List α) (x1 y1:Int),repX Sx a m l c = .ok (c1,v)∧c1≤a.length∧v.length=n∧loopO j f (mk k l (stO a c x y))=some (brk v (stO a c1 x1 y1))) ∨
    (∃ e:Int,repX Sx a m l c = .error e ∧ ∃ (c1 q:Int) (v:List α),e ≠ 0∧loopO j f (mk k l (stO a c x y))=some (brk v (stE a c1 e q)))
 | 0,k,l,c,x,y,j,hk,hl,hc,hj=>by
  obtain ⟨j,rfl⟩:∃ i,j=i+1 := ⟨j-1,by omega⟩
  have:k=n := by omega
  subst this
  exact .inl ⟨c,l,x,y,rfl,hc,hl,by simp only [loopO,hend l c x y hl]⟩
 | m+1,k,l,c,x,y,j,hk,hl,hc,hj=>by
  obtain ⟨j,rfl⟩:∃ i,j=i+1 := ⟨j-1,by omega⟩
  rcases hok k l c x y (by omega) hl hc with ⟨c1,v,x1,y1,h1,h2,h4⟩ | ⟨e,h1,c1,q,he,h4⟩
  ·have := list_brkX mk brk hok hend m (k+1) (l ++ [v]) c1 x1 y1 j (by omega) (by simp [hl]) h2 (by omega)
   have e:loopO (j+1) f (mk k l (stO a c x y))=loopO j f (mk (k+1) (l ++ [v]) (stO a c1 x1 y1)) := by simp only [loopO,h4]
   rw [e]
   simp only [repX,h1,bx_ok]
   exact this
  ·exact .inr ⟨e,by simp only [repX,h1,bx_er],c1,q,l,he,by simp only [loopO,h4]⟩
theorem list_brkaX {o:Option R} {fu:Nat} {c:Nat} {x y:Int} (mk:Nat→List α→PT→S) (brk:List α→PT→R) (ho:loopO fu f (mk 0 [] (stO a c x y))=o)
  (hok:∀ k l (c:Nat) x y,k<n→l.length=k→c≤a.length→(∃ c1 v x1 y1,Sx a c = .ok (c1,v)∧c1≤a.length∧f (mk k l (stO a c x y))=some (.inl (mk (k+1) (l ++ [v]) (stO a c1 x1 y1)))) ∨ (∃ e,Sx a c = .error e ∧ ∃ c1 q,e ≠ 0∧f (mk k l (stO a c x y))=some (.inr (brk l (stE a c1 e q)))))
  (hend:∀ l (c:Nat) x y,l.length=n→f (mk n l (stO a c x y))=some (.inr (brk l (stO a c x y)))) (hc:c≤a.length) (hn:n<fu) :
   (∃ (c1:Nat) (v:List α) (x1 y1:Int),repX Sx a n [] c = .ok (c1,v)∧c1≤a.length∧v.length=n∧o=some (brk v (stO a c1 x1 y1))) ∨
    (∃ e:Int,repX Sx a n [] c = .error e ∧ ∃ (c1 q:Int) (v:List α),e ≠ 0∧o=some (brk v (stE a c1 e q))) := by
 subst ho
 exact list_brkX mk brk hok hend n 0 [] c x y fu (by omega) rfl hc hn
end
theorem p7_isX {a:List Int} (h:okA fu a) (hf:4194304<fu) (fr to kd:Int) :
  (∃ l,opnX fr to kd a = .ok l∧p7 fu ((fr,to,kd,a,()),())=some ((),l,0,())) ∨ (∃ e:Int,opnX fr to kd a = .error e∧e ≠ 0∧p7 fu ((fr,to,kd,a,()),())=some ((),[],e,())) := by
 have hf':10<fu := by omega
 obtain ⟨kk,hkk⟩:∃ k,fu=k+1 := ⟨fu-1,by omega⟩
 have hn := h.hn
 unfold p7
 simp only [q15_is,Option.bind_some]
 rw [first_is]
 unfold opnX
 cases hok:okP fr to kd with
 | false =>
  simp only [cond_false]
  exact .inr ⟨1,rfl,by decide,rfl⟩
 | true =>
 simp only [cond_true,orK_inl,p16_is h.hn,Option.bind_some,decide_true]
 have hcnt := p17Y (c := 0) (j := 4096) h (Nat.zero_le _) i4096
 change PRX a 0 (cntX 4096 a 0) _ (p17 fu ((a,(0:Int),(),()),4096,())) at hcnt
 have e00:((0:Int)==0)=true := rfl
 rcases hcnt with ⟨c1,v,x1,y1,hr,h1,g1,o1⟩ | ⟨e,hr,c1,q,he,o1⟩
 ·obtain ⟨n,rfl,hn',hcn⟩ := isCX.nat hr g1
  simp only [o1,hr,Option.bind_some,bo_ok,Int.toNat_natCast]
  by_cases hn0:n=0
  ·subst hn0
   have e0:(((0:Nat):Int)==0)=true := rfl
   simp only [e0,cond_true,q18_ok (show (111:Int) ≠ 0 by decide),Option.bind_some,orK_inl]
   refine .inr ⟨111,rfl,by decide,?_⟩
   rw [hkk]
   simp only [loopO,Int.natCast_zero,Int.lt_irrefl,decide_false,cond_false,inrO,Option.map_some,orK_inl,p23_er (show (111:Int) ≠ 0 by decide),Option.bind_some]
   rfl
  ·have e0:((n:Int)==0)=false := by simp; omega
   have e9:((n:Int)=0)=False := by simp; omega
   simp only [e0,cond_false,orK_inl,e9,if_false]
   generalize hL:loopO fu _ _=o
   refine Or.elim (list_brkaX (n := n) (Sx := wrX fr to kd) (fun k l st=>((l,(k:Int),()),(st,()))) (fun l st=>(Sum.inl ((l,()),(st,())):_ ⊕ _)) hL (fun k l c x y hk hl hc => ?_) (fun l c x y hl => ?_) h1 (by omega)) (fun key => ?_) (fun key => ?_)
   rotate_left 2
   ·obtain ⟨c2,w,x2,y2,q1,q2,q3,q4⟩ := key
    rw [q1]
    subst q4
    simp only [Option.bind_some,bo_ok,orK_inl,p23_ok]
    by_cases hc2:c2<a.length
    ·have hc3:(c2:Int)<(a.length:Int) := by omega
     rw [if_pos hc2,if_pos hc3]
     exact .inr ⟨15,rfl,by decide,rfl⟩
    ·have hc3:¬ (c2:Int)<(a.length:Int) := by omega
     rw [if_neg hc2,if_neg hc3]
     exact .inl ⟨_,rfl,rfl⟩
   ·obtain ⟨e,q1,c2,q,w,he,q4⟩ := key
    rw [q1]
    subst q4
    have g:(e != 0)=true := bne_iff_ne.2 he
    simp only [bo_er,orK_inl,p23_er he,Option.bind_some,g,cond_true]
    exact .inr ⟨e,rfl,he,rfl⟩
   ·have e1:decide ((k:Int)<(n:Int))=true := by simp; omega
    have e2:(l.length+1≤maxLen∧(l.length+1) * 184≤140737488355328)=True := eq_true ⟨Nat.le_trans (show l.length+1≤140737488355328 by omega) (by decide),by omega⟩
    have e3:IntKind.wrap .i64 ((k:Int)+1)=((k+1:Nat):Int) := by rw [wi64 (by omega) (by omega)]; omega
    simp only [e1,cond_true]
    unfold wrX
    rcases p19X (x := x) (y := y) h hc with ⟨d1,v1,x3,y3,r1,r2,_,r4⟩ | ⟨e,r1,d1,q,he,r4⟩
    ·simp only [r1,r4,Option.bind_some,bx_ok]
     cases (kd==2) with
     | true =>
      simp only [cond_true]
      rcases p20X (x := x3) (y := y3) h r2 with ⟨d2,⟨z0,z1,z2,z3,z4,z5,z6,z7,z8,z9,za,zb,zc,zd,⟨⟩⟩,x4,y4,s1,s2,s4⟩ | ⟨e,s1,d2,q,z,he,s4⟩
      ·simp only [s1,s4,Option.bind_some,bx_ok,orK_inl,p22_ok,bne_self_eq_false,cond_false,List.length_singleton,e2,decide_true,cond_true,e3]
       exact .inl ⟨_,_,_,_,rfl,s2,rfl⟩
      ·have g:(e != 0)=true := bne_iff_ne.2 he
       simp only [s1,s4,Option.bind_some,bx_er,orK_inl,p22_er,g,cond_true]
       exact .inr ⟨_,rfl,_,_,he,rfl⟩
     | false =>
      simp only [cond_false]
      rcases p21X (x := x3) (y := y3) h r2 hf with ⟨d2,⟨z0,z1,z2,z3,z4,z5,z6,z7,z8,z9,za,zb,zc,zd,⟨⟩⟩,x4,y4,s1,s2,s4⟩ | ⟨e,s1,d2,q,z,he,s4⟩
      ·simp only [s1,s4,Option.bind_some,bx_ok,orK_inl,p22_ok,bne_self_eq_false,cond_false,List.length_singleton,e2,decide_true,cond_true,e3]
       exact .inl ⟨_,_,_,_,rfl,s2,rfl⟩
      ·have g:(e != 0)=true := bne_iff_ne.2 he
       simp only [s1,s4,Option.bind_some,bx_er,cond_true,orK_inl,p22_er,g]
       exact .inr ⟨_,rfl,_,_,he,rfl⟩
    ·have g:(e != 0)=true := bne_iff_ne.2 he
     obtain ⟨z,hz⟩ := p21_er (a := a) (c := d1) (e := e) (q := q) hf'
     simp only [r1,r4,Option.bind_some,bx_er]
     cases (kd==2) with
     | true =>
      simp only [cond_true,p20_er,Option.bind_some,orK_inl,p22_er,g]
      exact .inr ⟨_,rfl,_,_,he,rfl⟩
     | false =>
      simp only [cond_false,hz,Option.bind_some,cond_true,orK_inl,p22_er,g]
      exact .inr ⟨_,rfl,_,_,he,rfl⟩
   ·simp only [Int.lt_irrefl,decide_false,cond_false,inrO,Option.map_some]
 ·simp only [o1,hr,Option.bind_some,bo_er,e00,cond_true,q18_er,orK_inl]
  refine .inr ⟨e,rfl,he,?_⟩
  have g:(e != 0)=true := bne_iff_ne.2 he
  rw [hkk]
  simp only [loopO,Int.lt_irrefl,decide_false,cond_false,inrO,Option.map_some,orK_inl,p23_er he,Option.bind_some,g,cond_true]
end Go.Proofs.YtahamggipcikgaaDoor
namespace Go.Proofs.YtahamggipcikgaaDoor.Dr
open Go.RowKit
variable {fu:Nat}
theorem sl_eq (l:List Int) (i j:Nat):slice' l i (some j)=(l.drop i).take (j-i) := by
 cases i <;> simp [slice']
theorem eqL_t {α:Type} (l:List α):decide (List.length l=List.length l)=true := decide_eq_true rfl
theorem p46_is {a:List Int} {c h e at':Int} (he:e ≠ 0):p46 fu ((a,c,0,h,()),e,at',())=some (((a,at',e,at',()),()),()) := by
 unfold p46
 have g:(e != 0)=true := bne_iff_ne.2 he
 simp only [BEq.rfl,cond_true,g,orK_inl]
def afterU (a:List Int) (c h:Int) (r:Int×Int×Int):(((List Int×Int×Int×Int×Unit)×Unit)×Int) :=
 if r.2.2=0 then (((a,c+r.2.1,0,h,()),()),r.1) else (((a,c,r.2.2,c,()),()),0)
theorem p45_any {pre b:List Int} {h:Int} (hb:∀ x ∈ b,0≤x∧x≤255) (hn:(pre ++ b).length≤140737488355328) (hfu:10<fu) :
  p45 fu ((pre ++ b,(pre.length:Int),0,h,()),())=some (afterU (pre ++ b) (pre.length:Int) h (numS 0 0 b)) := by
 unfold p45
 simp only [bne_self_eq_false,cond_false]
 have hlen:(pre ++ b).length=pre.length+b.length := List.length_append ..
 refine loopO_eq (fun (s:(Int×(Int×Unit))×Unit) => ∃ (i acc:Nat) (q r:List Int),i≤9∧s=(((acc:Int),(i:Int),()),())∧b=q ++ r∧q.length=i∧acc<128 ^ i∧numS i acc r=numS 0 0 b) (fun s=>10-s.1.2.1.toNat) (fun _=>afterU (pre ++ b) (pre.length:Int) h (numS 0 0 b)) ?_ fu _ ⟨0,0,[],b,by omega,rfl,rfl,rfl,by simp,rfl⟩ (by dsimp only; omega)
 rintro _ ⟨i,acc,q,r,hi,rfl,ha,hp,hacc,hnum⟩
 have wi:IntKind.wrap .i64 ((i:Int)+1)=((i+1:Nat):Int) := by rw [wi64 (by omega) (by omega)]; omega
 have hbl:b.length=i+r.length := by rw [ha,List.length_append,hp]
 have wc:IntKind.wrap .i64 ((pre.length:Int)+(i:Int))=((pre.length+i:Nat):Int) := by rw [wi64 (by omega) (by omega)]; omega
 cases r with
 | nil =>
  right
  simp only [List.length_nil] at hbl
  have e1:decide (((pre.length+i:Nat):Int)≥((pre ++ b).length:Int))=true := by rw [hlen]; simp; omega
  have hd:numS i acc []=(0,0,11) := rfl
  rw [← hnum,hd]
  simp only [wc,e1,cond_true]
  rw [p46_is (by decide)]
  rfl
 | cons x r =>
  simp only [List.length_cons] at hbl
  have hx := hb x (by rw [ha]; simp)
  obtain ⟨n,rfl⟩ := Int.eq_ofNat_of_zero_le hx.1
  have hxg:List.getD (pre ++ b) (pre.length+i) (dflt (.int .u8))=(n:Int) := by
   rw [ha,List.getD_eq_getElem?_getD,List.getElem?_append_right (by omega),List.getElem?_append_right (by omega),hp,show pre.length+i-pre.length-i=0 by omega]
   rfl
  have e1:decide (((pre.length+i:Nat):Int)≥((pre ++ b).length:Int))=false := by rw [hlen]; simp; omega
  have e3:decide ((0:Int)≤((pre.length+i:Nat):Int)∧((pre.length+i:Nat):Int)<((pre ++ b).length:Int))=true := by rw [hlen]; simp; omega
  have e4:decide (pre.length+i<(pre ++ b).length)=true := by rw [hlen]; simp; omega
  have e7:decide ((0:Int)≤IntKind.wrap .i64 ((7:Int) * (i:Int)))=true := by rw [wi64 (by omega) (by omega)]; simp; omega
  by_cases h9:i=9∧(n:Int) ≠ 1
  ·right
   obtain ⟨h9,hn1⟩ := h9
   have hd:numS i acc ((n:Int) :: r)=(0,0,12) := by rw [numS,if_pos ⟨h9,hn1⟩]
   rw [← hnum,hd]
   have g1:((i:Int)==9)=true := by rw [h9]; rfl
   have g2:((n:Int) != 1)=true := bne_iff_ne.2 hn1
   simp only [wc,e1,e3,e4,Int.toNat_natCast,hxg,cond_true,cond_false,g1,g2,orK_inl]
   rw [p46_is (by decide)]
   rfl
  ·have hok:(bif ((i:Int)==9) then (some (.inl ((((n:Int) != 1),()),())):Option (((Bool×Unit)×Unit) ⊕ ((Int×(Int×Unit))×Unit ⊕ (((List Int×Int×Int×Int×Unit)×Unit)×Int)))) else some (.inl ((false,()),())))=some (.inl ((false,()),())) := by
    by_cases e9:i=9
    ·have hn1:(n:Int)=1 := Decidable.byContradiction fun k=>h9 ⟨e9,k⟩
     rw [hn1,e9]
     rfl
    ·have g1:((i:Int)==9)=false := by simp; omega
     rw [g1]
     rfl
   have hpow:i=9→(128:Nat) ^ i=9223372036854775808 := fun e=>by rw [e]
   have hpow8:i≤8→(128:Nat) ^ i≤72057594037927936 := fun e=>by
    have := Nat.pow_le_pow_right (n := 128) (by decide) e
    have e8:(128:Nat) ^ 8=72057594037927936 := by decide
    omega
   have hmul:n % 128 * 128 ^ i≤127 * 128 ^ i := Nat.mul_le_mul_right _ (by omega)
   have hpos:0<128 ^ i := Nat.pow_pos (by decide)
   have hbound:acc+n % 128 * 128 ^ i<18446744073709551616 := by
    by_cases e9:i=9
    ·have hn1:(n:Int)=1 := Decidable.byContradiction fun k=>h9 ⟨e9,k⟩
     have hn1':n=1 := by omega
     have := hpow e9
     rw [hn1'] at hmul ⊢
     rw [this] at hacc ⊢
     omega
    ·have := hpow8 (by omega)
     generalize 128 ^ i=q at *
     omega
   have hac:IntKind.wrap .u64 ((acc:Int)+(IntKind.wrap .u64 ((IntKind.wrap .u64 ((n % 128:Nat):Int)) * 2 ^ (min (Int.toNat (IntKind.wrap .i64 ((7:Int) * (i:Int)))) (IntKind.bits .u64)))))=((acc+n % 128 * 128 ^ i:Nat):Int) := by
    have hy1:n % 128≤n % 128 * 128 ^ i := Nat.le_mul_of_pos_right _ hpos
    rw [pow7 i hi,wu64 (x := ((n % 128:Nat):Int)) (by omega) (by omega),← Int.natCast_mul,wu64 (x := ((n % 128 * 128 ^ i:Nat):Int)) (by omega) (by omega),← Int.natCast_add,wu64 (by omega) (by omega)]
   by_cases h128:(n:Int)<128
   ·right
    have e8:decide ((n:Int)<128)=true := decide_eq_true h128
    have wc2:IntKind.wrap .i64 (((pre.length+i:Nat):Int)+1)=(pre.length:Int)+((i+1:Nat):Int) := by rw [wi64 (by omega) (by omega)]; omega
    simp only [wc,e1,e3,e4,Int.toNat_natCast,hxg,cond_true,cond_false,hok,orK_inl,e7,e8,low7 n (by omega),hac,wc2]
    by_cases h0:(n:Int)=0∧0<i
    ·have hd:numS i acc ((n:Int) :: r)=(0,0,12) := by rw [numS,if_neg h9,if_pos h0]
     have g2:((n:Int)==0)=true := beq_iff_eq.2 h0.1
     have g3:decide ((i:Int)>0)=true := by simp; omega
     rw [← hnum,hd]
     simp only [g2,g3,cond_true,orK_inl]
     rw [p46_is (by decide)]
     rfl
    ·have hd:numS i acc ((n:Int) :: r)=(((acc+n % 128 * 128 ^ i:Nat):Int),((i+1:Nat):Int),0) := by rw [numS,if_neg h9,if_neg h0,if_pos h128]; rfl
     have hz:(bif ((n:Int)==0) then (some (.inl ((decide ((i:Int)>0),()),())):Option (((Bool×Unit)×Unit) ⊕ ((Int×(Int×Unit))×Unit ⊕ (((List Int×Int×Int×Int×Unit)×Unit)×Int)))) else some (.inl ((false,()),())))=some (.inl ((false,()),())) := by
      by_cases hn0:(n:Int)=0
      ·have hi0:i=0 := Decidable.byContradiction fun k=>h0 ⟨hn0,by omega⟩
       rw [hn0,hi0]
       rfl
      ·have g2:((n:Int)==0)=false := beq_eq_false_iff_ne.2 hn0
       rw [g2]
       rfl
     rw [← hnum,hd]
     simp only [hz,orK_inl,cond_false,inrO,Option.map_some]
     rfl
   ·left
    have e9:i ≠ 9 := fun e=>h9 ⟨e,by omega⟩
    have h0:¬ ((n:Int)=0∧0<i) := by omega
    have hd:numS i acc ((n:Int) :: r)=numS (i+1) (acc+n % 128 * 128 ^ i) r := by rw [numS,if_neg h9,if_neg h0,if_neg h128]; rfl
    have e8:decide ((n:Int)<128)=false := decide_eq_false h128
    refine ⟨((((acc+n % 128 * 128 ^ i:Nat):Int),((i+1:Nat):Int),()),()),?_,⟨i+1,acc+n % 128 * 128 ^ i,q ++ [(n:Int)],r,by omega,rfl,?_,?_,?_,?_⟩,?_,rfl⟩
    ·simp only [wc,e1,e3,e4,Int.toNat_natCast,hxg,cond_true,cond_false,hok,orK_inl,e7,e8,low7 n (by omega),hac,wi]
    ·rw [ha]; simp
    ·simp [hp]
    ·rw [Nat.pow_succ]
     generalize 128 ^ i=q at *
     omega
    ·rw [← hd]; exact hnum
    ·dsimp only
     omega
inductive RR (α:Type) where
 | ok (c:Nat) (v:α)
 | er (e q:Int)
def RR.bind {α β:Type}:RR α→(Nat→α→RR β)→RR β
 | .ok c v,k=>k c v
 | .er e q,_ => .er e q
def uS (a:List Int) (c:Nat):RR Int :=
 if (numS 0 0 (a.drop c)).2.2=0 then .ok (c+(numS 0 0 (a.drop c)).2.1.toNat) (numS 0 0 (a.drop c)).1 else .er (numS 0 0 (a.drop c)).2.2 c
def iS (a:List Int) (c:Nat):RR Int := (uS a c).bind fun c v => .ok c (unzz v)
def cntS (a:List Int) (m:Int) (c:Nat):RR Int :=
 (uS a c).bind fun c1 v=>if m<0 ∨ v>m then .er 13 (c:Int) else if v>((a.length-c1:Nat):Int) then .er 11 (c:Int) else .ok c1 v
def bytS (a:List Int) (m:Int) (c:Nat):RR (List Int) := (cntS a m c).bind fun c1 n => .ok (c1+n.toNat) ((a.drop c1).take n.toNat)
def boolS (a:List Int) (c:Nat):RR Bool := if a.length≤c then .er 11 (c:Int) else if a.getD c 0>1 then .er 16 (c:Int) else .ok (c+1) (a.getD c 0==1)
def nodS (a:List Int):Nat→List Int→Nat→RR (List Int)
 | 0,l,c => .ok c l
 | n+1,l,c=>(iS a c).bind fun c1 x=>nodS a n (l ++ [x]) c1
def ndsS (a:List Int) (c:Nat):RR (List Int) := (cntS a 7 c).bind fun c1 n=>nodS a n.toNat [] c1
def confS (a:List Int) (c:Nat):RR (List Int×List Int×Unit) := (ndsS a c).bind fun c1 l=>(ndsS a c1).bind fun c2 m => .ok c2 (l,m,())
def kindS (a:List Int) (c:Nat):RR Int := (iS a c).bind fun c1 k=>if k<1 ∨ k>3 then .er 16 (c:Int) else .ok c1 k
def entS (a:List Int) (c:Nat):RR (Int×Int×Int×List Int×List Int×List Int×Unit) :=
 (uS a c).bind fun c i=>(uS a c).bind fun c t=>(kindS a c).bind fun c k=>(bytS a 262144 c).bind fun c d=>(confS a c).bind fun c f => .ok c (i,t,k,d,f)
abbrev DT := List Int×Int×Int×Int×Unit
def DR {α:Type} (a:List Int) (d:α) (r:RR α) (P:α→Prop) (o:Option ((DT×Unit)×α)):Prop :=
 match r with
 | .ok c v=>c≤a.length∧P v∧o=some (((a,(c:Int),0,0,()),()),v)
 | .er e q=>e ≠ 0 ∧ ∃ c,o=some (((a,c,e,q,()),()),d)
theorem uS_cases {fu:Nat} {a:List Int} {c:Nat} (h:okA fu a) (hc:c≤a.length) :
  (∃ v k:Nat,numS 0 0 (a.drop c)=((v:Int),(k:Int),0)∧uS a c = .ok (c+k) (v:Int)∧c+k≤a.length∧isU (v:Int)) ∨ (∃ e:Int,e ≠ 0∧numS 0 0 (a.drop c)=(0,0,e)∧uS a c = .er e c) := by
 rcases numS_facts (a.drop c) 0 0 with ⟨v,k,hnum,hk0,hk⟩ | ⟨e,he,hnum⟩
 ·refine .inl ⟨v,k,hnum,?_,?_,numS_u _ 0 0 _ _ (h.dr c) (by omega) (by decide) hnum⟩
  ·unfold uS
   rw [hnum,if_pos rfl]
   rfl
  ·rw [List.length_drop] at hk; omega
 ·refine .inr ⟨e,he,hnum,?_⟩
  unfold uS
  rw [hnum,if_neg he]
def isBs (a l:List Int):Prop := l.length≤a.length ∧ ∀ x ∈ l,0≤x∧x≤255
theorem cntS_ok {a:List Int} {m:Int} {c c1:Nat} {v:Int} (h:cntS a m c = .ok c1 v):v≤m∧v≤((a.length-c1:Nat):Int) ∧ ∃ k,uS a c = .ok c1 k := by
 unfold cntS at h
 rcases hu:uS a c with ⟨c1',v'⟩ | ⟨e,q⟩
 ·rw [hu] at h
  simp only [RR.bind] at h
  split at h
  ·cases h
  ·split at h
   ·cases h
   ·injection h with h1 h2
    subst h1 h2
    exact ⟨by omega,by omega,_,rfl⟩
 ·rw [hu] at h
  cases h
def okL (l:List Int):Prop := l.length≤7 ∧ ∀ x ∈ l,isI x
theorem p45_er {a:List Int} {c e q:Int} (he:e ≠ 0):p45 fu ((a,c,e,q,()),())=some (((a,c,e,q,()),()),0) := by
 have g:(e != 0)=true := bne_iff_ne.2 he
 unfold p45
 simp only [g,cond_true]
theorem p45D {a:List Int} {c:Nat} (h:okA fu a) (hc:c≤a.length):DR a 0 (uS a c) isU (p45 fu ((a,(c:Int),0,0,()),())) := by
 have hl := h.hn
 have hp := p45_any (fu := fu) (pre := a.take c) (b := a.drop c) (h := 0) (h.dr c) (by rw [List.take_append_drop]; exact hl) h.hfu
 rw [List.take_append_drop,List.length_take,Nat.min_eq_left hc] at hp
 rw [hp]
 rcases uS_cases h hc with ⟨v,k,hnum,hu,hk,hv⟩ | ⟨e,he,hnum,hu⟩
 ·rw [hu,hnum]
  exact ⟨hk,hv,rfl⟩
 ·rw [hu,hnum]
  refine ⟨he,c,?_⟩
  unfold afterU
  rw [if_neg he]
theorem p48_er {a:List Int} {c e q:Int} (he:e ≠ 0):p48 fu ((a,c,e,q,()),())=some (((a,c,e,q,()),()),0) := by
 unfold p48
 dsimp only
 rw [p45_er he]
 rfl
theorem p48D {a:List Int} {c:Nat} (h:okA fu a) (hc:c≤a.length):DR a 0 (iS a c) isI (p48 fu ((a,(c:Int),0,0,()),())) := by
 have hp := p45D h hc
 unfold iS p48
 dsimp only
 rcases hu:uS a c with ⟨c1,v⟩ | ⟨e,q⟩
 ·rw [hu] at hp
  obtain ⟨h1,h2,h3⟩ := hp
  rw [h3]
  obtain ⟨n,rfl⟩ := Int.eq_ofNat_of_zero_le h2.1
  have hn := h2.2
  have et:Int.tmod (n:Int) 2=((n % 2:Nat):Int) := rfl
  have ed:Int.tdiv (n:Int) 2=((n / 2:Nat):Int) := rfl
  simp only [Option.bind_some,RR.bind,et,ed]
  rw [wu64 (x := ((n / 2:Nat):Int)) (by omega) (by omega),wi64 (x := ((n / 2:Nat):Int)) (by omega) (by omega),wi64 (x := 0-((n / 2:Nat):Int)) (by omega) (by omega),wi64 (x := 0-((n / 2:Nat):Int)-1) (by omega) (by omega)]
  by_cases ho:n % 2=1
  ·have g:(((n % 2:Nat):Int)==1)=true := by rw [ho]; rfl
   refine ⟨h1,unzz_i h2,?_⟩
   simp only [g,cond_true]
   unfold unzz
   rw [if_pos (by omega),show 0-((n / 2:Nat):Int)-1 = -((n:Int) / 2)-1 by omega]
  ·have g:(((n % 2:Nat):Int)==1)=false := beq_eq_false_iff_ne.2 (by omega)
   refine ⟨h1,unzz_i h2,?_⟩
   simp only [g,cond_false]
   unfold unzz
   rw [if_neg (by omega),show ((n / 2:Nat):Int)=(n:Int) / 2 by omega]
 ·rw [hu] at hp
  obtain ⟨h1,c2,h3⟩ := hp
  rw [h3]
  exact ⟨h1,c2,rfl⟩
theorem p47_er {a:List Int} {c e q:Int} (he:e ≠ 0):p47 fu ((a,c,e,q,()),())=some (((a,c,e,q,()),()),false) := by
 have g:(e != 0)=true := bne_iff_ne.2 he
 unfold p47
 simp only [g,cond_true]
theorem p47D {a:List Int} {c:Nat} (h:okA fu a) (_:c≤a.length):DR a false (boolS a c) (fun _=>True) (p47 fu ((a,(c:Int),0,0,()),())) := by
 have hl := h.hn
 unfold boolS p47
 simp only [bne_self_eq_false,cond_false]
 by_cases hz:a.length≤c
 ·have g:decide ((c:Int)≥(a.length:Int))=true := by simp; omega
  rw [if_pos hz]
  refine ⟨by decide,c,?_⟩
  simp only [g,cond_true]
  rw [p46_is (by decide)]
  rfl
 ·have g:decide ((c:Int)≥(a.length:Int))=false := by simp; omega
  have e1:decide ((0:Int)≤(c:Int)∧(c:Int)<(a.length:Int))=true := by simp; omega
  have e2:decide (c<a.length)=true := by simp; omega
  have w1:IntKind.wrap .i64 ((c:Int)+1)=((c+1:Nat):Int) := by rw [wi64 (by omega) (by omega)]; omega
  have w2:IntKind.wrap .i64 (((c+1:Nat):Int)-1)=(c:Int) := by rw [wi64 (by omega) (by omega)]; omega
  have eg:a.getD c (dflt (.int .u8))=a.getD c 0 := rfl
  rw [if_neg hz]
  simp only [g,cond_false,e1,e2,Int.toNat_natCast,cond_true,eg,w1,w2]
  by_cases hk:a.getD c 0>1
  ·rw [if_pos hk]
   refine ⟨by decide,c,?_⟩
   simp only [decide_eq_true hk,cond_true]
   rw [p46_is (by decide)]
   rfl
  ·rw [if_neg hk]
   refine ⟨by omega,trivial,?_⟩
   simp only [decide_eq_false hk,cond_false]
theorem p25_er {a:List Int} {c e q j:Int} (he:e ≠ 0):p25 fu ((a,c,e,q,()),j,())=some (((a,c,e,q,()),()),0) := by
 have g:(e != 0)=true := bne_iff_ne.2 he
 unfold p25
 dsimp only
 rw [p45_er he]
 simp only [Option.bind_some,g,cond_true]
theorem p25D {a:List Int} {c:Nat} {j:Int} (h:okA fu a) (hc:c≤a.length) (hj:isI j):DR a 0 (cntS a j c) (fun n=>0≤n) (p25 fu ((a,(c:Int),0,0,()),j,())) := by
 have hp := p45D (fu := fu) h hc
 have hl := h.hn
 obtain ⟨hj1,hj2⟩ := hj
 unfold cntS p25
 dsimp only
 rcases hu:uS a c with ⟨c1,v⟩ | ⟨e,q⟩
 ·rw [hu] at hp
  obtain ⟨h1,⟨h2,h2'⟩,h3⟩ := hp
  rw [h3]
  simp only [Option.bind_some,cond_false,RR.bind,bne_self_eq_false]
  have hw2:IntKind.wrap .u64 (IntKind.wrap .i64 ((a.length:Int)-(c1:Int)))=((a.length-c1:Nat):Int) := by rw [wi64 (by omega) (by omega),wu64 (by omega) (by omega)]; omega
  by_cases hbad:j<0 ∨ v>j
  ·rw [if_pos hbad]
   refine ⟨by decide,c,?_⟩
   by_cases g:j<0
   ·simp only [decide_eq_true g,cond_true,orK_inl]
    rw [p46_is (by decide)]
    rfl
   ·have g2:v>IntKind.wrap .u64 j := by rw [wu64 (by omega) (by omega)]; omega
    simp only [decide_eq_false g,decide_eq_true g2,cond_true,cond_false,orK_inl]
    rw [p46_is (by decide)]
    rfl
  ·rw [if_neg hbad]
   have g:¬ j<0 := fun k=>hbad (.inl k)
   have g2:¬ v>IntKind.wrap .u64 j := by rw [wu64 (by omega) (by omega)]; omega
   simp only [decide_eq_false g,decide_eq_false g2,cond_false,orK_inl,hw2]
   by_cases g3:v>((a.length-c1:Nat):Int)
   ·rw [if_pos g3]
    refine ⟨by decide,c,?_⟩
    simp only [decide_eq_true g3,cond_true]
    rw [p46_is (by decide)]
    rfl
   ·rw [if_neg g3]
    have hwv:IntKind.wrap .i64 v=v := wi64 (by omega) (by omega)
    refine ⟨h1,h2,?_⟩
    simp only [decide_eq_false g3,cond_false,hwv]
 ·rw [hu] at hp
  obtain ⟨h1,c2,h3⟩ := hp
  have ge:(e != 0)=true := bne_iff_ne.2 h1
  rw [h3]
  simp only [Option.bind_some,ge,cond_true,RR.bind]
  exact ⟨h1,c2,rfl⟩
theorem p51_er {a:List Int} {c e q j:Int} (he:e ≠ 0):p51 fu ((a,c,e,q,()),j,())=some (((a,c,e,q,()),()),[]) := by
 have g:(e != 0)=true := bne_iff_ne.2 he
 unfold p51
 dsimp only
 rw [p25_er he]
 simp only [Option.bind_some,g,cond_true]
theorem p51D {a:List Int} {c:Nat} {j:Int} (h:okA fu a) (hc:c≤a.length) (hj:isI j):DR a [] (bytS a j c) (isBs a) (p51 fu ((a,(c:Int),0,0,()),j,())) := by
 have hp := p25D (fu := fu) h hc hj
 have hl := h.hn
 unfold bytS p51
 dsimp only
 rcases hu:cntS a j c with ⟨c1,v⟩ | ⟨e,q⟩
 ·rw [hu] at hp
  obtain ⟨h1,h2,h3⟩ := hp
  obtain ⟨k,rfl⟩ := Int.eq_ofNat_of_zero_le h2
  have hck := (cntS_ok hu).2.1
  rw [h3]
  have w1:IntKind.wrap .i64 ((c1:Int)+(k:Int))=((c1+k:Nat):Int) := by rw [wi64 (by omega) (by omega)]; omega
  have w2:IntKind.wrap .i64 (((c1+k:Nat):Int)-(k:Int))=(c1:Int) := by rw [wi64 (by omega) (by omega)]; omega
  have e2:decide ((0:Int)≤(c1:Int))=true := by simp
  have e3:decide ((0:Int)≤((c1+k:Nat):Int))=true := by simp; omega
  have e4:decide (c1≤c1+k∧c1+k≤a.length)=true := by simp; omega
  have es:slice' a c1 (some (c1+k))=(a.drop c1).take k := by rw [sl_eq,Nat.add_sub_cancel_left]
  have hl2:((a.drop c1).take k).length≤140737488355328 := by rw [List.length_take,List.length_drop]; omega
  have e5:(0+((a.drop c1).take k).length≤maxLen∧(0+((a.drop c1).take k).length) * 1≤140737488355328)=True := eq_true ⟨Nat.le_trans (by omega) (show 140737488355328≤maxLen by decide),by omega⟩
  simp only [Option.bind_some,cond_false,RR.bind,bne_self_eq_false,w1,w2,e2,e3,Int.toNat_natCast,e4,es,e5,decide_true,cond_true,List.length_nil,List.nil_append]
  refine ⟨by omega,⟨by rw [List.length_take,List.length_drop]; omega,fun x hx=>h.hb x (List.mem_of_mem_drop (List.mem_of_mem_take hx))⟩,rfl⟩
 ·rw [hu] at hp
  obtain ⟨h1,c2,h3⟩ := hp
  have ge:(e != 0)=true := bne_iff_ne.2 h1
  rw [h3]
  simp only [Option.bind_some,ge,cond_true,RR.bind]
  exact ⟨h1,c2,rfl⟩
theorem p67_er {a:List Int} {c e q:Int} (he:e ≠ 0) (hfu:10<fu):p67 fu ((a,c,e,q,()),())=some (((a,c,e,q,()),()),[]) := by
 have g:(e != 0)=true := bne_iff_ne.2 he
 obtain ⟨f,rfl⟩:∃ f,fu=f+1 := ⟨fu-1,by omega⟩
 unfold p67
 dsimp only
 rw [p25_er he]
 simp only [Option.bind_some]
 simp only [loopO,Int.lt_irrefl,decide_false,decide_true,cond_true,cond_false,inrO,Option.map_some,orK_inl,g]
def ND (a:List Int) (m:Nat) (r:RR (List Int)) (s:(List Int×Int×Unit)×(DT×Unit)):Prop :=
 ∃ (k:Nat) (l:List Int),k≤m∧l.length=k∧(∀ x ∈ l,isI x)∧((∃ c:Nat,c≤a.length∧nodS a (m-k) l c=r∧s=((l,(k:Int),()),((a,(c:Int),0,0,()),()))) ∨ (∃ c e q:Int,e ≠ 0∧r = .er e q∧s=((l,(k:Int),()),((a,c,e,q,()),()))))
theorem orK_G {S E R:Type} {f:S→Option (S ⊕ (E ⊕ R))} {n:Nat} {s:S} {k:E→Option R} (G:Option R→Prop) (I:S→Prop) (m:S→Nat) (hs:I s) (hn:m s<n) (h:∀ s,I s → ∃ o,f s=some o∧LStep I m (fun r=>G (orK (some r) k)) s o):G (orK (loopO n f s) k) := by
 obtain ⟨r,h1,h2⟩ := loopO_rule I m _ h n s hs hn
 rw [h1]
 exact h2
theorem p67D {a:List Int} {c:Nat} (h:okA fu a) (hc:c≤a.length):DR a [] (ndsS a c) okL (p67 fu ((a,(c:Int),0,0,()),())) := by
 have hp := p25D (fu := fu) (j := 7) h hc (by unfold isI; omega)
 have hfu := h.hfu
 unfold ndsS p67
 dsimp only
 rcases hu:cntS a 7 c with ⟨c1,v⟩ | ⟨e,q⟩
 ·rw [hu] at hp
  obtain ⟨h1,h2,h3⟩ := hp
  obtain ⟨m,rfl⟩ := Int.eq_ofNat_of_zero_le h2
  have hm7 := (cntS_ok hu).1
  rw [h3]
  simp only [Option.bind_some,RR.bind,Int.toNat_natCast]
  generalize hR:nodS a m [] c1=R
  refine orK_G (G := fun o=>DR a [] R okL o) (ND a m R) (fun s=>m-s.1.2.1.toNat) ⟨0,[],Nat.zero_le _,rfl,fun x hx=>by simp at hx,.inl ⟨c1,h1,hR,rfl⟩⟩ (Nat.lt_of_le_of_lt (Nat.sub_le m _) (show m<fu by omega)) ?_
  rintro _ ⟨k,l,hk,hl,hi,⟨c,hc,hr,rfl⟩ | ⟨c,e,q,he,hr,rfl⟩⟩
  ·by_cases hlt:k<m
   ·have e1:decide ((k:Int)<(m:Int))=true := by simpa using hlt
    have hw:IntKind.wrap .i64 ((k:Int)+1)=((k+1:Nat):Int) := by rw [wi64 (by omega) (by omega)]; omega
    have h8 := len8 (n := k+1) (by omega)
    have hq := p48D (fu := fu) h hc
    rw [show m-k=(m-(k+1))+1 by omega,nodS] at hr
    rcases hu2:iS a c with ⟨c2,x⟩ | ⟨e,q⟩
    ·rw [hu2] at hq hr
     obtain ⟨g1,g2,g3⟩ := hq
     refine ⟨.inl (((l ++ [x]),((k+1:Nat):Int),()),((a,(c2:Int),0,0,()),())),?_,⟨k+1,l ++ [x],hlt,by simp [hl],?_,.inl ⟨c2,g1,hr,rfl⟩⟩,by dsimp only; omega⟩
     ·simp only [e1,cond_true,g3,Option.bind_some,decide_true,List.length_singleton,hl,h8,and_self,hw,BEq.rfl]
     ·intro y hy
      rcases List.mem_append.1 hy with h | h
      ·exact hi y h
      ·rw [List.mem_singleton.1 h]; exact g2
    ·rw [hu2] at hq hr
     obtain ⟨g1,c2,g3⟩ := hq
     refine ⟨.inl (((l ++ [0]),((k+1:Nat):Int),()),((a,c2,e,q,()),())),?_,⟨k+1,l ++ [0],hlt,by simp [hl],?_,.inr ⟨c2,e,q,g1,hr.symm,rfl⟩⟩,by dsimp only; omega⟩
     ·simp only [e1,cond_true,g3,Option.bind_some,decide_true,List.length_singleton,hl,h8,and_self,hw,BEq.rfl]
     ·intro y hy
      rcases List.mem_append.1 hy with h | h
      ·exact hi y h
      ·rw [List.mem_singleton.1 h]; unfold isI; omega
   ·have hkm:k=m := by omega
    subst hkm
    have e1:decide ((k:Int)<(k:Int))=false := by simp
    rw [Nat.sub_self] at hr
    rw [nodS] at hr
    refine ⟨.inr (.inl ((l,()),((a,(c:Int),0,0,()),()))),?_,?_⟩
    ·simp only [cond_false,e1,decide_true,cond_true,inrO,Option.map_some]
    ·show DR a [] R okL _
     rw [← hr]
     simp only [orK_inl,bne_self_eq_false,cond_false]
     exact ⟨hc,⟨by omega,hi⟩,rfl⟩
  ·have ge:(e != 0)=true := bne_iff_ne.2 he
   have gf:(e==0)=false := beq_eq_false_iff_ne.2 he
   refine ⟨.inr (.inl ((l,()),((a,c,e,q,()),()))),?_,?_⟩
   ·rcases Bool.eq_false_or_eq_true (decide ((k:Int)<(m:Int))) with g | g <;> simp only [g,gf,cond_true,cond_false,decide_true,inrO,Option.map_some]
   ·show DR a [] R okL _
    rw [hr]
    simp only [orK_inl,ge,cond_true]
    exact ⟨he,c,rfl⟩
 ·rw [hu] at hp
  obtain ⟨h1,c2,h3⟩ := hp
  have ge:(e != 0)=true := bne_iff_ne.2 h1
  rw [h3]
  obtain ⟨f,rfl⟩:∃ f,fu=f+1 := ⟨fu-1,by omega⟩
  simp only [Option.bind_some,RR.bind]
  simp only [loopO,Int.lt_irrefl,decide_false,decide_true,cond_true,cond_false,inrO,Option.map_some,orK_inl,ge]
  exact ⟨h1,c2,rfl⟩
theorem p50_er {a:List Int} {c e q:Int} (he:e ≠ 0) (hfu:10<fu):p50 fu ((a,c,e,q,()),())=some (((a,c,e,q,()),()),([],[],())) := by
 have g:(e != 0)=true := bne_iff_ne.2 he
 unfold p50
 dsimp only
 simp only [p67_er he hfu,Option.bind_some,g,cond_true]
theorem p50D {a:List Int} {c:Nat} (h:okA fu a) (hc:c≤a.length):DR a ([],[],()) (confS a c) (fun f=>okL f.1∧okL f.2.1) (p50 fu ((a,(c:Int),0,0,()),())) := by
 unfold confS p50
 dsimp only
 have hp0 := p67D (fu := fu) h hc
 rcases hu0:ndsS a c with ⟨c0,v0⟩ | ⟨e,q⟩
 rotate_left
 ·rw [hu0] at hp0
  obtain ⟨h1,c9,h3⟩ := hp0
  have ge:(e != 0)=true := bne_iff_ne.2 h1
  rw [h3]
  simp only [Option.bind_some,decide_true,cond_true,RR.bind,ge,p67_er h1 h.hfu]
  exact ⟨h1,c9,rfl⟩
 rw [hu0] at hp0
 obtain ⟨h10,h20,h30⟩ := hp0
 rw [h30]
 simp only [Option.bind_some,RR.bind,decide_true,cond_true]
 have hp1 := p67D (fu := fu) h h10
 rcases hu1:ndsS a c0 with ⟨c1,v1⟩ | ⟨e,q⟩
 rotate_left
 ·rw [hu1] at hp1
  obtain ⟨h1,c9,h3⟩ := hp1
  have ge:(e != 0)=true := bne_iff_ne.2 h1
  rw [h3]
  simp only [Option.bind_some,cond_true,ge]
  exact ⟨h1,c9,rfl⟩
 rw [hu1] at hp1
 obtain ⟨h11,h21,h31⟩ := hp1
 rw [h31]
 simp only [Option.bind_some,cond_false,bne_self_eq_false]
 exact ⟨h11,⟨h20,h21⟩,rfl⟩
theorem p46_er {a:List Int} {c e q j k:Int} (he:e ≠ 0):p46 fu ((a,c,e,q,()),j,k,())=some (((a,c,e,q,()),()),()) := by
 have g:(e==0)=false := beq_eq_false_iff_ne.2 he
 unfold p46
 simp only [g,cond_false,orK_inl]
theorem p49_er {a:List Int} {c e q:Int} (he:e ≠ 0) (hfu:10<fu):p49 fu ((a,c,e,q,()),())=some (((a,c,e,q,()),()),(0,0,0,[],[],[],())) := by
 have g:(e != 0)=true := bne_iff_ne.2 he
 have g2:decide ((0:Int)<1)=true := by decide
 unfold p49
 simp only [p45_er he,p48_er he,p51_er he,p50_er he hfu,p46_er he,Option.bind_some,g,g2,cond_true,orK_inl]
theorem p49D {a:List Int} {c:Nat} (h:okA fu a) (hc:c≤a.length):DR a (0,0,0,[],[],[],()) (entS a c) (fun x=>isU x.1∧isU x.2.1∧(1≤x.2.2.1∧x.2.2.1≤3)∧isBs a x.2.2.2.1∧okL x.2.2.2.2.1∧okL x.2.2.2.2.2.1) (p49 fu ((a,(c:Int),0,0,()),())) := by
 unfold entS p49
 dsimp only
 have hp0 := p45D (fu := fu) h hc
 rcases hu0:uS a c with ⟨c0,v0⟩ | ⟨e,q⟩
 rotate_left
 ·rw [hu0] at hp0
  obtain ⟨h1,c9,h3⟩ := hp0
  have ge:(e != 0)=true := bne_iff_ne.2 h1
  rw [h3]
  simp only [Option.bind_some,decide_true,cond_true,RR.bind,ge,p45_er h1,p48_er h1,p46_er h1,p51_er h1,p50_er h1 h.hfu,show decide ((0:Int)<1)=true by decide,orK_inl]
  exact ⟨h1,c9,rfl⟩
 rw [hu0] at hp0
 obtain ⟨h10,h20,h30⟩ := hp0
 rw [h30]
 simp only [Option.bind_some,RR.bind,decide_true,cond_true]
 have hp1 := p45D (fu := fu) h h10
 rcases hu1:uS a c0 with ⟨c1,v1⟩ | ⟨e,q⟩
 rotate_left
 ·rw [hu1] at hp1
  obtain ⟨h1,c9,h3⟩ := hp1
  have ge:(e != 0)=true := bne_iff_ne.2 h1
  rw [h3]
  simp only [Option.bind_some,cond_true,ge,p48_er h1,p46_er h1,p51_er h1,p50_er h1 h.hfu,show decide ((0:Int)<1)=true by decide,orK_inl]
  exact ⟨h1,c9,rfl⟩
 rw [hu1] at hp1
 obtain ⟨h11,h21,h31⟩ := hp1
 rw [h31]
 simp only [Option.bind_some]
 have hp2 := p48D (fu := fu) h h11
 unfold kindS
 rcases hu2:iS a c1 with ⟨c2,v2⟩ | ⟨e,q⟩
 rotate_left
 ·rw [hu2] at hp2
  obtain ⟨h1,c9,h3⟩ := hp2
  have ge:(e != 0)=true := bne_iff_ne.2 h1
  rw [h3]
  simp only [Option.bind_some,cond_true,RR.bind,ge,p46_er h1,p51_er h1,p50_er h1 h.hfu,show decide ((0:Int)<1)=true by decide,orK_inl]
  exact ⟨h1,c9,rfl⟩
 rw [hu2] at hp2
 obtain ⟨h12,h22,h32⟩ := hp2
 rw [h32]
 simp only [Option.bind_some,RR.bind]
 by_cases hbad:v2<1 ∨ v2>3
 ·rw [if_pos hbad]
  refine ⟨by decide,(c1:Int),?_⟩
  have h16:(16:Int) ≠ 0 := by decide
  have g16:((16:Int) != 0)=true := by decide
  by_cases g:v2<1
  ·simp only [decide_eq_true g,cond_true,orK_inl,p46_is h16,Option.bind_some,p51_er h16,p50_er h16 h.hfu,g16]
  ·have g2:v2>3 := by omega
   simp only [decide_eq_false g,decide_eq_true g2,cond_true,cond_false,orK_inl,p46_is h16,Option.bind_some,p51_er h16,p50_er h16 h.hfu,g16]
 rw [if_neg hbad]
 have g:¬ v2<1 := fun k=>hbad (.inl k)
 have g2:¬ v2>3 := fun k=>hbad (.inr k)
 simp only [decide_eq_false g,decide_eq_false g2,cond_false,orK_inl]
 have hp3 := p51D (fu := fu) h h12 (j := 262144) (by unfold isI; omega)
 rcases hu3:bytS a 262144 c2 with ⟨c3,v3⟩ | ⟨e,q⟩
 rotate_left
 ·rw [hu3] at hp3
  obtain ⟨h1,c9,h3⟩ := hp3
  have ge:(e != 0)=true := bne_iff_ne.2 h1
  rw [h3]
  simp only [Option.bind_some,cond_true,ge,p50_er h1 h.hfu]
  exact ⟨h1,c9,rfl⟩
 rw [hu3] at hp3
 obtain ⟨h13,h23,h33⟩ := hp3
 rw [h33]
 simp only [Option.bind_some]
 have hp4 := p50D (fu := fu) h h13
 rcases hu4:confS a c3 with ⟨c4,v4⟩ | ⟨e,q⟩
 rotate_left
 ·rw [hu4] at hp4
  obtain ⟨h1,c9,h3⟩ := hp4
  have ge:(e != 0)=true := bne_iff_ne.2 h1
  rw [h3]
  simp only [Option.bind_some,cond_true,ge]
  exact ⟨h1,c9,rfl⟩
 rw [hu4] at hp4
 obtain ⟨h14,h24,h34⟩ := hp4
 obtain ⟨fl,fm,⟨⟩⟩ := v4
 rw [h34]
 simp only [Option.bind_some,cond_false,bne_self_eq_false]
 exact ⟨h14,⟨h20,h21,⟨by dsimp only; omega,by dsimp only; omega⟩,h23,h24⟩,rfl⟩
theorem p29_er {a:List Int} {c e q:Int} (he:e ≠ 0):p29 fu ((a,c,e,q,()),())=some ((),e) := by
 have g:(e==0)=false := beq_eq_false_iff_ne.2 he
 unfold p29
 simp only [g,cond_false,orK_inl]
theorem p29_ok {a:List Int} {c q:Int}:p29 fu ((a,c,0,q,()),())=some ((),if c<(a.length:Int) then 15 else 0) := by
 unfold p29
 simp only [BEq.rfl,cond_true]
 by_cases g:c<(a.length:Int)
 ·simp only [decide_eq_true g,cond_true,if_pos g,inrO,Option.map_some,orK_inr]
 ·simp only [decide_eq_false g,cond_false,if_neg g,orK_inl]
theorem p26_er {a:List Int} {c e q k:Int} (he:e ≠ 0):p26 fu ((a,c,e,q,()),k,())=some (((a,c,e,q,()),()),()) := by
 unfold p26
 dsimp only
 rw [p46_er he]
 rfl
theorem p26_ok {a:List Int} {c k:Int} (hk:k ≠ 0):p26 fu ((a,c,0,0,()),k,())=some (((a,c,k,c,()),()),()) := by
 unfold p26
 dsimp only
 rw [p46_is hk]
 rfl
end Go.Proofs.YtahamggipcikgaaDoor.Dr
namespace Go.Proofs.YtahamggipcikgaaDoor
open Go.RowKit
variable {fu:Nat}
def toX {α:Type}:Dr.RR α→EX α
 | .ok c v => .ok (c,v)
 | .er e _ => .error e
theorem toX_bind {α β:Type} (r:Dr.RR α) (k:Nat→α→Dr.RR β):toX (r.bind k)=bx (toX r) fun p=>toX (k p.1 p.2) := by cases r <;> rfl
theorem toX_u (a:List Int) (c:Nat):toX (Dr.uS a c)=uX a c := by
 unfold Dr.uS uX
 split <;> rfl
theorem toX_i (a:List Int) (c:Nat):toX (Dr.iS a c)=iX a c := by
 unfold Dr.iS iX
 rw [toX_bind,toX_u]
 rfl
theorem toX_cnt (a:List Int) (m:Int) (c:Nat):toX (Dr.cntS a m c)=cntX m a c := by
 unfold Dr.cntS cntX
 rw [toX_bind,toX_u]
 congr 1
 funext p
 split
 ·rfl
 ·split <;> rfl
theorem toX_byt (a:List Int) (m:Int) (c:Nat):toX (Dr.bytS a m c)=bytX m a c := by
 unfold Dr.bytS bytX
 rw [toX_bind,toX_cnt]
 rfl
theorem toX_bool (a:List Int) (c:Nat):toX (Dr.boolS a c)=boolX a c := by
 unfold Dr.boolS boolX
 by_cases h:a.length≤c
 ·rw [if_pos h,if_neg (by omega)]
  rfl
 ·rw [if_neg h,if_pos (show c<a.length by omega)]
  by_cases h2:a.getD c 0>1
  ·rw [if_pos h2,if_neg (by omega)]
   rfl
  ·rw [if_neg h2,if_pos (by omega)]
   rfl
theorem toX_nod (a:List Int):∀ (n:Nat) (l:List Int) (c:Nat),toX (Dr.nodS a n l c)=repX iX a n l c
 | 0,l,c=>rfl
 | n+1,l,c=>by
  unfold Dr.nodS repX
  rw [toX_bind,toX_i]
  congr 1
  funext p
  exact toX_nod a n _ _
theorem toX_nds (a:List Int) (c:Nat):toX (Dr.ndsS a c)=listX iX 7 a c := by
 unfold Dr.ndsS listX
 rw [toX_bind,toX_cnt]
 congr 1
 funext p
 exact toX_nod a _ _ _
theorem toX_conf (a:List Int) (c:Nat):toX (Dr.confS a c)=cfX a c := by
 unfold Dr.confS cfX
 rw [toX_bind,toX_nds]
 congr 1
 funext p
 rw [toX_bind,toX_nds]
 rfl
theorem toX_kind (a:List Int) (c:Nat):toX (Dr.kindS a c)=kdX a c := by
 unfold Dr.kindS kdX
 rw [toX_bind,toX_i]
 congr 1
 funext p
 split <;> rfl
theorem toX_ent (a:List Int) (c:Nat):toX (Dr.entS a c)=enX a c := by
 unfold Dr.entS enX
 rw [toX_bind,toX_u]
 congr 1
 funext p0
 rw [toX_bind,toX_u]
 congr 1
 funext p1
 rw [toX_bind,toX_kind]
 congr 1
 funext p2
 rw [toX_bind,toX_byt]
 congr 1
 funext p3
 rw [toX_bind,toX_conf]
 rfl
def DX {α:Type} (a:List Int) (d:α) (r:EX α) (o:Option ((Dr.DT×Unit)×α)):Prop :=
 (∃ (c:Nat) (v:α),r = .ok (c,v)∧c≤a.length∧o=some (((a,(c:Int),0,0,()),()),v)) ∨ (∃ e:Int,r = .error e∧e ≠ 0 ∧ ∃ c q:Int,o=some (((a,c,e,q,()),()),d))
theorem DX.of {α:Type} {a:List Int} {d:α} {r:Dr.RR α} {x:EX α} {P:α→Prop} {o:Option ((Dr.DT×Unit)×α)} (h:Dr.DR a d r P o) (hx:toX r=x):DX a d x o := by
 subst hx
 cases r with
 | ok c v =>
  obtain ⟨h1,_,h3⟩ := h
  exact .inl ⟨c,v,rfl,h1,h3⟩
 | er e q =>
  obtain ⟨h1,c,h3⟩ := h
  exact .inr ⟨e,rfl,h1,c,q,h3⟩
theorem q45X {a:List Int} {c:Nat} (h:okA fu a) (hc:c≤a.length):DX a 0 (uX a c) (p45 fu ((a,(c:Int),0,0,()),())) := DX.of (Dr.p45D h hc) (toX_u a c)
theorem q48X {a:List Int} {c:Nat} (h:okA fu a) (hc:c≤a.length):DX a 0 (iX a c) (p48 fu ((a,(c:Int),0,0,()),())) := DX.of (Dr.p48D h hc) (toX_i a c)
theorem q47X {a:List Int} {c:Nat} (h:okA fu a) (hc:c≤a.length):DX a false (boolX a c) (p47 fu ((a,(c:Int),0,0,()),())) := DX.of (Dr.p47D h hc) (toX_bool a c)
theorem q25X {a:List Int} {c:Nat} {j:Int} (h:okA fu a) (hc:c≤a.length) (hj:isI j):DX a 0 (cntX j a c) (p25 fu ((a,(c:Int),0,0,()),j,())) := DX.of (Dr.p25D h hc hj) (toX_cnt a j c)
theorem q51X {a:List Int} {c:Nat} {j:Int} (h:okA fu a) (hc:c≤a.length) (hj:isI j):DX a [] (bytX j a c) (p51 fu ((a,(c:Int),0,0,()),j,())) := DX.of (Dr.p51D h hc hj) (toX_byt a j c)
theorem q50X {a:List Int} {c:Nat} (h:okA fu a) (hc:c≤a.length):DX a ([],[],()) (cfX a c) (p50 fu ((a,(c:Int),0,0,()),())) := DX.of (Dr.p50D h hc) (toX_conf a c)
theorem q49X {a:List Int} {c:Nat} (h:okA fu a) (hc:c≤a.length):DX a (0,0,0,[],[],[],()) (enX a c) (p49 fu ((a,(c:Int),0,0,()),())) := DX.of (Dr.p49D h hc) (toX_ent a c)
end Go.Proofs.YtahamggipcikgaaDoor
namespace Go.Proofs.YtahamggipcikgaaDoor
open Go.RowKit
variable {fu:Nat}
abbrev dO (a:List Int) (c:Nat):Dr.DT := (a,(c:Int),0,0,())
abbrev dE (a:List Int) (c e q:Int):Dr.DT := (a,c,e,q,())
def DE {α:Type} (a:List Int) (r:EX α) (o:Option ((Dr.DT×Unit)×α)):Prop :=
 (∃ (c:Nat) (v:α),r = .ok (c,v)∧c≤a.length∧o=some ((dO a c,()),v)) ∨ (∃ e:Int,r = .error e∧e ≠ 0 ∧ ∃ (c q:Int) (d:α),o=some ((dE a c e q,()),d))
section
variable {α S R:Type} {f:S→Option (S ⊕ R)} {a:List Int} {Sx:List Int→Nat→EX α} {n:Nat}
theorem list_erD (mk:Nat→List α→Dr.DT→S)
  (her:∀ k l c e q,k<n→l.length=k→e ≠ 0 → ∃ d,f (mk k l (dE a c e q))=some (.inl (mk (k+1) (l ++ [d]) (dE a c e q)))):∀ m k l c e q j,k+m=n→l.length=k→e ≠ 0→m<j → ∃ (l':List α) (i:Nat),l'.length=n∧loopO j f (mk k l (dE a c e q))=loopO (i+1) f (mk n l' (dE a c e q))
 | 0,k,l,c,e,q,j,hk,hl,he,hj=>by
  obtain ⟨j,rfl⟩:∃ i,j=i+1 := ⟨j-1,by omega⟩
  have:k=n := by omega
  subst this
  exact ⟨l,j,hl,rfl⟩
 | m+1,k,l,c,e,q,j,hk,hl,he,hj=>by
  obtain ⟨j,rfl⟩:∃ i,j=i+1 := ⟨j-1,by omega⟩
  obtain ⟨d,hd⟩ := her k l c e q (by omega) hl he
  obtain ⟨l',i,h1,h2⟩ := list_erD mk her m (k+1) (l ++ [d]) c e q j (by omega) (by simp [hl]) he (by omega)
  exact ⟨l',i,h1,by rw [← h2]; simp only [loopO,hd]⟩
theorem list_loopD (mk:Nat→List α→Dr.DT→S)
  (hok:∀ k l (c:Nat),k<n→l.length=k→c≤a.length→(∃ c1 v,Sx a c = .ok (c1,v)∧c1≤a.length∧f (mk k l (dO a c))=some (.inl (mk (k+1) (l ++ [v]) (dO a c1)))) ∨ (∃ e,Sx a c = .error e ∧ ∃ c1 q v,e ≠ 0∧f (mk k l (dO a c))=some (.inl (mk (k+1) (l ++ [v]) (dE a c1 e q)))))
  (her:∀ k l c e q,k<n→l.length=k→e ≠ 0 → ∃ d,f (mk k l (dE a c e q))=some (.inl (mk (k+1) (l ++ [d]) (dE a c e q)))):∀ m k l (c:Nat) j,k+m=n→l.length=k→c≤a.length→m<j →
   (∃ (c1:Nat) (v:List α) (i:Nat),repX Sx a m l c = .ok (c1,v)∧c1≤a.length∧v.length=n∧loopO j f (mk k l (dO a c))=loopO (i+1) f (mk n v (dO a c1))) ∨
    (∃ e:Int,repX Sx a m l c = .error e ∧ ∃ (c1 q:Int) (v:List α) (i:Nat),e ≠ 0∧v.length=n∧loopO j f (mk k l (dO a c))=loopO (i+1) f (mk n v (dE a c1 e q)))
 | 0,k,l,c,j,hk,hl,hc,hj=>by
  obtain ⟨j,rfl⟩:∃ i,j=i+1 := ⟨j-1,by omega⟩
  have:k=n := by omega
  subst this
  exact .inl ⟨c,l,j,rfl,hc,hl,rfl⟩
 | m+1,k,l,c,j,hk,hl,hc,hj=>by
  obtain ⟨j,rfl⟩:∃ i,j=i+1 := ⟨j-1,by omega⟩
  rcases hok k l c (by omega) hl hc with ⟨c1,v,h1,h2,h4⟩ | ⟨e,h1,c1,q,v,he,h4⟩
  ·have := list_loopD mk hok her m (k+1) (l ++ [v]) c1 j (by omega) (by simp [hl]) h2 (by omega)
   have e:loopO (j+1) f (mk k l (dO a c))=loopO j f (mk (k+1) (l ++ [v]) (dO a c1)) := by simp only [loopO,h4]
   rw [e]
   simp only [repX,h1,bx_ok]
   exact this
  ·obtain ⟨l',i,g1,g2⟩ := list_erD mk her m (k+1) (l ++ [v]) c1 e q j (by omega) (by simp [hl]) he (by omega)
   exact .inr ⟨e,by simp only [repX,h1,bx_er],c1,q,l',i,he,g1,by rw [← g2]; simp only [loopO,h4]⟩
theorem list_allD {o:Option R} {fu:Nat} {c:Nat} (mk:Nat→List α→Dr.DT→S) (ho:loopO fu f (mk 0 [] (dO a c))=o)
  (hok:∀ k l (c:Nat),k<n→l.length=k→c≤a.length→(∃ c1 v,Sx a c = .ok (c1,v)∧c1≤a.length∧f (mk k l (dO a c))=some (.inl (mk (k+1) (l ++ [v]) (dO a c1)))) ∨ (∃ e,Sx a c = .error e ∧ ∃ c1 q v,e ≠ 0∧f (mk k l (dO a c))=some (.inl (mk (k+1) (l ++ [v]) (dE a c1 e q)))))
  (her:∀ k l c e q,k<n→l.length=k→e ≠ 0 → ∃ d,f (mk k l (dE a c e q))=some (.inl (mk (k+1) (l ++ [d]) (dE a c e q)))) (hc:c≤a.length) (hn:n<fu) :
   (∃ (c1:Nat) (v:List α) (i:Nat),repX Sx a n [] c = .ok (c1,v)∧c1≤a.length∧v.length=n∧o=loopO (i+1) f (mk n v (dO a c1))) ∨
    (∃ e:Int,repX Sx a n [] c = .error e ∧ ∃ (c1 q:Int) (v:List α) (i:Nat),e ≠ 0∧v.length=n∧o=loopO (i+1) f (mk n v (dE a c1 e q))) := by
 subst ho
 exact list_loopD mk hok her n 0 [] c fu (by omega) rfl hc hn
end
theorem eq22:((2:Int)==2)=true := rfl
theorem eq12:((1:Int)==2)=false := rfl
theorem q27b {a:List Int} {c:Nat} (h:okA fu a) (hc:c≤a.length):DE a (bx (uX a c) fun r=>bx (btX a r.1) fun s => .ok (s.1,(r.2,s.2))) (p27 fu (dO a c,2,())) := by
 unfold p27 btX
 simp only [eq22,cond_true]
 rcases q45X h hc with ⟨c0,v0,hr0,h0,o0⟩ | ⟨e,hr0,he,c0,q,o0⟩
 rotate_left
 ·simp only [o0,hr0,Option.bind_some,bx_er,orK_inl,cond_true,cond_false,Bool.not_false,Dr.p45_er he,Dr.p47_er he]
  exact .inr ⟨e,rfl,he,_,_,_,rfl⟩
 simp only [o0,hr0,Option.bind_some,bx_ok]
 rcases q47X h h0 with ⟨c1,v1,hr1,h1,o1⟩ | ⟨e,hr1,he,c1,q,o1⟩
 rotate_left
 ·simp only [o1,hr1,Option.bind_some,bx_er,orK_inl,cond_true,cond_false,Bool.not_false,Dr.p45_er he]
  exact .inr ⟨e,rfl,he,_,_,_,rfl⟩
 simp only [o1,hr1,Option.bind_some,bx_ok]
 cases v1 with
 | true =>
  simp only [cond_true,orK_inl,Bool.not_true,cond_false]
  rcases q45X h h1 with ⟨c2,v2,hr2,h2,o2⟩ | ⟨e,hr2,he,c2,q,o2⟩
  rotate_left
  ·simp only [o2,hr2,Option.bind_some,bx_er,Dr.p45_er he]
   exact .inr ⟨e,rfl,he,_,_,_,rfl⟩
  simp only [o2,hr2,Option.bind_some,bx_ok]
  rcases q45X h h2 with ⟨c3,v3,hr3,h3,o3⟩ | ⟨e,hr3,he,c3,q,o3⟩
  rotate_left
  ·simp only [o3,hr3,Option.bind_some,bx_er]
   exact .inr ⟨e,rfl,he,_,_,_,rfl⟩
  simp only [o3,hr3,Option.bind_some,bx_ok]
  exact .inl ⟨_,_,rfl,h3,rfl⟩
 | false =>
  simp only [cond_false,orK_inl,Bool.not_false,cond_true]
  rcases q45X h h1 with ⟨c2,v2,hr2,h2,o2⟩ | ⟨e,hr2,he,c2,q,o2⟩
  rotate_left
  ·simp only [o2,hr2,Option.bind_some,bx_er,Dr.p45_er he]
   exact .inr ⟨e,rfl,he,_,_,_,rfl⟩
  simp only [o2,hr2,Option.bind_some,bx_ok]
  rcases q45X h h2 with ⟨c3,v3,hr3,h3,o3⟩ | ⟨e,hr3,he,c3,q,o3⟩
  rotate_left
  ·simp only [o3,hr3,Option.bind_some,bx_er,Dr.p45_er he]
   exact .inr ⟨e,rfl,he,_,_,_,rfl⟩
  simp only [o3,hr3,Option.bind_some,bx_ok]
  rcases q45X h h3 with ⟨c4,v4,hr4,h4,o4⟩ | ⟨e,hr4,he,c4,q,o4⟩
  rotate_left
  ·simp only [o4,hr4,Option.bind_some,bx_er,Dr.p45_er he]
   exact .inr ⟨e,rfl,he,_,_,_,rfl⟩
  simp only [o4,hr4,Option.bind_some,bx_ok]
  rcases q45X h h4 with ⟨c5,v5,hr5,h5,o5⟩ | ⟨e,hr5,he,c5,q,o5⟩
  rotate_left
  ·simp only [o5,hr5,Option.bind_some,bx_er]
   exact .inr ⟨e,rfl,he,_,_,_,rfl⟩
  simp only [o5,hr5,Option.bind_some,bx_ok]
  exact .inl ⟨_,_,rfl,h5,rfl⟩
end Go.Proofs.YtahamggipcikgaaDoor
namespace Go.Proofs.YtahamggipcikgaaDoor
open Go.RowKit
variable {fu:Nat}
theorem bx_assoc {α β γ:Type} (r:EX α) (k:Nat×α→EX β) (k':Nat×β→EX γ):bx (bx r k) k' = bx r fun p=>bx (k p) k' := by cases r <;> rfl
def mgY (a:List Int) (c:Nat):EX MZ :=
 bx (iX a c) fun r0=>bx (uX a r0.1) fun r1=>bx (uX a r1.1) fun r2=>bx (uX a r2.1) fun r3=>bx (listX en2X 8 a r3.1) fun r4=>bx (uX a r4.1) fun r5=>bx (boolX a r5.1) fun r6=>bx (uX a r6.1) fun r7=>bx (cfX a r7.1) fun r8=>bx (bytX 262144 a r8.1) fun r9=>bx (boolX a r9.1) fun r10 =>
  .ok (r10.1,(r0.2,0,0,r1.2,r2.2,r3.2,r4.2,r5.2,r6.2,r7.2,r8.2.1,r8.2.2.1,r9.2,r10.2,()))
theorem mgX_eq (a:List Int) (c:Nat):mgX a c=bx (mgY a c) fun p=>mgEX p.1 p.2 := by
 unfold mgX mgY
 simp only [bx_assoc,bx_ok]
theorem cntX_ok {a:List Int} {c c1:Nat} {j v:Int} (h:okA fu a) (hc:c≤a.length) (hr:cntX j a c = .ok (c1,v)):∃ k:Nat,v=(k:Int)∧(k:Int)≤j := by
 unfold cntX at hr
 rcases uX_cases h hc with ⟨w,k,hnum,hu,hk,hv⟩ | ⟨e,he,hnum,hu⟩
 ·rw [hu,bx_ok] at hr
  dsimp only at hr
  split at hr
  ·cases hr
  ·split at hr
   ·cases hr
   ·rename_i h1 h2
    injection hr with hr
    injection hr with h3 h4
    exact ⟨w,h4.symm,by omega⟩
 ·rw [hu,bx_er] at hr
  cases hr
theorem q27m {a:List Int} {c:Nat} (h:okA fu a) (hc:c≤a.length) (hf:4194304<fu):DE a (bx (uX a c) fun r=>bx (mgY a r.1) fun s => .ok (s.1,(r.2,s.2))) (p27 fu (dO a c,1,())) := by
 have hf1:10<fu := by omega
 obtain ⟨kk,hkk⟩:∃ k,fu=k+1 := ⟨fu-1,by omega⟩
 unfold p27 mgY listX
 simp only [eq12,cond_false,bx_assoc,bx_ok]
 rcases q45X h hc with ⟨c0,v0,hr0,h0,o0⟩ | ⟨e,hr0,he,c0,q,o0⟩
 rotate_left
 ·simp only [o0,hr0,Option.bind_some,bx_er,Dr.p45_er he,Dr.p48_er he,Dr.p25_er he]
  rw [hkk]
  rw [hkk] at hf1
  simp only [loopO,Int.lt_irrefl,decide_false,cond_false,Option.bind_some,inrO,Option.map_some,decide_true,cond_true,Dr.p45_er he,Dr.p47_er he,Dr.p49_er he hf1,Dr.p50_er he hf1,Dr.p51_er he]
  exact .inr ⟨e,rfl,he,_,_,_,rfl⟩
 simp only [o0,hr0,Option.bind_some,bx_ok]
 rcases q48X h h0 with ⟨c1,v1,hr1,h1,o1⟩ | ⟨e,hr1,he,c1,q,o1⟩
 rotate_left
 ·simp only [o1,hr1,Option.bind_some,bx_er,Dr.p45_er he,Dr.p25_er he]
  rw [hkk]
  rw [hkk] at hf1
  simp only [loopO,Int.lt_irrefl,decide_false,cond_false,Option.bind_some,inrO,Option.map_some,decide_true,cond_true,Dr.p45_er he,Dr.p47_er he,Dr.p49_er he hf1,Dr.p50_er he hf1,Dr.p51_er he]
  exact .inr ⟨e,rfl,he,_,_,_,rfl⟩
 simp only [o1,hr1,Option.bind_some,bx_ok]
 rcases q45X h h1 with ⟨c2,v2,hr2,h2,o2⟩ | ⟨e,hr2,he,c2,q,o2⟩
 rotate_left
 ·simp only [o2,hr2,Option.bind_some,bx_er,Dr.p45_er he,Dr.p25_er he]
  rw [hkk]
  rw [hkk] at hf1
  simp only [loopO,Int.lt_irrefl,decide_false,cond_false,Option.bind_some,inrO,Option.map_some,decide_true,cond_true,Dr.p45_er he,Dr.p47_er he,Dr.p49_er he hf1,Dr.p50_er he hf1,Dr.p51_er he]
  exact .inr ⟨e,rfl,he,_,_,_,rfl⟩
 simp only [o2,hr2,Option.bind_some,bx_ok]
 rcases q45X h h2 with ⟨c3,v3,hr3,h3,o3⟩ | ⟨e,hr3,he,c3,q,o3⟩
 rotate_left
 ·simp only [o3,hr3,Option.bind_some,bx_er,Dr.p45_er he,Dr.p25_er he]
  rw [hkk]
  rw [hkk] at hf1
  simp only [loopO,Int.lt_irrefl,decide_false,cond_false,Option.bind_some,inrO,Option.map_some,decide_true,cond_true,Dr.p45_er he,Dr.p47_er he,Dr.p49_er he hf1,Dr.p50_er he hf1,Dr.p51_er he]
  exact .inr ⟨e,rfl,he,_,_,_,rfl⟩
 simp only [o3,hr3,Option.bind_some,bx_ok]
 rcases q45X h h3 with ⟨c4,v4,hr4,h4,o4⟩ | ⟨e,hr4,he,c4,q,o4⟩
 rotate_left
 ·simp only [o4,hr4,Option.bind_some,bx_er,Dr.p25_er he]
  rw [hkk]
  rw [hkk] at hf1
  simp only [loopO,Int.lt_irrefl,decide_false,cond_false,Option.bind_some,inrO,Option.map_some,decide_true,cond_true,Dr.p45_er he,Dr.p47_er he,Dr.p49_er he hf1,Dr.p50_er he hf1,Dr.p51_er he]
  exact .inr ⟨e,rfl,he,_,_,_,rfl⟩
 simp only [o4,hr4,Option.bind_some,bx_ok]
 rcases q25X h h4 i8 with ⟨c5,v5,hr5,h5,o5⟩ | ⟨e,hr5,he,c5,q,o5⟩
 rotate_left
 ·simp only [o5,hr5,Option.bind_some,bx_er]
  rw [hkk]
  rw [hkk] at hf1
  simp only [loopO,Int.lt_irrefl,decide_false,cond_false,Option.bind_some,inrO,Option.map_some,decide_true,cond_true,Dr.p45_er he,Dr.p47_er he,Dr.p49_er he hf1,Dr.p50_er he hf1,Dr.p51_er he]
  exact .inr ⟨e,rfl,he,_,_,_,rfl⟩
 simp only [o5,hr5,Option.bind_some,bx_ok]
 obtain ⟨n,rfl,hn⟩ := cntX_ok h h4 hr5
 simp only [Int.toNat_natCast]
 generalize hL:loopO fu _ _=o
 refine Or.elim (list_allD (n := n) (Sx := en2X) (fun k l st=>(((k:Int),()),(st,(v0,v1,0,0,v2,v3,v4,l,0,false,0,(),(),(),false,()),()))) hL (fun k l c hk hl hc => ?_) (fun k l c e q hk hl he => ?_) h5 (by omega)) ?_ ?_
 ·have e1:decide ((k:Int)<(n:Int))=true := by simp <;> omega
  have e2:(l.length+1≤maxLen∧(l.length+1) * 96≤140737488355328)=True := eq_true ⟨Nat.le_trans (show l.length+1≤140737488355328 by omega) (by decide),by omega⟩
  have e3:IntKind.wrap .i64 ((k:Int)+1)=((k+1:Nat):Int) := by rw [wi64 (by omega) (by omega)]; omega
  rcases q49X h hc with ⟨d1,⟨i0,i1,i2,i3,i4,i5,⟨⟩⟩,q1,q2,q4⟩ | ⟨e,q1,he,d1,q,q4⟩
  ·exact .inl ⟨d1,(i0,i1,i2,i3,i4,i5),by rw [en2X,q1]; rfl,q2,by simp only [e1,q4,cond_true,decide_true,Option.bind_some,List.length_singleton,e2,e3]⟩
  ·exact .inr ⟨e,by rw [en2X,q1]; rfl,d1,q,_,he,by simp only [e1,q4,cond_true,decide_true,Option.bind_some,List.length_singleton,e2,e3]; rfl⟩
 ·have e1:decide ((k:Int)<(n:Int))=true := by simp <;> omega
  have e2:(l.length+1≤maxLen∧(l.length+1) * 96≤140737488355328)=True := eq_true ⟨Nat.le_trans (show l.length+1≤140737488355328 by omega) (by decide),by omega⟩
  have e3:IntKind.wrap .i64 ((k:Int)+1)=((k+1:Nat):Int) := by rw [wi64 (by omega) (by omega)]; omega
  exact ⟨_,by simp only [e1,Dr.p49_er he hf1,cond_true,decide_true,Option.bind_some,List.length_singleton,e2,e3]; rfl⟩
 ·rintro ⟨c6,v6,i,g2,h6,_,g6⟩
  rw [g2,g6]
  simp only [bx_ok]
  rcases q45X h h6 with ⟨c7,v7,hr7,h7,o7⟩ | ⟨e,hr7,he,c7,q,o7⟩
  rotate_left
  ·simp only [o7,hr7,loopO,Int.lt_irrefl,decide_false,cond_false,inrO,Option.map_some,Option.bind_some,decide_true,cond_true,bx_er,Dr.p45_er he,Dr.p47_er he,Dr.p50_er he hf1,Dr.p51_er he]
   exact .inr ⟨e,rfl,he,_,_,_,rfl⟩
  rcases q47X h h7 with ⟨c8,v8,hr8,h8,o8⟩ | ⟨e,hr8,he,c8,q,o8⟩
  rotate_left
  ·simp only [o7,hr7,o8,hr8,loopO,Int.lt_irrefl,decide_false,cond_false,inrO,Option.map_some,Option.bind_some,decide_true,cond_true,bx_ok,bx_er,Dr.p45_er he,Dr.p47_er he,Dr.p50_er he hf1,Dr.p51_er he]
   exact .inr ⟨e,rfl,he,_,_,_,rfl⟩
  rcases q45X h h8 with ⟨c9,v9,hr9,h9,o9⟩ | ⟨e,hr9,he,c9,q,o9⟩
  rotate_left
  ·simp only [o7,hr7,o8,hr8,o9,hr9,loopO,Int.lt_irrefl,decide_false,cond_false,inrO,Option.map_some,Option.bind_some,decide_true,cond_true,bx_ok,bx_er,Dr.p47_er he,Dr.p50_er he hf1,Dr.p51_er he]
   exact .inr ⟨e,rfl,he,_,_,_,rfl⟩
  rcases q50X h h9 with ⟨c10,⟨va,vb,⟨⟩⟩,hr10,h10,o10⟩ | ⟨e,hr10,he,c10,q,o10⟩
  rotate_left
  ·simp only [o7,hr7,o8,hr8,o9,hr9,o10,hr10,loopO,Int.lt_irrefl,decide_false,cond_false,inrO,Option.map_some,Option.bind_some,decide_true,cond_true,bx_ok,bx_er,Dr.p47_er he,Dr.p51_er he]
   exact .inr ⟨e,rfl,he,_,_,_,rfl⟩
  rcases q51X h h10 i262144 with ⟨c11,vc,hr11,h11,o11⟩ | ⟨e,hr11,he,c11,q,o11⟩
  rotate_left
  ·simp only [o7,hr7,o8,hr8,o9,hr9,o10,hr10,o11,hr11,loopO,Int.lt_irrefl,decide_false,cond_false,inrO,Option.map_some,Option.bind_some,decide_true,cond_true,bx_ok,bx_er,Dr.p47_er he]
   exact .inr ⟨e,rfl,he,_,_,_,rfl⟩
  rcases q47X h h11 with ⟨c12,vd,hr12,h12,o12⟩ | ⟨e,hr12,he,c12,q,o12⟩
  rotate_left
  ·simp only [o7,hr7,o8,hr8,o9,hr9,o10,hr10,o11,hr11,o12,hr12,loopO,Int.lt_irrefl,decide_false,cond_false,inrO,Option.map_some,Option.bind_some,decide_true,cond_true,bx_ok,bx_er]
   exact .inr ⟨e,rfl,he,_,_,_,rfl⟩
  simp only [o7,hr7,o8,hr8,o9,hr9,o10,hr10,o11,hr11,o12,hr12,loopO,Int.lt_irrefl,decide_false,cond_false,inrO,Option.map_some,Option.bind_some,decide_true,cond_true,bx_ok]
  exact .inl ⟨_,_,rfl,h12,rfl⟩
 ·rintro ⟨e,g2,c6,q,v6,i,he,_,g6⟩
  rw [g2,g6]
  simp only [loopO,Int.lt_irrefl,decide_false,cond_false,inrO,Option.map_some,Option.bind_some,decide_true,cond_true,bx_er,Dr.p45_er he,Dr.p47_er he,Dr.p49_er he hf1,Dr.p50_er he hf1,Dr.p51_er he]
  exact .inr ⟨e,rfl,he,_,_,_,rfl⟩
end Go.Proofs.YtahamggipcikgaaDoor
namespace Go.Proofs.YtahamggipcikgaaDoor
open Go.RowKit
variable {fu:Nat}
theorem nat0 (n:Nat):((n:Int)==0)=decide (n=0) := by
 by_cases h:n=0
 ·simp [h]
 ·rw [decide_eq_false h]; simp; omega
def bqE (x:WR):Bool := (decide (List.length x.2.2.2.2.2.2.2.1=0) && (decide (List.length x.2.2.2.2.2.2.2.2.2.2.2.1.1+List.length x.2.2.2.2.2.2.2.2.2.2.2.1.2=0) && decide (List.length x.2.2.2.2.2.2.2.2.2.2.2.2.1=0))) && ((!x.2.2.2.2.2.2.2.2.2.1 && ((x.2.2.2.2.2.2.2.2.2.2.1:Int)==0 && !x.2.2.2.2.2.2.2.2.2.2.2.2.2)) && ((x.2.1:Int)==5||((x.2.1:Int)==6 && ((x.2.2.2.2.2.2.1:Int)==0 && (x.2.2.2.2.2.2.2.2.1:Int)==0))))
theorem isBq_eqB (x:WR) (hem:List.length x.2.2.2.2.2.2.2.1≤1048576) (h1:List.length x.2.2.2.2.2.2.2.2.2.2.2.1.1≤1048576) (h2:List.length x.2.2.2.2.2.2.2.2.2.2.2.1.2≤1048576) (hd:List.length x.2.2.2.2.2.2.2.2.2.2.2.2.1≤1048576):p13 fu (Bq.zOf x,())=some ((),bqE x)∧isBq x=bqE x := by
 have hb := isBq_is fu x
 obtain ⟨g,kd,fr,to,t,i,lt,l,c,rj,hn,⟨cv,cl⟩,dt,dn⟩ := x
 dsimp only at hem h1 h2 hd
 have w1:IntKind.wrap .i64 ((List.length l:Int)+(List.length cv:Int))=((List.length l+List.length cv:Nat):Int) := by rw [wi64 (by omega) (by omega)]; omega
 have w2:IntKind.wrap .i64 (((List.length l+List.length cv:Nat):Int)+(List.length cl:Int))=((List.length l+List.length cv+List.length cl:Nat):Int) := by rw [wi64 (by omega) (by omega)]; omega
 have w3:IntKind.wrap .i64 (((List.length l+List.length cv+List.length cl:Nat):Int)+(List.length dt:Int))=((List.length l+List.length cv+List.length cl+List.length dt:Nat):Int) := by rw [wi64 (by omega) (by omega)]; omega
 have w4:IntKind.wrap .i64 ((List.length cv:Int)+(List.length cl:Int))=((List.length cv+List.length cl:Nat):Int) := by rw [wi64 (by omega) (by omega)]; omega
 have hs:decide (List.length l+List.length cv+List.length cl+List.length dt=0)=(decide (List.length l=0) && (decide (List.length cv+List.length cl=0) && decide (List.length dt=0))) := by
  rw [← Bool.decide_and,← Bool.decide_and]
  exact decide_eq_decide.2 (by omega)
 have hA:Bq.p32 fu (msgZ (g,kd,fr,to,t,i,lt,l,c,rj,hn,(cv,cl),dt,dn),())=some ((),bqE (g,kd,fr,to,t,i,lt,l,c,rj,hn,(cv,cl),dt,dn)) := by
  unfold Bq.p32 msgZ bqE
  dsimp only
  rw [w1,w2,w3]
  simp only [nat0]
  rw [hs]
  generalize decide (List.length l=0)=b1
  generalize decide (List.length cv+List.length cl=0)=b2
  generalize decide (List.length dt=0)=b3
  generalize ((hn:Int)==0)=b4
  generalize ((kd:Int)==5)=b5
  generalize ((kd:Int)==6)=b6
  generalize ((lt:Int)==0)=b7
  generalize ((c:Int)==0)=b8
  have rj':Bool := rj
  cases b1 <;> cases b2 <;> cases b3 <;> cases b4 <;> cases b5 <;> cases b6 <;> cases b7 <;> cases b8 <;> cases rj <;> cases dn <;> rfl
 refine ⟨?_,?_⟩
 ·unfold p13 p34 Bq.zOf bqE
  dsimp only
  rw [w4]
  simp only [nat0]
  generalize decide (List.length l=0)=b1
  generalize decide (List.length cv+List.length cl=0)=b2
  generalize decide (List.length dt=0)=b3
  generalize ((hn:Int)==0)=b4
  generalize ((kd:Int)==5)=b5
  generalize ((kd:Int)==6)=b6
  generalize ((lt:Int)==0)=b7
  generalize ((c:Int)==0)=b8
  cases b1 <;> cases b2 <;> cases b3 <;> cases b4 <;> cases b5 <;> cases b6 <;> cases b7 <;> cases b8 <;> cases rj <;> cases dn <;> rfl
 ·rw [hb] at hA
  exact congrArg Prod.snd (Option.some.inj hA)
theorem bx_some {α β:Type} {r:EX α} {k:Nat×α→EX β} {x:Nat×β} (h:bx r k = .ok x):∃ v,r = .ok v∧k v = .ok x := by
 cases r with
 | ok v=>exact ⟨v,rfl,h⟩
 | error e=>cases h
theorem cntX_le {a:List Int} {c c1:Nat} {j v:Int} (hr:cntX j a c = .ok (c1,v)):(v.toNat:Int)≤j := by
 unfold cntX at hr
 obtain ⟨⟨c0,w⟩,_,h⟩ := bx_some hr
 dsimp only at h
 split at h
 ·cases h
 ·split at h
  ·cases h
  ·injection h with h
   injection h with h3 h4
   subst h4
   omega
theorem repX_len {α:Type} {S:List Int→Nat→EX α} {a:List Int}:∀ {n:Nat} {l l':List α} {c c':Nat},repX S a n l c = .ok (c',l')→l'.length=l.length+n
 | 0,l,l',c,c',h=>by
  injection h with h
  injection h with _ h
  rw [← h]
  rfl
 | n+1,l,l',c,c',h=>by
  obtain ⟨v,_,h⟩ := bx_some h
  have := repX_len h
  simp at this
  omega
theorem listX_len {α:Type} {S:List Int→Nat→EX α} {a:List Int} {j:Int} {l:List α} {c c':Nat} (h:listX S j a c = .ok (c',l)):(l.length:Int)≤j := by
 obtain ⟨⟨c0,v⟩,h0,h⟩ := bx_some h
 have h1 := cntX_le h0
 have h2 := repX_len h
 simp at h2
 omega
theorem cfX_len {a:List Int} {x:CF} {c c':Nat} (h:cfX a c = .ok (c',x)):(x.1.length:Int)≤7∧(x.2.1.length:Int)≤7 := by
 obtain ⟨⟨c0,v⟩,h0,h⟩ := bx_some h
 obtain ⟨⟨c1,w⟩,h1,h⟩ := bx_some h
 injection h with h
 injection h with _ h
 subst h
 exact ⟨listX_len h0,listX_len h1⟩
theorem bytX_len {a l:List Int} {j:Int} {c c':Nat} (h:bytX j a c = .ok (c',l)):(l.length:Int)≤j := by
 obtain ⟨⟨c0,v⟩,h0,h⟩ := bx_some h
 have h1 := cntX_le h0
 injection h with h
 injection h with _ h
 subst h
 dsimp only
 rw [List.length_take]
 omega
theorem mgY_is {a:List Int} {c c':Nat} {z:MZ} (h:mgY a c = .ok (c',z)):p13 fu (z,())=some ((),isZ z) := by
 obtain ⟨⟨c0,v0⟩,_,h⟩ := bx_some h
 obtain ⟨⟨c1,v1⟩,_,h⟩ := bx_some h
 obtain ⟨⟨c2,v2⟩,_,h⟩ := bx_some h
 obtain ⟨⟨c3,v3⟩,_,h⟩ := bx_some h
 obtain ⟨⟨c4,v4⟩,h4,h⟩ := bx_some h
 obtain ⟨⟨c5,v5⟩,_,h⟩ := bx_some h
 obtain ⟨⟨c6,v6⟩,_,h⟩ := bx_some h
 obtain ⟨⟨c7,v7⟩,_,h⟩ := bx_some h
 obtain ⟨⟨c8,v8⟩,h8,h⟩ := bx_some h
 obtain ⟨⟨c9,v9⟩,h9,h⟩ := bx_some h
 obtain ⟨⟨c10,v10⟩,_,h⟩ := bx_some h
 have l4 := listX_len h4
 obtain ⟨l8,l8'⟩ := cfX_len h8
 have l9 := bytX_len h9
 injection h with h
 injection h with _ h
 subst h
 obtain ⟨e1,e2⟩ := isBq_eqB (fu := fu) (0,v0,0,0,v1,v2,v3,v4,v5,v6,v7,(v8.1,v8.2.1),v9,v10) (by dsimp only; omega) (by dsimp only; omega) (by dsimp only; omega) (by dsimp only; omega)
 rw [← e2] at e1
 exact e1
theorem q24_is (n:Int):p24 fu (n,())=some ((),nodeS n) := by
 unfold p24 nodeS
 dsimp only
 cases decide (n≥1) <;> rfl
theorem q28_is (n:Int):p28 fu (n,())=some ((),kindS n) := by
 unfold p28 kindS
 dsimp only
 cases decide (n≥1) <;> rfl
section
variable {α S R:Type} {f:S→Option (S ⊕ R)} {a:List Int} {Sx:List Int→Nat→EX α} {n:Nat}
theorem list_brkD (mk:Nat→List α→Dr.DT→S) (brk:List α→Dr.DT→R)
  (hok:∀ k l (c:Nat),k<n→l.length=k→c≤a.length→(∃ c1 v,Sx a c = .ok (c1,v)∧c1≤a.length∧f (mk k l (dO a c))=some (.inl (mk (k+1) (l ++ [v]) (dO a c1)))) ∨ (∃ e,Sx a c = .error e ∧ ∃ c1 q v,e ≠ 0∧f (mk k l (dO a c))=some (.inl (mk (k+1) (l ++ [v]) (dE a c1 e q)))))
  (her:∀ k l c e q,k≤n→e ≠ 0→f (mk k l (dE a c e q))=some (.inr (brk l (dE a c e q))))
  (hend:∀ l (c:Nat),f (mk n l (dO a c))=some (.inr (brk l (dO a c)))):∀ m k l (c:Nat) j,k+m=n→l.length=k→c≤a.length→m+1<j →
   (∃ (c1:Nat) (v:List α),repX Sx a m l c = .ok (c1,v)∧c1≤a.length∧loopO j f (mk k l (dO a c))=some (brk v (dO a c1))) ∨
    (∃ e:Int,repX Sx a m l c = .error e ∧ ∃ (c1 q:Int) (v:List α),e ≠ 0∧loopO j f (mk k l (dO a c))=some (brk v (dE a c1 e q)))
 | 0,k,l,c,j,hk,hl,hc,hj=>by
  obtain ⟨j,rfl⟩:∃ i,j=i+1 := ⟨j-1,by omega⟩
  have:k=n := by omega
  subst this
  exact .inl ⟨c,l,rfl,hc,by simp only [loopO,hend l c]⟩
 | m+1,k,l,c,j,hk,hl,hc,hj=>by
  obtain ⟨j,rfl⟩:∃ i,j=i+1+1 := ⟨j-2,by omega⟩
  rcases hok k l c (by omega) hl hc with ⟨c1,v,h1,h2,h4⟩ | ⟨e,h1,c1,q,v,he,h4⟩
  ·have := list_brkD mk brk hok her hend m (k+1) (l ++ [v]) c1 (j+1) (by omega) (by simp [hl]) h2 (by omega)
   have e:loopO (j+1+1) f (mk k l (dO a c))=loopO (j+1) f (mk (k+1) (l ++ [v]) (dO a c1)) := by
    rw [loopO]
    simp only [h4]
   rw [e]
   simp only [repX,h1,bx_ok]
   exact this
  ·refine .inr ⟨e,by simp only [repX,h1,bx_er],c1,q,l ++ [v],he,?_⟩
   have e1:loopO (j+1+1) f (mk k l (dO a c))=loopO (j+1) f (mk (k+1) (l ++ [v]) (dE a c1 e q)) := by
    rw [loopO]
    simp only [h4]
   rw [e1]
   simp only [loopO,her (k+1) (l ++ [v]) c1 e q (by omega) he]
theorem list_brkaD {o:Option R} {fu:Nat} {c:Nat} (mk:Nat→List α→Dr.DT→S) (brk:List α→Dr.DT→R) (ho:loopO fu f (mk 0 [] (dO a c))=o)
  (hok:∀ k l (c:Nat),k<n→l.length=k→c≤a.length→(∃ c1 v,Sx a c = .ok (c1,v)∧c1≤a.length∧f (mk k l (dO a c))=some (.inl (mk (k+1) (l ++ [v]) (dO a c1)))) ∨ (∃ e,Sx a c = .error e ∧ ∃ c1 q v,e ≠ 0∧f (mk k l (dO a c))=some (.inl (mk (k+1) (l ++ [v]) (dE a c1 e q)))))
  (her:∀ k l c e q,k≤n→e ≠ 0→f (mk k l (dE a c e q))=some (.inr (brk l (dE a c e q))))
  (hend:∀ l (c:Nat),f (mk n l (dO a c))=some (.inr (brk l (dO a c)))) (hc:c≤a.length) (hn:n+1<fu) :
   (∃ (c1:Nat) (v:List α),repX Sx a n [] c = .ok (c1,v)∧c1≤a.length∧o=some (brk v (dO a c1))) ∨
    (∃ e:Int,repX Sx a n [] c = .error e ∧ ∃ (c1 q:Int) (v:List α),e ≠ 0∧o=some (brk v (dE a c1 e q))) := by
 subst ho
 exact list_brkD mk brk hok her hend n 0 [] c fu (by omega) rfl hc hn
end
theorem eq00:((0:Int)==0)=true := rfl
theorem eq11:((1:Int)==1)=true := rfl
theorem eq21:((2:Int)==1)=false := rfl
theorem p8_isX {a:List Int} (h:okA fu a) (hf:4194304<fu) (fr to kd:Int) :
  (∃ l,opnX fr to kd a = .ok l∧p8 fu ((fr,to,kd,a,()),())=some ((),l,0,())) ∨ (∃ e:Int,opnX fr to kd a = .error e∧e ≠ 0∧p8 fu ((fr,to,kd,a,()),())=some ((),[],e,())) := by
 have hf1:10<fu := by omega
 obtain ⟨kk,hkk⟩:∃ k,fu=k+1 := ⟨fu-1,by omega⟩
 unfold p8
 simp only [q24_is,Option.bind_some]
 rw [first_is]
 unfold opnX
 cases hok:okP fr to kd with
 | false =>
  simp only [cond_false]
  exact .inr ⟨1,rfl,by decide,rfl⟩
 | true =>
 simp only [cond_true,orK_inl]
 have hcnt := q25X (c := 0) (j := 4096) h (Nat.zero_le _) i4096
 change DX a 0 (cntX 4096 a 0) (p25 fu ((a,(0:Int),0,0,()),4096,())) at hcnt
 have hk12:kd=1 ∨ kd=2 := by
  unfold okP at hok
  simp only [Bool.and_eq_true,Bool.or_eq_true,beq_iff_eq] at hok
  exact hok.1
 rcases hcnt with ⟨c1,v,hr,h1,o1⟩ | ⟨e,hr,he,c1,q,o1⟩
 ·obtain ⟨n,rfl,hn⟩ := cntX_ok h (Nat.zero_le _) hr
  simp only [o1,hr,Option.bind_some,bo_ok,Int.toNat_natCast]
  by_cases hn0:n=0
  ·subst hn0
   have e0:(((0:Nat):Int)==0)=true := rfl
   have hp := Dr.p26_ok (fu := fu) (a := a) (c := (c1:Int)) (show (111:Int) ≠ 0 by decide)
   simp only [e0,cond_true,hp,Option.bind_some,orK_inl]
   refine .inr ⟨111,rfl,by decide,?_⟩
   rw [hkk]
   simp only [loopO,Int.natCast_zero,Int.lt_irrefl,decide_false,cond_false,inrO,Option.map_some,orK_inl,Dr.p29_er (show (111:Int) ≠ 0 by decide),Option.bind_some,decide_true,cond_true]
   rfl
  ·have e0:((n:Int)==0)=false := by simp; omega
   have e9:((n:Int)=0)=False := by simp; omega
   simp only [e0,cond_false,orK_inl,e9,if_false]
   generalize hL:loopO fu _ _=o
   refine Or.elim (list_brkaD (n := n) (Sx := wrX fr to kd) (fun k l st=>((l,(k:Int),()),(st,()))) (fun l st=>(Sum.inl ((l,()),(st,())):_ ⊕ _)) hL (fun k l c hk hl hc => ?_) (fun k l c e q hk he => ?_) (fun l c => ?_) h1 (by omega)) (fun key => ?_) (fun key => ?_)
   ·have e1:decide ((k:Int)<(n:Int))=true := by simp <;> omega
    have e2:(l.length+1≤maxLen∧(l.length+1) * 184≤140737488355328)=True := eq_true ⟨Nat.le_trans (show l.length+1≤140737488355328 by omega) (by decide),by omega⟩
    have e3:IntKind.wrap .i64 ((k:Int)+1)=((k+1:Nat):Int) := by rw [wi64 (by omega) (by omega)]; omega
    simp only [e1,cond_true,eq00]
    unfold wrX
    rcases hk12 with rfl | rfl
    ·simp only [eq12,eq11,cond_true,cond_false,orK_inl,mgX_eq,bx_assoc]
     rcases q27m h hc hf with ⟨d1,⟨g,z0,z1,z2,z3,z4,z5,z6,z7,z8,z9,za,zb,zc,zd,⟨⟩⟩,r1,r2,r4⟩ | ⟨e,r1,he,d1,q,⟨g,z0,z1,z2,z3,z4,z5,z6,z7,z8,z9,za,zb,zc,zd,⟨⟩⟩,r4⟩
     ·obtain ⟨⟨u1,u2⟩,hu,r1⟩ := bx_some r1
      obtain ⟨⟨w1,w2⟩,hw,r1⟩ := bx_some r1
      injection r1 with r1
      injection r1 with r5 r6
      injection r6 with r6 r7
      dsimp only at r5 r6 r7
      subst r5 r6 r7
      have hz := mgY_is (fu := fu) hw
      simp only [r4,hu,hw,bx_ok,Option.bind_some,eq00,cond_true,decide_true,hz,q28_is,mgEX]
      cases isZ (z0,z1,z2,z3,z4,z5,z6,z7,z8,z9,za,zb,zc,zd,()) with
      | true =>
       have hp := Dr.p26_ok (fu := fu) (a := a) (c := (w1:Int)) (show (111:Int) ≠ 0 by decide)
       simp only [cond_true,hp,Option.bind_some,orK_inl,Bool.not_true,Bool.and_false,cond_false,bx_er,List.length_singleton,e2,decide_true,e3]
       exact .inr ⟨111,rfl,_,_,_,by decide,rfl⟩
      | false =>
       cases kindS z0 with
       | true =>
        simp only [cond_true,cond_false,orK_inl,Bool.not_true,Bool.not_false,Bool.and_self,bx_ok,List.length_singleton,e2,decide_true,e3]
        exact .inl ⟨_,_,rfl,r2,rfl⟩
       | false =>
        have hp := Dr.p26_ok (fu := fu) (a := a) (c := (w1:Int)) (show (111:Int) ≠ 0 by decide)
        simp only [cond_true,cond_false,hp,Option.bind_some,orK_inl,Bool.not_false,Bool.false_and,bx_er,List.length_singleton,e2,decide_true,e3]
        exact .inr ⟨111,rfl,_,_,_,by decide,rfl⟩
     ·have g9:(e==0)=false := beq_eq_false_iff_ne.2 he
      simp only [r4,Option.bind_some,g9,orK_inl,cond_false,List.length_singleton,e2,decide_true,cond_true,e3]
      refine .inr ⟨e,?_,_,_,_,he,rfl⟩
      rcases hu:uX a c with e' | ⟨u1,u2⟩
      ·rw [hu,bx_er] at r1
       injection r1 with r1
       rw [bx_er,r1]
      ·rw [hu,bx_ok] at r1
       rw [bx_ok]
       dsimp only at r1 ⊢
       rcases hw:mgY a u1 with e' | ⟨w1,w2⟩
       ·rw [hw,bx_er] at r1
        injection r1 with r1
        rw [bx_er,r1]
       ·rw [hw] at r1
        cases r1
    ·simp only [eq22,eq21,cond_true,cond_false,orK_inl]
     rcases q27b h hc with ⟨d1,⟨g,z0,z1,z2,z3,z4,z5,z6,z7,z8,z9,za,zb,zc,zd,⟨⟩⟩,r1,r2,r4⟩ | ⟨e,r1,he,d1,q,⟨g,z0,z1,z2,z3,z4,z5,z6,z7,z8,z9,za,zb,zc,zd,⟨⟩⟩,r4⟩
     ·obtain ⟨⟨u1,u2⟩,hu,r1⟩ := bx_some r1
      obtain ⟨⟨w1,w2⟩,hw,r1⟩ := bx_some r1
      injection r1 with r1
      injection r1 with r5 r6
      injection r6 with r6 r7
      dsimp only at r5 r6 r7
      subst r5 r6 r7
      simp only [r4,hu,hw,bx_ok,Option.bind_some,List.length_singleton,e2,decide_true,cond_true,e3]
      exact .inl ⟨_,_,rfl,r2,rfl⟩
     ·simp only [r4,Option.bind_some,List.length_singleton,e2,decide_true,cond_true,e3]
      refine .inr ⟨e,?_,_,_,_,he,rfl⟩
      rcases hu:uX a c with e' | ⟨u1,u2⟩
      ·rw [hu,bx_er] at r1
       injection r1 with r1
       rw [bx_er,r1]
      ·rw [hu,bx_ok] at r1
       rw [bx_ok]
       dsimp only at r1 ⊢
       rcases hw:btX a u1 with e' | ⟨w1,w2⟩
       ·rw [hw,bx_er] at r1
        injection r1 with r1
        rw [bx_er,r1]
       ·rw [hw] at r1
        cases r1
   ·have g9:(e==0)=false := beq_eq_false_iff_ne.2 he
    cases decide ((k:Int)<(n:Int)) <;> simp only [g9,cond_true,cond_false,decide_true,inrO,Option.map_some]
   ·simp only [Int.lt_irrefl,decide_false,cond_false,decide_true,cond_true,inrO,Option.map_some]
   ·obtain ⟨c2,w,q1,q2,q4⟩ := key
    rw [q1]
    subst q4
    simp only [bo_ok,orK_inl,Dr.p29_ok,Option.bind_some,decide_true]
    by_cases hc2:c2<a.length
    ·have hc3:(c2:Int)<(a.length:Int) := by omega
     rw [if_pos hc2,if_pos hc3]
     exact .inr ⟨15,rfl,by decide,rfl⟩
    ·have hc3:¬ (c2:Int)<(a.length:Int) := by omega
     rw [if_neg hc2,if_neg hc3]
     exact .inl ⟨_,rfl,rfl⟩
   ·obtain ⟨e,q1,c2,q,w,he,q4⟩ := key
    rw [q1]
    subst q4
    have g:(e != 0)=true := bne_iff_ne.2 he
    simp only [bo_er,orK_inl,Dr.p29_er he,Option.bind_some,g,cond_true]
    exact .inr ⟨e,rfl,he,rfl⟩
 ·simp only [o1,hr,Option.bind_some,bo_er,eq00,cond_true,Dr.p26_er he,orK_inl]
  refine .inr ⟨e,rfl,he,?_⟩
  have g:(e != 0)=true := bne_iff_ne.2 he
  rw [hkk]
  simp only [loopO,Int.lt_irrefl,decide_false,cond_false,inrO,Option.map_some,orK_inl,Dr.p29_er he,Option.bind_some,g,cond_true,decide_true]
theorem open_same {a:List Int} (h:okA fu a) (hf:4194304<fu) (fr to kd:Int):p7 fu ((fr,to,kd,a,()),())=p8 fu ((fr,to,kd,a,()),()) := by
 rcases p7_isX h hf fr to kd with ⟨l,h1,h2⟩ | ⟨e,h1,_,h2⟩ <;> rcases p8_isX h hf fr to kd with ⟨m,g1,g2⟩ | ⟨d,g1,_,g2⟩
 ·rw [h1] at g1
  injection g1 with g1
  rw [h2,g2,g1]
 ·rw [h1] at g1
  cases g1
 ·rw [h1] at g1
  cases g1
 ·rw [h1] at g1
  injection g1 with g1
  rw [h2,g2,g1]
end Go.Proofs.YtahamggipcikgaaDoor
namespace Go.Proofs.YtahamggipcikgaaDoor
open Go.RowKit
variable {fu:Nat}
theorem lp_fold {X S A R:Type} {f:S→Option (S ⊕ R)} {res:R} (l:List X) (mk:Nat→A→S) (st:A→X→A) (fin:A→R) (a:A) (P:Nat→A→Prop) (h0:P 0 a) (hf:l.length<fu)
  (hs:∀ i (h:i<l.length) b,P i b→f (mk i b)=some (.inl (mk (i+1) (st b l[i])))∧P (i+1) (st b l[i])) (he:∀ b,P l.length b→f (mk l.length b)=some (.inr (fin b))∧fin b=res):loopO fu f (mk 0 a)=some res := by
 have key:∀ k i n b,i+k=l.length→k<n→P i b→loopO n f (mk i b)=some res := by
  intro k
  induction k with
  | zero =>
   intro i n b hi hn hb
   obtain ⟨m,rfl⟩:∃ m,n=m+1 := ⟨n-1,by omega⟩
   obtain rfl:i=l.length := by omega
   obtain ⟨e1,e2⟩ := he b hb
   simp only [loopO,e1,e2]
  | succ k ih =>
   intro i n b hi hn hb
   obtain ⟨m,rfl⟩:∃ m,n=m+1 := ⟨n-1,by omega⟩
   have hlt:i<l.length := by omega
   obtain ⟨e1,e2⟩ := hs i hlt b hb
   simp only [loopO,e1]
   exact ih (i+1) m _ (by omega) (by omega) e2
 exact key l.length 0 fu a (by omega) hf h0
theorem i4 {α:Type} {l:List α} {i:Nat} (h:i<l.length):decide ((0:Int)≤(i:Int)∧(i:Int)<(l.length:Int))=true := by simp; omega
theorem i5 {α:Type} {l:List α} {i:Nat} (h:i<l.length):decide ((i:Int)<(l.length:Int))=true := by simp; omega
theorem i6 {α:Type} {l:List α} {i:Nat} (h:i<l.length):decide (i<l.length)=true := by simp; omega
theorem iend {α:Type} (l:List α):decide ((l.length:Int)<(l.length:Int))=false := by simp
theorem iwr {α:Type} {l:List α} {i:Nat} (h:i<l.length) (hl:l.length≤1048576):IntKind.wrap .i64 ((i:Int)+1)=((i+1:Nat):Int) := by rw [wi64 (by omega) (by omega)]; omega
theorem room {n s:Nat} (hn:n≤1048576) (hs:s≤200):(n+1≤maxLen∧(n+1) * s≤140737488355328)=True := by
 refine eq_true ⟨by unfold maxLen; omega,?_⟩
 have := Nat.mul_le_mul (show n+1≤1048577 by omega) hs
 omega
theorem anyF {α:Type} (l:List α):l.any (fun _=>false)=false := by simp
theorem p68_refl (l:List Int) (hl:l.length≤1048576) (hf:1048576<fu):p68 fu (l,l,())=some ((),true) := by
 unfold p68
 dsimp only
 simp only [bne_self_eq_false,cond_false]
 refine lp_any l (fun i=>(((i:Int),()),())) (fun _=>false) ((),false) ((),true) (by omega) (fun i h => ?_) (fun _ => ?_) (by rw [anyF]; rfl)
 ·simp only [i5 h,i4 h,Int.toNat_natCast,i6 h,cond_true,cond_false,iwr h hl]
 ·simp only [iend,cond_false]
  rfl
theorem p52_refl (v l:List Int) (hv:v.length≤1048576) (hl:l.length≤1048576) (hf:1048576<fu):p52 fu ((v,l,()),(v,l,()),())=some ((),true) := by
 unfold p52
 simp only [p68_refl v hv hf,p68_refl l hl hf,Option.bind_some,cond_true]
theorem p69_refl (i t k:Int) (d v l:List Int) (hv:v.length≤1048576) (hl:l.length≤1048576) (hf:1048576<fu):p69 fu ((i,t,k,d,v,l,()),(i,t,k,d,v,l,()),())=some ((),true) := by
 unfold p69
 simp only [p52_refl v l hv hl hf,Option.bind_some,cond_true,beq_self_eq_true]
theorem p53_refl (l:List EN) (hl:l.length≤1048576) (hw:∀ y ∈ l,enW y) (hf:1048576<fu):p53 fu (l,l,())=some ((),true) := by
 unfold p53
 dsimp only
 simp only [bne_self_eq_false,cond_false]
 refine lp_any l (fun i=>(((i:Int),()),())) (fun _=>false) ((),false) ((),true) (by omega) (fun i h => ?_) (fun _ => ?_) (by rw [anyF]; rfl)
 ·have q := hw _ (List.getElem_mem h)
  have q1 := q.v.2
  have q2 := q.l.2
  simp only [i5 h,i4 h,Int.toNat_natCast,i6 h,cond_true,gd_lt h]
  rw [p69_refl _ _ _ _ _ _ (by omega) (by omega) hf]
  simp only [Option.bind_some,Bool.not_true,cond_false,iwr h hl]
 ·simp only [iend,cond_false]
  rfl
theorem p30_refl {x:WR} (h:msW x) (hf:1048576<fu):p30 fu (msgZ x,msgZ x,())=some ((),true) := by
 have q1 := h.cv.2
 have q2 := h.cl.2
 have q3 := h.el
 have c1 := p52_refl (fu := fu) x.2.2.2.2.2.2.2.2.2.2.2.1.1 x.2.2.2.2.2.2.2.2.2.2.2.1.2 (by omega) (by omega) hf
 have c2 := p53_refl (fu := fu) x.2.2.2.2.2.2.2.1 (by omega) h.e hf
 unfold p30 msgZ
 dsimp only
 rw [c1,c2]
 simp only [Option.bind_some,cond_true,beq_self_eq_true]
theorem p9_refl (l:List WR) (hl:l.length≤1048576) (hw:∀ x ∈ l,msW x) (hf:1048576<fu):p9 fu (l,l,())=some ((),true) := by
 unfold p9
 dsimp only
 simp only [bne_self_eq_false,cond_false]
 refine lp_any l (fun i=>(((i:Int),()),())) (fun _=>false) ((),false) ((),true) (by omega) (fun i h => ?_) (fun _ => ?_) (by rw [anyF]; rfl)
 ·have q := p30_refl (fu := fu) (hw _ (List.getElem_mem h)) hf
  unfold msgZ at q
  simp only [i5 h,i4 h,Int.toNat_natCast,i6 h,cond_true,gd_lt h]
  rw [q]
  simp only [Option.bind_some,Bool.not_true,cond_false,iwr h hl]
 ·simp only [iend,cond_false]
  rfl
theorem p10_id (l:List WR) (hl:l.length≤1048576) (hf:1048576<fu):p10 fu (l,())=some ((),l) := by
 unfold p10
 dsimp only
 refine lp_fold l (fun i b=>((b,(i:Int),()),())) (fun b x=>b ++ [x]) (fun b=>((),b)) [] (fun i b=>b=l.take i) rfl (by omega) (fun i h b hb=>⟨?_,by rw [hb,List.take_succ_eq_append_getElem h]⟩) (fun b hb=>⟨?_,by rw [hb,List.take_length]⟩)
 ·have hb':b.length≤1048576 := by rw [hb,List.length_take]; omega
  simp only [i5 h,i4 h,Int.toNat_natCast,i6 h,cond_true,gd_lt h,decide_true,List.length_singleton,room hb' (show 184≤200 by decide),iwr h hl]
 ·simp only [iend,cond_false,decide_true,cond_true]
  rfl
theorem inr_of {E R:Type} {o:Option R} {r:R} (h:o=some r):(inrO o:Option (E ⊕ R))=some (.inr r) := by rw [h]; rfl
theorem p3_is {h:List Int} (h6:p6 fu ()=some ((),true)) (hk:okA fu h) (hl:h.length≤1048576) (hf:4194304<fu) (fr to kd:Int):p3 fu ((fr,to,kd,h,()),())=some ((),true) := by
 obtain ⟨l,e,e7,hll,hlw⟩:∃ (l:List WR) (e:Int),p7 fu ((fr,to,kd,h,()),())=some ((),l,e,())∧l.length≤4096 ∧ ∀ x ∈ l,msW x := by
  rcases p7_is hk hf fr to kd with ⟨l,ho,hp⟩ | ⟨_,e,_,hp⟩
  ·obtain ⟨_,_,q1,q2,_⟩ := open_canon hk.hb ho
   exact ⟨l,0,hp,q1,fun x hx=>(q2 x hx).1⟩
  ·exact ⟨[],e,hp,by simp,fun x hx=>by cases hx⟩
 have e8:p8 fu ((fr,to,kd,h,()),())=some ((),l,e,()) := by rw [← open_same hk hf fr to kd]; exact e7
 have m1:h.length≤maxLen∧h.length * 1≤140737488355328 := by unfold maxLen; omega
 have m2:h.length+1≤maxLen∧(h.length+1) * 1≤140737488355328 := by unfold maxLen; omega
 have w1:IntKind.wrap .i64 ((h.length:Int)+1)=((h.length+1:Nat):Int) := by rw [wi64 (by omega) (by omega)]; omega
 have e10 := p10_id (fu := fu) l (by omega) (by omega)
 have e9 := p9_refl (fu := fu) l (by omega) hlw (by omega)
 unfold p3
 simp only [h6,Option.bind_some,List.nil_append,List.length_nil,Nat.zero_add,decide_true,cond_true,m1,m2,and_self,List.length_cons,Int.natCast_nonneg,Int.toNat_natCast,Nat.zero_le,true_and,List.length_append,Nat.le_add_right,List.take_left,e7,e8,e10,e9,orK_inl]
 refine lp_any (fu := fu) l (fun i=>(((i:Int),()),())) (fun _=>false) ((),true) ((),true) (by omega) (fun i hi => ?_) (fun _ => ?_) (by rw [anyF]; try rfl)
 ·have hd:List.length (l[i]).2.2.2.2.2.2.2.2.2.2.2.2.1≤262144 := by have := (hlw _ (List.getElem_mem hi)).d; omega
  simp only [i5 hi,cond_true,cond_false]
  refine lp_any (fu := fu) (l[i]).2.2.2.2.2.2.2.2.2.2.2.2.1 (fun k=>(((k:Int),()),())) (fun _=>false) (.inl ((((i+1:Nat):Int),()),())) (.inl ((((i+1:Nat):Int),()),())) (by omega) (fun k hk' => ?_) (fun _ => ?_) (by rw [anyF]; try rfl)
  ·simp only [i4 hi,Int.toNat_natCast,i6 hi,gd_lt hi,i5 hk',i4 hk',i6 hk',cond_true,cond_false,iwr hk' (by omega)]
  ·simp only [i4 hi,Int.toNat_natCast,i6 hi,gd_lt hi,iend,cond_true,cond_false,iwr hi (by omega)]
   rfl
 ·simp only [iend,cond_false]
  refine inr_of ?_
  have t1:List.take (h.length+1) (h ++ [(77:Int)])=h ++ [77] := List.take_of_length_le (by simp)
  have t2:(h ++ [(77:Int)]).getD h.length (dflt (.int .u8))=77 := by simp [List.getD_eq_getElem?_getD]
  simp only [beq_self_eq_true,cond_true,w1,Int.toNat_natCast,t1,t2,Int.natCast_nonneg,List.length_append,List.length_cons,List.length_nil,decide_true,Nat.le_refl,Nat.zero_add,Nat.lt_succ_self,Int.ofNat_lt]
end Go.Proofs.YtahamggipcikgaaDoor
