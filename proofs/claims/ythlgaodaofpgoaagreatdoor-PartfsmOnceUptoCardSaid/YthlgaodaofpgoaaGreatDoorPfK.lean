/-
  Layer 16: what was kept is never written anew, and a command once more answers as it did.
-/
import Derived.Test.YthlgaodaofpgoaaGreatDoorPfM
namespace Go.Proofs.YthlgaodaofpgoaaGreatDoor
open Go.RowKit
variable {fu:Nat}
theorem last_ge {lo hi:ByteArray} {ps:List Pr} {l:List Rd} (h:RecsOk lo hi ps l) {f:Nat} (hf:f<l.length):∀ n,f<n→n≤l.length→l[f].2.2.2.2≤lastS (l.take n) l[f].2.2.2.1
  | 0,h1,_=>by omega
  | n+1,h1,h2=>by
    have hn:n<l.length := by omega
    rw [take_snoc' hn noRec,getD_lt hn,lastS_snoc]
    by_cases he:f=n
    · subst he
      rw [if_pos rfl]
      exact Int.le_refl _
    · have ih := last_ge h hf n (by omega) (by omega)
      by_cases hi:l[n].2.2.2.1=l[f].2.2.2.1
      · rw [if_pos hi]
        obtain ⟨y,_,_,h3,_⟩ := h n hn
        rw [hi] at h3
        omega
      · rw [if_neg hi]
        exact ih
theorem seq_up {lo hi:ByteArray} {ps:List Pr} {l:List Rd} (h:RecsOk lo hi ps l) {f c:Nat} (hf:f<c) (hc:c<l.length) (he:l[c].2.2.2.1=l[f].2.2.2.1):¬ l[c].2.2.2.2≤l[f].2.2.2.2 := by
  have h1 := last_ge h (show f<l.length by omega) c hf (by omega)
  obtain ⟨y,_,_,h3,_⟩ := h c hc
  rw [he] at h3
  omega
theorem recs_of_inv {p:St16} (h:InvP p):RecsOk p.1 p.2.1 p.2.2.2.2.2.1 p.2.2.2.2.1∧logOk p.2.2.2.2.1=true := by
  obtain ⟨lo,up,e,z,l,ps,cs,⟨⟩⟩ := p
  obtain ⟨-,-,g1,-,-,g2,-⟩ := (chk_iff lo up e z l ps cs).1 h.1
  exact ⟨g2,g1⟩
theorem nat_lt_int {a b:Nat}:decide ((a:Int)<(b:Int))=decide (a<b) := decide_eq_decide.2 (by omega)
theorem inr_step {E R:Type} {o:Option R} {I:E→Prop} {m:E→Nat} {Q:R→Prop} {s:E} (h:∃ r,o=some r∧Q r):∃ x,inrO o=some x∧LStep I m Q s x := by
  obtain ⟨r,rfl,h⟩ := h
  exact ⟨_,rfl,h⟩
theorem p6_is (p:St16) (l:List Cd) (hb:bndS p) (hl:l.length≤2097152) (hc:∀ x ∈ l,bndC (cmdOf x)) (hf:4194304<fu):p6 fu (p,l,())=some ((),true) := by
  have h10 := p10_is (fu := fu) p hb hf
  have hco:∀ y ∈ p.2.2.2.2.2.2.1,0≤y.2 := fun y hy=>by
    obtain ⟨lo,up,e,z,r,ps,cs,⟨⟩⟩ := p
    exact (hb.2.2.1.2 y hy).2.1
  have hpo:∀ y ∈ p.2.2.2.2.2.1,0≤y.2.2.2 := by
    obtain ⟨lo,up,e,z,r,ps,cs,⟨⟩⟩ := p
    exact hb.2.2.2
  obtain ⟨lo,up,e,z,r,ps,cs,⟨⟩⟩ := p
  unfold p6
  simp only [p9_is hf,h10,bind_val]
  cases hk:chkS (lo,up,e,z,r,ps,cs,()) with
  | false=>rfl
  | true =>
    simp only [cond_true,show ((0:Int) != 0)=false from rfl,cond_false]
    refine loop_val (I := fun s => ∃ (i:Nat) (q:St16),s=(((i:Int),()),(q,()))∧i≤l.length∧InvP q) (m := fun s=>l.length-Int.toNat s.1.1) ⟨0,_,rfl,Nat.zero_le _,⟨hk,hpo,hco⟩⟩ (by simp only [Int.toNat_zero]; omega) fun s hs => ?_
    obtain ⟨i,q,rfl,h1,hI⟩ := hs
    have hR := recs_of_inv hI
    have hbq := inv_bnd hI
    by_cases hi:i<l.length
    · have hg:∀ d,l.getD i d=l[i] := fun d=>getD_lt hi
      have hcm := hc l[i] (List.getElem_mem hi)
      have hL := do_left q (cmdOf l[i]) hI hcm
      have e14 := p14_is (fu := fu) q (cmdOf l[i]) hbq hcm hf
      have hba := inv_bnd hL.inv
      have e15 := p14_is (fu := fu) _ (cmdOf l[i]) hba hcm hf
      obtain ⟨b,e16,hsame⟩ := p16_tot (fu := fu) (doS (doS q (cmdOf l[i])).1 (cmdOf l[i])).1 (doS q (cmdOf l[i])).1 (by rw [hL.again.1]; revert hba; rcases (doS q (cmdOf l[i])).1 with ⟨_,_,_,_,_,_,_,⟨⟩⟩; exact fun h=>h.1) (by rw [hL.again.1]; revert hba; rcases (doS q (cmdOf l[i])).1 with ⟨_,_,_,_,_,_,_,⟨⟩⟩; exact fun h=>h.2.1) (by rw [hL.again.1]; revert hba; rcases (doS q (cmdOf l[i])).1 with ⟨_,_,_,_,_,_,_,⟨⟩⟩; exact fun h=>h.2.2.1.1) hf
      obtain rfl := hsame hL.again.1
      obtain ⟨-,hag2,hag3⟩ := hL.again
      have hth := hL.there
      have hre := hL.recs
      have hin := hL.inv
      have hRa := recs_of_inv hin
      rcases hd2:doS (doS q (cmdOf l[i])).1 (cmdOf l[i]) with ⟨⟨c1,c2,c3,c4,c5,c6,c7,⟨⟩⟩,⟨d1,d2,d3,d4,⟨⟩⟩⟩
      rw [hd2] at e15 e16 hag2 hag3
      rcases hd:doS q (cmdOf l[i]) with ⟨⟨a1,a2,a3,a4,a5,a6,a7,⟨⟩⟩,⟨b1,b2,b3,b4,⟨⟩⟩⟩
      rw [hd] at e14 e15 e16 hag2 hag3 hth hre hin hRa hba
      clear hd hd2 hL
      obtain ⟨q1,q2,q3,q4,q5,q6,q7,⟨⟩⟩ := q
      have k1:¬ a5.length<q5.length ∧ ¬ q5.length+1<a5.length ∧ ∀ m (h:m<q5.length),m<a5.length ∧ ∀ d,a5.getD m d=q5[m] := by
        rcases hre with h | ⟨x,h⟩
        · simp only at h; subst h; exact ⟨by omega,by omega,fun m h=>⟨h,fun d=>getD_lt h⟩⟩
        · simp only at h; subst h
          refine ⟨by simp,by simp,fun m h=>⟨by rw [List.length_append]; omega,fun d => ?_⟩⟩
          rw [getD_lt (show m<(q5 ++ [x]).length by rw [List.length_append]; omega)]
          exact List.getElem_append_left h
      have hq5 := logOk_parts hR.2
      have ha5 := logOk_parts hRa.2
      simp only at hq5 ha5
      have w1:IntKind.wrap .i64 ((q5.length:Int)+1)=((q5.length+1:Nat):Int) := by rw [i64_wrap (by omega) (by omega)]; omega
      simp only [nat_lt_int,hi,Int.natCast_nonneg,Int.ofNat_lt,decide_true,cond_true,and_self,Int.toNat_natCast,hg,tuple_cmd,e14,bind_val,k1.1,decide_false,cond_false,w1,gt_iff_lt,k1.2.1]
      refine loopO_rule (fun s => ∃ m:Nat,s=(((m:Int),()),())∧m≤q5.length) (fun s=>q5.length-Int.toNat s.1.1) (fun o=>LStep _ _ _ _ o) (fun s hs => ?_) fu (((0:Int),()),()) ⟨0,rfl,Nat.zero_le _⟩ (by simp only [Int.toNat_zero]; omega)
      obtain ⟨m,rfl,hm⟩ := hs
      by_cases hmq:m<q5.length
      · obtain ⟨k2,k3⟩ := k1.2.2 m hmq
        have k4:∀ d,q5.getD m d=q5[m] := fun d=>getD_lt hmq
        have k5 := (hq5.2 m hmq).1
        have w2:IntKind.wrap .u64 (m:Int)=(m:Int) := wrap_u64 (by omega) (by omega)
        simp only [nat_lt_int,hmq,k2,Int.natCast_nonneg,Int.ofNat_lt,decide_true,cond_true,and_self,Int.toNat_natCast,k3,k4,bne_self_eq_false,cond_false,beq_self_eq_true,Bool.not_true,k5,w2,i64_succ hmq (by omega)]
        exact ⟨_,rfl,⟨m+1,rfl,hmq⟩,by simp only [Int.toNat_natCast]; omega⟩
      · obtain rfl:m=q5.length := by omega
        simp only [nat_lt_int,Nat.lt_irrefl,decide_false,cond_false]
        have e1:∀ {R:Type} (k:(Bool×Unit)×Unit→Option R),orK (E := (Bool×Unit)×Unit) (bif (l[i].1==(1:Int)) then some (.inl (((b1==(0:Int)),()),())) else some (.inl ((false,()),()))) k=k ((((l[i].1==1) && (b1==0)),()),()) := fun k=>by
          cases (l[i].1==(1:Int)) <;> rfl
        simp only [hi,decide_true,cond_true,e1]
        simp only at hag2
        cases hn:(l[i].1==1) && (b1==0) with
        | true =>
          simp only [Bool.and_eq_true,beq_iff_eq] at hn
          obtain ⟨t1,t2,t3,t4⟩ := hth hn.1 hn.2
          simp only at t1 t2 t3 t4
          obtain ⟨y,rfl⟩:∃ y:Nat,b2=(y:Int) := ⟨b2.toNat,by omega⟩
          simp only [Int.toNat_natCast] at t2 t3 t4
          have w3:IntKind.wrap .u64 (a5.length:Int)=(a5.length:Int) := wrap_u64 (by omega) (by omega)
          have w4:IntKind.wrap .i64 (y:Int)=(y:Int) := i64_wrap (by omega) (by omega)
          have w5:¬ a5.length≤y := by omega
          have w6:∀ d,a5.getD y d=a5[y] := fun d=>getD_lt t2
          have w7:(cmdOf l[i]).2.2.1=l[i].2.2.1 := rfl
          have w8:(cmdOf l[i]).2.2.2.1=l[i].2.2.2.1 := rfl
          rw [w7] at t3
          rw [w8] at t4
          simp only [cond_true,ge_iff_le,w3,w4,Int.ofNat_le,w5,decide_false,cond_false,t2,nat_lt_int,Int.natCast_nonneg,Int.ofNat_lt,and_self,decide_true,Int.toNat_natCast,w6,t3,t4,bne_self_eq_false,orK_inl]
          simp only [e15,e16,bind_val,Bool.not_true,cond_false,hag2,bne_self_eq_false,i64_succ hi (by omega)]
          by_cases g0:b1=0
          · by_cases g3:l[i].1=3
            · have g4 := hag3 g0 g3
              simp only at g4
              simp only [g0,g3,beq_self_eq_true,cond_true,g4,Bool.not_true,cond_false]
              exact ⟨_,rfl,⟨_,_,rfl,hi,hin⟩,by simp only [Int.toNat_natCast]; omega⟩
            · have g4:(l[i].1==3)=false := by simpa using g3
              simp only [g0,g4,beq_self_eq_true,cond_true,cond_false]
              exact ⟨_,rfl,⟨_,_,rfl,hi,hin⟩,by simp only [Int.toNat_natCast]; omega⟩
          · have g4:(b1==0)=false := by simpa using g0
            simp only [g4,cond_false]
            exact ⟨_,rfl,⟨_,_,rfl,hi,hin⟩,by simp only [Int.toNat_natCast]; omega⟩
        | false =>
          simp only [cond_false,orK_inl]
          simp only [e15,e16,bind_val,Bool.not_true,cond_false,hag2,bne_self_eq_false,i64_succ hi (by omega)]
          by_cases g0:b1=0
          · by_cases g3:l[i].1=3
            · have g4 := hag3 g0 g3
              simp only at g4
              simp only [g0,g3,beq_self_eq_true,cond_true,g4,Bool.not_true,cond_false]
              exact ⟨_,rfl,⟨_,_,rfl,hi,hin⟩,by simp only [Int.toNat_natCast]; omega⟩
            · have g4:(l[i].1==3)=false := by simpa using g3
              simp only [g0,g4,beq_self_eq_true,cond_true,cond_false]
              exact ⟨_,rfl,⟨_,_,rfl,hi,hin⟩,by simp only [Int.toNat_natCast]; omega⟩
          · have g4:(b1==0)=false := by simpa using g0
            simp only [g4,cond_false]
            exact ⟨_,rfl,⟨_,_,rfl,hi,hin⟩,by simp only [Int.toNat_natCast]; omega⟩
    · obtain rfl:i=l.length := by omega
      obtain ⟨q1,q2,q3,q4,q5,q6,q7,⟨⟩⟩ := q
      have hq5 := (logOk_parts hR.2).1
      simp only at hq5
      simp only [Int.lt_irrefl,decide_false,cond_false]
      have hup := hR.1
      simp only at hup
      refine inr_step ?_
      refine loopO_rule (fun s => ∃ c:Nat,s=(((c:Int),()),())∧c≤q5.length) (fun s=>q5.length-Int.toNat s.1.1) (fun r=>r=((),true)) (fun s hs => ?_) fu (((0:Int),()),()) ⟨0,rfl,Nat.zero_le _⟩ (by simp only [Int.toNat_zero]; omega)
      obtain ⟨c,rfl,hcl⟩ := hs
      by_cases hcq:c<q5.length
      · simp only [nat_lt_int,hcq,Int.natCast_nonneg,Int.ofNat_lt,decide_true,cond_true,and_self,Int.toNat_natCast]
        refine loopO_rule (fun s => ∃ f:Nat,s=(((f:Int),()),())∧f≤c) (fun s=>c-Int.toNat s.1.1) (fun o=>LStep _ _ _ _ o) (fun s hs => ?_) fu (((0:Int),()),()) ⟨0,rfl,Nat.zero_le _⟩ (by simp only [Int.toNat_zero]; omega)
        obtain ⟨f,rfl,hfl⟩ := hs
        by_cases hfc:f<c
        · have hfq:f<q5.length := by omega
          have k4:∀ d,q5.getD c d=q5[c] := fun d=>getD_lt hcq
          have k5:∀ d,q5.getD f d=q5[f] := fun d=>getD_lt hfq
          simp only [nat_lt_int,hfc,hfq,Int.natCast_nonneg,Int.ofNat_lt,decide_true,cond_true,and_self,Int.toNat_natCast,k4,k5,i64_succ hfc (by omega)]
          by_cases he:q5[c].2.2.2.1=q5[f].2.2.2.1
          · have k6 := seq_up hup hfc hcq he
            simp only [he,beq_self_eq_true,cond_true,k6,decide_false,cond_false]
            exact ⟨_,rfl,⟨f+1,rfl,hfc⟩,by simp only [Int.toNat_natCast]; omega⟩
          · have k6:(q5[c].2.2.2.1==q5[f].2.2.2.1)=false := by simpa using he
            simp only [k6,cond_false]
            exact ⟨_,rfl,⟨f+1,rfl,hfc⟩,by simp only [Int.toNat_natCast]; omega⟩
        · obtain rfl:f=c := by omega
          simp only [nat_lt_int,Nat.lt_irrefl,decide_false,cond_false,i64_succ hcq (by omega)]
          exact ⟨_,rfl,⟨f+1,rfl,hcq⟩,by simp only [Int.toNat_natCast]; omega⟩
      · obtain rfl:c=q5.length := by omega
        simp only [nat_lt_int,Nat.lt_irrefl,decide_false,cond_false]
        exact ⟨_,rfl,rfl⟩
end Go.Proofs.YthlgaodaofpgoaaGreatDoor
