/-
  What is written of a packet is read.
-/
import Derived.Test.YtahamggipcikgaaDoorRbW
namespace Go.Proofs.YtahamggipcikgaaDoor
section
open Go.RowKit
variable {fu:Nat}
theorem anyF {α:Type} (l:List α):l.any (fun _=>false)=false := by simp
theorem p68_refl (l:List Int) (hl:l.length≤1048576) (hf:1048576<fu):p68 fu (l,l,())=some ((),true) := by
  unfold p68
  dsimp only
  simp only [bne_self_eq_false,cond_false]
  refine lp_any l (fun i=>(((i:Int),()),())) (fun _=>false) ((),false) ((),true) (by omega) (fun i h => ?_) (fun _ => ?_) (by rw [anyF]; rfl)
  · simp only [i5 h,i4 h,Int.toNat_natCast,i6 h,cond_true,cond_false,iwr h hl]
  · simp only [iend,cond_false]
    rfl
theorem p52_refl (v l:List Int) (hv:v.length≤1048576) (hl:l.length≤1048576) (hf:1048576<fu):p52 fu ((v,l,()),(v,l,()),())=some ((),true) := by
  unfold p52
  simp only [p68_refl v hv hf,p68_refl l hl hf,Option.bind_some,cond_true]
theorem p69_refl (i t k:Int) (d v l:List Int) (hv:v.length≤1048576) (hl:l.length≤1048576) (hf:1048576<fu):p69 fu ((i,t,k,d,v,l,()),(i,t,k,d,v,l,()),())=some ((),true) := by
  unfold p69
  simp only [p52_refl v l hv hl hf,Option.bind_some,cond_true,beq_self_eq_true]
theorem p53_refl (l:List EN) (hl:l.length≤1048576) (hw:∀ y ∈ l,enW y) (hf:1048576<fu):p53 fu (l,l,())=some ((),true) := by
  unfold p53
  dsimp only
  simp only [bne_self_eq_false,cond_false]
  refine lp_any l (fun i=>(((i:Int),()),())) (fun _=>false) ((),false) ((),true) (by omega) (fun i h => ?_) (fun _ => ?_) (by rw [anyF]; rfl)
  · have q := hw _ (List.getElem_mem h)
    have q1 := q.v.2
    have q2 := q.l.2
    simp only [i5 h,i4 h,Int.toNat_natCast,i6 h,cond_true,gd_lt h]
    rw [p69_refl _ _ _ _ _ _ (by omega) (by omega) hf]
    simp only [Option.bind_some,Bool.not_true,cond_false,iwr h hl]
  · simp only [iend,cond_false]
    rfl
theorem p30_refl {x:WR} (h:msW x) (hf:1048576<fu):p30 fu (msgZ x,msgZ x,())=some ((),true) := by
  have q1 := h.cv.2
  have q2 := h.cl.2
  have q3 := h.el
  have c1 := p52_refl (fu := fu) x.2.2.2.2.2.2.2.2.2.2.2.1.1 x.2.2.2.2.2.2.2.2.2.2.2.1.2 (by omega) (by omega) hf
  have c2 := p53_refl (fu := fu) x.2.2.2.2.2.2.2.1 (by omega) h.e hf
  unfold p30 msgZ
  dsimp only
  rw [c1,c2]
  simp only [Option.bind_some,cond_true,beq_self_eq_true]
theorem p9_refl (l:List WR) (hl:l.length≤1048576) (hw:∀ x ∈ l,msW x) (hf:1048576<fu):p9 fu (l,l,())=some ((),true) := by
  unfold p9
  dsimp only
  simp only [bne_self_eq_false,cond_false]
  refine lp_any l (fun i=>(((i:Int),()),())) (fun _=>false) ((),false) ((),true) (by omega) (fun i h => ?_) (fun _ => ?_) (by rw [anyF]; rfl)
  · have q := p30_refl (fu := fu) (hw _ (List.getElem_mem h)) hf
    unfold msgZ at q
    simp only [i5 h,i4 h,Int.toNat_natCast,i6 h,cond_true,gd_lt h]
    rw [q]
    simp only [Option.bind_some,Bool.not_true,cond_false,iwr h hl]
  · simp only [iend,cond_false]
    rfl
theorem p12_id (l:List WR) (hl:l.length≤1048576) (hf:1048576<fu):p12 fu (l,())=some ((),l) := by
  unfold p12
  dsimp only
  refine lp_fold l (fun i b=>((b,(i:Int),()),())) (fun b x=>b ++ [x]) (fun b=>((),b)) [] (fun i b=>b=l.take i) rfl (by omega) (fun i h b hb=>⟨?_,by rw [hb,List.take_succ_eq_append_getElem h]⟩) (fun b hb=>⟨?_,by rw [hb,List.take_length]⟩)
  · have hb':b.length≤1048576 := by rw [hb,List.length_take]; omega
    simp only [i5 h,i4 h,Int.toNat_natCast,i6 h,cond_true,gd_lt h,decide_true,List.length_singleton,room hb' (show 184≤200 by decide),iwr h hl]
  · simp only [iend,cond_false,decide_true,cond_true]
    rfl
theorem p10_id (l:List WR) (hl:l.length≤1048576) (hf:1048576<fu):p10 fu (l,())=some ((),l) := by
  unfold p10
  dsimp only
  refine lp_fold l (fun i b=>((b,(i:Int),()),())) (fun b x=>b ++ [x]) (fun b=>((),b)) [] (fun i b=>b=l.take i) rfl (by omega) (fun i h b hb=>⟨?_,by rw [hb,List.take_succ_eq_append_getElem h]⟩) (fun b hb=>⟨?_,by rw [hb,List.take_length]⟩)
  · have hb':b.length≤1048576 := by rw [hb,List.length_take]; omega
    simp only [i5 h,i4 h,Int.toNat_natCast,i6 h,cond_true,gd_lt h,decide_true,List.length_singleton,room hb' (show 184≤200 by decide),iwr h hl]
  · simp only [iend,cond_false,decide_true,cond_true]
    rfl
theorem nat0 (n:Nat):((n:Int)==0)=decide (n=0) := by
  by_cases h:n=0
  · simp [h]
  · rw [decide_eq_false h]; simp; omega
def bqE (x:WR):Bool := (decide (List.length x.2.2.2.2.2.2.2.1=0) && (decide (List.length x.2.2.2.2.2.2.2.2.2.2.2.1.1+List.length x.2.2.2.2.2.2.2.2.2.2.2.1.2=0) && decide (List.length x.2.2.2.2.2.2.2.2.2.2.2.2.1=0))) && ((!x.2.2.2.2.2.2.2.2.2.1 && ((x.2.2.2.2.2.2.2.2.2.2.1:Int)==0 && !x.2.2.2.2.2.2.2.2.2.2.2.2.2)) && ((x.2.1:Int)==5||((x.2.1:Int)==6 && ((x.2.2.2.2.2.2.1:Int)==0 && (x.2.2.2.2.2.2.2.2.1:Int)==0))))
theorem isBq_eq (x:WR) (h:Bq.WrOk fu x) (hd:List.length x.2.2.2.2.2.2.2.2.2.2.2.2.1≤1048576):p13 fu (Bq.zOf x,())=some ((),bqE x)∧isBq x=bqE x := by
  have hb := isBq_is fu x
  obtain ⟨g,kd,fr,to,t,i,lt,l,c,rj,hn,⟨cv,cl⟩,dt,dn⟩ := x
  obtain ⟨hg,hk,ht,hi,hlt,he,hel,hem,hc,hh,hcf⟩ := h
  have h1 := hcf.la
  have h2 := hcf.lb
  dsimp only at hem h1 h2 hd
  have w1:IntKind.wrap .i64 ((List.length l:Int)+(List.length cv:Int))=((List.length l+List.length cv:Nat):Int) := by rw [wi64 (by omega) (by omega)]; omega
  have w2:IntKind.wrap .i64 (((List.length l+List.length cv:Nat):Int)+(List.length cl:Int))=((List.length l+List.length cv+List.length cl:Nat):Int) := by rw [wi64 (by omega) (by omega)]; omega
  have w3:IntKind.wrap .i64 (((List.length l+List.length cv+List.length cl:Nat):Int)+(List.length dt:Int))=((List.length l+List.length cv+List.length cl+List.length dt:Nat):Int) := by rw [wi64 (by omega) (by omega)]; omega
  have w4:IntKind.wrap .i64 ((List.length cv:Int)+(List.length cl:Int))=((List.length cv+List.length cl:Nat):Int) := by rw [wi64 (by omega) (by omega)]; omega
  have hs:decide (List.length l+List.length cv+List.length cl+List.length dt=0)=(decide (List.length l=0) && (decide (List.length cv+List.length cl=0) && decide (List.length dt=0))) := by
    rw [← Bool.decide_and,← Bool.decide_and]
    exact decide_eq_decide.2 (by omega)
  have hA:Bq.p32 fu (msgZ (g,kd,fr,to,t,i,lt,l,c,rj,hn,(cv,cl),dt,dn),())=some ((),bqE (g,kd,fr,to,t,i,lt,l,c,rj,hn,(cv,cl),dt,dn)) := by
    unfold Bq.p32 msgZ bqE
    dsimp only
    rw [w1,w2,w3]
    simp only [nat0]
    rw [hs]
    generalize decide (List.length l=0)=b1
    generalize decide (List.length cv+List.length cl=0)=b2
    generalize decide (List.length dt=0)=b3
    generalize ((hn:Int)==0)=b4
    generalize ((kd:Int)==5)=b5
    generalize ((kd:Int)==6)=b6
    generalize ((lt:Int)==0)=b7
    generalize ((c:Int)==0)=b8
    have rj':Bool := rj
    cases b1 <;> cases b2 <;> cases b3 <;> cases b4 <;> cases b5 <;> cases b6 <;> cases b7 <;> cases b8 <;> cases rj <;> cases dn <;> rfl
  refine ⟨?_,?_⟩
  · unfold p13 p34 Bq.zOf bqE
    dsimp only
    rw [w4]
    simp only [nat0]
    generalize decide (List.length l=0)=b1
    generalize decide (List.length cv+List.length cl=0)=b2
    generalize decide (List.length dt=0)=b3
    generalize ((hn:Int)==0)=b4
    generalize ((kd:Int)==5)=b5
    generalize ((kd:Int)==6)=b6
    generalize ((lt:Int)==0)=b7
    generalize ((c:Int)==0)=b8
    cases b1 <;> cases b2 <;> cases b3 <;> cases b4 <;> cases b5 <;> cases b6 <;> cases b7 <;> cases b8 <;> cases rj <;> cases dn <;> rfl
  · rw [hb] at hA
    exact congrArg Prod.snd (Option.some.inj hA)
theorem kd_at {a t:List Int} {c:Nat} {v:Int} (hv:isI v) (h1:1≤v) (h3:v≤3) (h:a.drop c=iB v ++ t):kdS a c=some (c+(iB v).length,v) := by
  unfold kdS
  rw [iS_at hv h,Option.bind_some,if_neg (by dsimp only; omega)]
theorem nd_at {a t l:List Int} {c:Nat} (hl:ndW l) (h:a.drop c=nB l ++ t):listS iS 7 a c=some (c+(nB l).length,l) :=
  list_at (S := iS) (enc := iB) (W := isI) (fun _ _ _ _ hx h=>iS_at hx h) (fun _=>ub_pos' _) hl.1 hl.2 (by have := hl.2; omega) h
theorem cf_at {a t v l:List Int} {c:Nat} (hv:ndW v) (hl:ndW l) (h:a.drop c=cB v l ++ t):cfS a c=some (c+(cB v l).length,(v,l,())) := by
  unfold cB at h ⊢
  rw [List.append_assoc] at h
  unfold cfS
  rw [nd_at hv h,Option.bind_some,nd_at hl (drop_next h),Option.bind_some,List.length_append,Nat.add_assoc]
theorem en_at {a t:List Int} {c:Nat} {y:EN} (hy:enW y) (h:a.drop c=Bq.entB y ++ t):en2S a c=some (c+(Bq.entB y).length,y) := by
  obtain ⟨i,te,k,d,v,l⟩ := y
  obtain ⟨h0,h1,h2,h3,h4,h5,h6,h7,h8⟩ := hy
  dsimp only at h0 h1 h2 h3 h4 h5 h6 h7 h8
  unfold Bq.entB eB at h ⊢
  simp only [List.append_assoc] at h
  have d1 := drop_next h
  have d2 := drop_next d1
  have d3 := drop_next d2
  have d4 := drop_next d3
  unfold en2S enS
  simp only [uS_at h0 h,uS_at h1 d1,kd_at h2 h3 h4 d2,bytS_at (m := 262144) d3 (by omega) h5,cf_at h7 h8 d4,Option.bind_some]
  simp only [List.length_append,Nat.add_assoc]
theorem entB_pos (y:EN):1≤(Bq.entB y).length := by
  unfold Bq.entB eB
  rw [List.length_append]
  have:1≤(uB y.1).length := ub_pos' _
  omega
theorem bt_at {a t:List Int} {c:Nat} {x:WR} (h:msW x) (hb:bqE x=true) (hd:a.drop c=Bq.beatB x ++ t):(btS a c).bind (fun s=>some (s.1,mkW x.1 x.2.2.1 x.2.2.2.1 s.2))=some (c+(Bq.beatB x).length,x) := by
  obtain ⟨g,kd,fr,to,te,i,lt,l,cm,rj,hn,⟨cv,cl⟩,dt,dn⟩ := x
  obtain ⟨m1,m2,m3,m4,m5,m6,m7,m8,m9,m10,m11,m12,m13,m14⟩ := h
  unfold bqE at hb
  dsimp only at hb m4 m5 m6 m9
  simp only [Bool.and_eq_true,Bool.or_eq_true,decide_eq_true_eq,Bool.not_eq_true',beq_iff_eq] at hb
  obtain ⟨⟨a1,a2,a3⟩,⟨b4,b5,b6⟩,b7⟩ := hb
  have n1 := List.eq_nil_of_length_eq_zero a1
  have n2 := List.eq_nil_of_length_eq_zero (show List.length cv=0 by omega)
  have n3 := List.eq_nil_of_length_eq_zero (show List.length cl=0 by omega)
  have n4 := List.eq_nil_of_length_eq_zero a3
  clear a1 a2 a3
  subst n1 n2 n3 n4 b4 b5 b6
  rcases b7 with b7 | ⟨b7,b8,b9⟩
  · subst b7
    have e65:((5:Int)==6)=false := rfl
    unfold Bq.beatB at hd ⊢
    dsimp only at hd ⊢
    simp only [e65,cond_false,List.append_assoc] at hd ⊢
    have d1 := drop_next hd
    have d2 := drop_next d1
    have d3 := drop_next d2
    have d4 := drop_next d3
    unfold btS
    simp only [boolS_at hd,uS_at m4 d1,uS_at m5 d2,uS_at m6 d3,uS_at m9 d4,Option.bind_some,cond_false]
    simp only [mkW,List.length_append,Nat.add_assoc]
  · subst b7 b8 b9
    have e66:((6:Int)==6)=true := rfl
    unfold Bq.beatB at hd ⊢
    dsimp only at hd ⊢
    simp only [e66,cond_true,List.append_assoc,List.append_nil] at hd ⊢
    have d1 := drop_next hd
    have d2 := drop_next d1
    unfold btS
    simp only [boolS_at hd,uS_at m4 d1,uS_at m5 d2,Option.bind_some,cond_true]
    simp only [mkW,List.length_append,Nat.add_assoc]
theorem mg_at {a t:List Int} {c:Nat} {x:WR} (h:msW x) (hb:isBq x=false) (hd:a.drop c=Bq.msgB x ++ t):(mgS a c).bind (fun s=>some (s.1,mkW x.1 x.2.2.1 x.2.2.2.1 s.2))=some (c+(Bq.msgB x).length,x) := by
  obtain ⟨g,kd,fr,to,te,i,lt,l,cm,rj,hn,⟨cv,cl⟩,dt,dn⟩ := x
  have hm := h.kk
  have hz:isZ (kd,0,0,te,i,lt,l,cm,rj,hn,cv,cl,dt,dn,())=isBq (g,kd,fr,to,te,i,lt,l,cm,rj,hn,(cv,cl),dt,dn) := (isZ_mk g fr to _).symm
  rw [hb] at hz
  obtain ⟨m1,m2,m3,m4,m5,m6,m7,m8,m9,m10,m11,m12,m13,m14⟩ := h
  dsimp only at hm m1 m2 m3 m4 m5 m6 m7 m8 m9 m10 m11 m12 m13 m14
  unfold Bq.msgB at hd ⊢
  dsimp only at hd ⊢
  have e:uB (List.length l:Int) ++ (List.flatMap Bq.entB l ++ (uB cm ++ (bB rj ++ (uB hn ++ (cB cv cl ++ (tB dt ++ bB dn))))))=lB Bq.entB l ++ (uB cm ++ (bB rj ++ (uB hn ++ (cB cv cl ++ (tB dt ++ bB dn))))) := by unfold lB; rw [List.append_assoc]
  rw [e] at hd ⊢
  simp only [List.append_assoc] at hd
  have d1 := drop_next hd
  have d2 := drop_next d1
  have d3 := drop_next d2
  have d4 := drop_next d3
  have d5 := drop_next d4
  have d6 := drop_next d5
  have d7 := drop_next d6
  have d8 := drop_next d7
  have d9 := drop_next d8
  have d10 := drop_next d9
  have hl := list_at (S := en2S) (enc := Bq.entB) (W := enW) (fun _ _ _ _ hx h=>en_at hx h) entB_pos m7 m8 (by omega) d4
  unfold mgS mgE
  simp only [iS_at m2 hd,uS_at m4 d1,uS_at m5 d2,uS_at m6 d3,hl,uS_at m9 d5,boolS_at d6,uS_at m10 d7,cf_at m11 m12 d8,bytS_at (m := 262144) d9 (by omega) m13,boolS_at d10,Option.bind_some,hm,hz,Bool.not_false,Bool.and_self,cond_true]
  simp only [mkW,List.length_append,Nat.add_assoc]
theorem wr_at {fr to kd:Int} (hk:kd=1 ∨ kd=2) {a t:List Int} {c:Nat} {x:WR} (h:wrW fr to kd x) (hd:a.drop c=Bq.wireB kd x ++ t):wrS fr to kd a c=some (c+(Bq.wireB kd x).length,x) := by
  obtain ⟨q1,q2,q3,q4⟩ := h
  have hq := (isBq_eq (fu := 1048577) x (ms_ok q1 (by decide)) (by have := q1.d; omega)).2
  unfold toq at q3
  unfold kindq at q4
  unfold Bq.wireB at hd ⊢
  rw [List.append_assoc] at hd
  have d1 := drop_next hd
  unfold wrS
  rw [uS_at q1.g hd,Option.bind_some]
  rcases hk with rfl | rfl
  · have e:((1:Int)==2)=false := rfl
    have hb:isBq x=false := by
      cases hb:isBq x with
      | false=>rfl
      | true=>rw [hb] at q4; cases q4
    simp only [e,cond_false] at d1 ⊢
    have := mg_at q1 hb d1
    rw [q2,q3] at this
    rw [this,List.length_append,Nat.add_assoc]
  · have e:((2:Int)==2)=true := rfl
    have hb:isBq x=true := by
      cases hb:isBq x with
      | true=>rfl
      | false=>rw [hb] at q4; cases q4
    simp only [e,cond_true] at d1 ⊢
    have := bt_at q1 (by rw [← hq]; exact hb) d1
    rw [q2,q3] at this
    rw [this,List.length_append,Nat.add_assoc]
theorem wireB_pos (kd:Int) (x:WR):1≤(Bq.wireB kd x).length := by
  unfold Bq.wireB
  rw [List.length_append]
  have:1≤(uB x.1).length := ub_pos' _
  omega
theorem open_at {fr to kd:Int} {l:List WR} (hok:okP fr to kd=true) (hne:l ≠ []) (hl:l.length≤4096) (hw:∀ x ∈ l,wrW fr to kd x):opnS fr to kd (Bq.wrB kd l)=some l := by
  have hk := (okP_parts hok).1
  have h0:(Bq.wrB kd l).drop 0=uB (l.length:Int) ++ (l.flatMap (Bq.wireB kd) ++ []) := by rw [List.append_nil]; rfl
  have hg := flat_ge (wireB_pos kd) l
  have hlen:l.length ≠ 0 := fun h=>hne (List.eq_nil_of_length_eq_zero h)
  unfold opnS
  rw [hok,cntS_at (m := 4096) h0 (by omega) (by omega) (by rw [List.append_nil]; exact hg)]
  simp only [cond_true,Option.bind_some,Int.toNat_natCast]
  rw [if_neg (by omega),rep_at (S := wrS fr to kd) (enc := Bq.wireB kd) (W := wrW fr to kd) (fun _ _ _ _ hx h=>wr_at hk hx h) l [] _ _ _ hw (drop_next h0)]
  simp only [Option.bind_some]
  rw [if_neg (by unfold Bq.wrB; rw [List.length_append]; omega)]
  rfl
end
section
open Go.RowKit
variable {fu:Nat}
theorem sel_len (l:List WR) (k:Nat) (q b:Int):(selq (l.take k) q b).length≤l.length := Nat.le_trans (List.length_filter_le _ _) (by rw [List.length_take]; omega)
theorem sel_step {l:List WR} {k:Nat} (h:k<l.length) (q b:Int):selq (l.take (k+1)) q b=bif toq l[k]==q && kindq l[k]==b then selq (l.take k) q b ++ [l[k]] else selq (l.take k) q b := tk_fil _ h
theorem pkt_nil {fr:Int} {l:List WR} (h:∀ x ∈ l,badW fr x=false) (b:Int):pktS fr l (0,b)=[] := by
  have:selq l 0 b=[] := by
    unfold selq
    rw [List.filter_eq_nil_iff]
    intro x hx hh
    have h1 := h x hx
    simp only [Bool.and_eq_true,beq_iff_eq] at hh
    unfold badW at h1
    rw [hh.1] at h1
    cases hz:(x.2.2.1 != fr) <;> simp [hz,nodeS] at h1
  unfold pktS
  dsimp only
  rw [this]
  rfl
abbrev seven:List Int := [1,2,3,4,5,6,7]
theorem seven_get:∀ i:Fin 7,seven[i.1]=(i.1:Int)+1 := by decide
theorem pack_seven {fr:Int} {l:List WR} (h:∀ x ∈ l,badW fr x=false):packL fr l=seven.flatMap fun q=>pktS fr l (q,2) ++ pktS fr l (q,1) := by
  unfold packL keysq seven
  simp only [List.flatMap_cons,pkt_nil h,List.nil_append,List.append_assoc,List.flatMap_nil]
theorem pkt_one (fr:Int) (l:List WR) (k:Int×Int):(pktS fr l k).length≤1 := by unfold pktS; cases (selq l k.1 k.2).isEmpty <;> simp
theorem two_len (fr:Int) (l:List WR):∀ s:List Int,(s.flatMap fun q=>pktS fr l (q,2) ++ pktS fr l (q,1)).length≤s.length * 2
  | []=>by simp
  | q :: s=>by
    have h1 := two_len fr l s
    have h2 := pkt_one fr l (q,2)
    have h3 := pkt_one fr l (q,1)
    rw [List.flatMap_cons,List.length_append,List.length_append,List.length_cons]
    omega
theorem bad_parts {fr:Int} {x:WR} (h:badW fr x=false):x.2.2.1=fr∧nodeS (toq x)=true∧toq x ≠ fr∧kindS x.2.1=true := by
  unfold badW at h
  cases h1:(x.2.2.1 != fr) with
  | true=>rw [h1] at h; cases h
  | false =>
  cases h2:nodeS (toq x) with
  | false=>rw [h1,h2] at h; cases h
  | true =>
  cases h3:(toq x==fr) with
  | true=>rw [h1,h2,h3] at h; cases h
  | false =>
  cases h4:kindS x.2.1 with
  | false=>rw [h1,h2,h3,h4] at h; cases h
  | true=>exact ⟨by simpa using h1,rfl,beq_eq_false_iff_ne.1 h3,rfl⟩
theorem much_parts {x:WR} (h:muchS x=false):List.length x.2.2.2.2.2.2.2.1≤8∧List.length x.2.2.2.2.2.2.2.2.2.2.2.2.1≤262144∧crowdS x.2.2.2.2.2.2.2.2.2.2.2.1.1 x.2.2.2.2.2.2.2.2.2.2.2.1.2=false ∧ ∀ y ∈ (x.2.2.2.2.2.2.2.1:List EN),badE y=false := by
  unfold muchS at h
  by_cases h1:8<List.length x.2.2.2.2.2.2.2.1
  · rw [decide_eq_true h1] at h; cases h
  rw [decide_eq_false h1] at h
  by_cases h2:262144<List.length x.2.2.2.2.2.2.2.2.2.2.2.2.1
  · rw [decide_eq_true h2] at h; cases h
  rw [decide_eq_false h2] at h
  simp only [cond_false] at h
  cases h3:crowdS x.2.2.2.2.2.2.2.2.2.2.2.1.1 x.2.2.2.2.2.2.2.2.2.2.2.1.2 with
  | true=>rw [h3] at h; cases h
  | false =>
  rw [h3] at h
  simp only [cond_false] at h
  exact ⟨by omega,by omega,rfl,fun y hy=>by simpa using List.any_eq_false.1 h y hy⟩
theorem badE_parts {y:EN} (h:badE y=false):List.length y.2.2.2.1≤262144∧crowdS y.2.2.2.2.1 y.2.2.2.2.2=false∧(1:Int)≤y.2.2.1∧(y.2.2.1:Int)≤3 := by
  unfold badE at h
  by_cases h1:262144<List.length y.2.2.2.1
  · rw [decide_eq_true h1] at h; cases h
  rw [decide_eq_false h1] at h
  simp only [cond_false] at h
  cases h2:crowdS y.2.2.2.2.1 y.2.2.2.2.2 with
  | true=>rw [h2] at h; cases h
  | false =>
  rw [h2] at h
  simp only [cond_false] at h
  by_cases h3:(y.2.2.1:Int)<1
  · rw [decide_eq_true h3] at h; cases h
  rw [decide_eq_false h3] at h
  simp only [cond_false,decide_eq_false_iff_not] at h
  exact ⟨by omega,rfl,Int.not_lt.1 h3,Int.not_lt.1 h⟩
def wbD (x:WR):Prop := byt x.2.2.2.2.2.2.2.2.2.2.2.2.1 ∧ ∀ y ∈ (x.2.2.2.2.2.2.2.1:List EN),byt y.2.2.2.1
theorem nd_of {v l:List Int} (h:confOk fu v l) (hc:crowdS v l=false):ndW v∧ndW l := by
  obtain ⟨h1,h2⟩ := crowd_no hc
  exact ⟨⟨h.ha,by omega⟩,⟨h.hb,by omega⟩⟩
theorem ms_of {fr:Int} {x:WR} (hw:Bq.WrOk fu x) (hb:badW fr x=false) (hm:muchS x=false) (hd:wbD x):msW x := by
  obtain ⟨m1,m2,m3,m4⟩ := much_parts hm
  obtain ⟨n1,n2⟩ := nd_of hw.cf m3
  refine ⟨hw.g,hw.k,(bad_parts hb).2.2.2,hw.t,hw.i,hw.l,fun y hy => ?_,by omega,hw.c,hw.h,n1,n2,by omega,hd.1⟩
  obtain ⟨e1,e2,e3,e4⟩ := badE_parts (m4 y hy)
  have q := hw.e y hy
  obtain ⟨o1,o2⟩ := nd_of q.c e2
  exact ⟨q.i,q.t,q.k,e3,e4,by omega,hd.2 y hy,o1,o2⟩
theorem byt_flat {α:Type} {f:α→List Int}:∀ {l:List α},(∀ x ∈ l,byt (f x))→byt (l.flatMap f)
  | [],_=>byt_nil
  | x :: l,h=>by
    rw [List.flatMap_cons]
    exact byt_app (h x (by simp)) (byt_flat fun y hy=>h y (by simp [hy]))
theorem byt_bB (b:Bool):byt (bB b) := by
  intro x hx
  cases b <;> simp [bB] at hx <;> omega
theorem byt_nB (l:List Int):byt (nB l) := byt_app (byt_uB _) (byt_flat fun _ _=>byt_uB _)
theorem byt_cB (v l:List Int):byt (cB v l) := byt_app (byt_nB v) (byt_nB l)
theorem byt_en {y:EN} (h:enW y):byt (Bq.entB y) := byt_app (byt_uB _) (byt_app (byt_uB _) (byt_app (byt_uB _) (byt_app (byt_tB h.db) (byt_cB _ _))))
theorem byt_wire {kd:Int} {x:WR} (h:msW x):byt (Bq.wireB kd x) := by
  refine byt_app (byt_uB _) ?_
  cases (kd==2) with
  | true =>
    refine byt_app (byt_bB _) (byt_app (byt_uB _) (byt_app (byt_uB _) ?_))
    cases ((x.2.1:Int)==6) with
    | true=>exact byt_nil
    | false=>exact byt_app (byt_uB _) (byt_uB _)
  | false=>exact byt_app (byt_uB _) (byt_app (byt_uB _) (byt_app (byt_uB _) (byt_app (byt_uB _) (byt_app (byt_uB _) (byt_app (byt_flat fun y hy=>byt_en (h.e y hy)) (byt_app (byt_uB _) (byt_app (byt_bB _) (byt_app (byt_uB _) (byt_app (byt_cB _ _) (byt_app (byt_tB h.db) (byt_bB _)))))))))))
theorem sel_mem {l:List WR} {q kd:Int} {x:WR} (h:x ∈ selq l q kd):x ∈ l∧toq x=q∧kindq x=kd := by
  obtain ⟨h1,h2⟩ := List.mem_filter.1 h
  simp only [Bool.and_eq_true,beq_iff_eq] at h2
  exact ⟨h1,h2.1,h2.2⟩
theorem part_ok {fr q kd:Int} {l:List WR} (hz:refS fr l=0) (hall:∀ x ∈ l,msW x) (hk:kd=1 ∨ kd=2) (hne:selq l q kd ≠ []):okP fr q kd=true∧(selq l q kd).length≤4096 ∧ ∀ x ∈ selq l q kd,wrW fr q kd x := by
  obtain ⟨z1,z2,z3,z4⟩ := ref_zero hz
  obtain ⟨x,hx⟩ := List.exists_mem_of_ne_nil _ hne
  obtain ⟨y1,y2,y3⟩ := sel_mem hx
  obtain ⟨p1,p2,p3,p4⟩ := bad_parts (z2 x y1)
  rw [y2] at p2 p3
  refine ⟨?_,Nat.le_trans (List.length_filter_le _ _) z3,fun y hy => ?_⟩
  · unfold okP
    rw [z1,p2,show (fr==q)=false from beq_eq_false_iff_ne.2 (Ne.symm p3)]
    rcases hk with rfl | rfl <;> rfl
  · obtain ⟨w1,w2,w3⟩ := sel_mem hy
    exact ⟨hall y w1,(bad_parts (z2 y w1)).1,w2,w3⟩
theorem packet_told {fr q kd:Int} {l:List WR} (hf:4194304<fu) (hz:refS fr l=0) (hall:∀ x ∈ l,msW x) (hk:kd=1 ∨ kd=2) (hne:selq l q kd ≠ []) :
    p7 fu ((fr,q,kd,Bq.wrB kd (selq l q kd),()),())=some ((),selq l q kd,0,())∧pPack fu (fr,selq l q kd,())=some ((),[(fr,q,kd,Bq.wrB kd (selq l q kd))],0,()) := by
  obtain ⟨hok,hl,hw⟩ := part_ok hz hall hk hne
  have hwo:∀ x ∈ selq l q kd,Bq.WrOk fu x := fun x hx=>ms_ok (hw x hx).1 (by omega)
  have hlen:(Bq.wrB kd (selq l q kd)).length≤140737488355328 := wrB_len (fu := fu) hwo (fun x hx=>ms_much (hw x hx).1) hl
  have hoa:okA fu (Bq.wrB kd (selq l q kd)) := ⟨byt_app (byt_uB _) (byt_flat fun x hx=>byt_wire (hw x hx).1),hlen,by omega⟩
  constructor
  · rcases p7_is hoa hf fr q kd with ⟨l',h1,h2⟩ | ⟨h1,_⟩
    · rw [open_at hok hne hl hw] at h1
      injection h1 with h1
      rw [h2,← h1]
    · rw [open_at hok hne hl hw] at h1
      cases h1
  · obtain ⟨hr,hpk⟩ := single_pack hok hne hl hw
    have hP := pPack_is (fu := fu) fr (selq l q kd) (by omega) hwo (by omega)
    rw [hr,hpk] at hP
    rw [hP]
    rfl
theorem flat_split {α β:Type} (f:α→List β) (l:List α) {i:Nat} (h:i<l.length):l.flatMap f=(l.take i).flatMap f ++ (f l[i] ++ (l.drop (i+1)).flatMap f) := by
  have e:l=l.take i ++ (l[i] :: l.drop (i+1)) := by rw [← List.drop_eq_getElem_cons h,List.take_append_drop]
  exact (congrArg (fun l=>List.flatMap f l) e).trans (by rw [List.flatMap_append,List.flatMap_cons])
theorem len_pos_of {α:Type} {l:List α} (h:l ≠ []):((l.length:Int)==0)=false := by
  cases l with
  | nil=>exact absurd rfl h
  | cons x l=>simp; omega
theorem kinds_get:∀ j:Fin 2,([2,1]:List Int)[j.1]=2-(j.1:Int) := by decide
theorem p4_is (h6:p6 fu ()=some ((),true)) (hf:4194304<fu) (fr:Int) (l:List WR) (hl:l.length≤1048576) (hw:∀ x ∈ l,Bq.WrOk fu x) (hwb:∀ x ∈ l,wbD x):p4 fu (fr,l,())=some ((),true) := by
  unfold p4
  simp only [h6,Option.bind_some]
  rw [p12_id l hl (by omega)]
  simp only [Option.bind_some,decide_true,cond_true]
  rw [pPack_is fr l hl hw (by omega)]
  simp only [Option.bind_some,Bool.not_true,cond_false,orK_inl]
  by_cases hz:refS fr l=0
  case neg =>
    rw [show (refS fr l != 0)=true by simp [hz],show (refS fr l==0)=false by simp [hz]]
    rfl
  rw [hz]
  simp only [bne_self_eq_false,cond_false,beq_self_eq_true,cond_true]
  obtain ⟨z1,z2,z3,z4⟩ := ref_zero hz
  have hall:∀ x ∈ l,msW x := fun x hx=>ms_of (hw x hx) (z2 x hx) (z4 x hx) (hwb x hx)
  have hP := pack_seven (fr := fr) z2
  generalize packL fr l=P at hP ⊢
  refine lp_fold seven (fun i b=>((b,(i:Int)+1,()),())) (fun (b:Int) q=>b+((pktS fr l (q,2) ++ pktS fr l (q,1)).length:Int)) (fun b=>((),b==(P.length:Int))) 0 (fun i b=>b=(((seven.take i).flatMap fun q=>pktS fr l (q,2) ++ pktS fr l (q,1)).length:Int)) rfl (by show 7<fu; omega) (fun i h b hb=>⟨?_,by
    rw [hb,List.take_succ_eq_append_getElem h,List.flatMap_append,List.length_append,Int.natCast_add]
    simp⟩) (fun b hb=>⟨?_,by rw [hb,List.take_length,← hP]; simp⟩)
  · have h7:i<7 := h
    have hPd:P=(seven.take i).flatMap (fun q=>pktS fr l (q,2) ++ pktS fr l (q,1)) ++ ((pktS fr l (seven[i],2) ++ pktS fr l (seven[i],1)) ++ (seven.drop (i+1)).flatMap fun q=>pktS fr l (q,2) ++ pktS fr l (q,1)) := by
      rw [hP]
      exact flat_split _ seven h
    have hPl:P.length≤14 := by rw [hP]; exact two_len fr l seven
    rw [show seven[i]=(i:Int)+1 from seven_get ⟨i,h7⟩] at hPd ⊢
    have hq:decide ((i:Int)+1≤7)=true := by simp <;> omega
    have hq2:IntKind.wrap .i64 ((i:Int)+1+1)=((i+1:Nat):Int)+1 := by rw [wi64 (by omega) (by omega)]; omega
    simp only [hq,cond_true,hq2]
    clear hq hq2 hP
    generalize (i:Int)+1=q at hPd ⊢
    generalize ((i+1:Nat):Int)+1=q'
    generalize (seven.take i).flatMap (fun q=>pktS fr l (q,2) ++ pktS fr l (q,1))=pre at hPd hb
    generalize (seven.drop (i+1)).flatMap (fun q=>pktS fr l (q,2) ++ pktS fr l (q,1))=post at hPd
    subst hb
    refine lp_fold ([2,1]:List Int) (fun j b=>((b,(j:Int),()),())) (fun (b:Int) kd=>b+((pktS fr l (q,kd)).length:Int)) (fun b=>(Sum.inl ((b,q',()),()):_ ⊕ _)) (pre.length:Int) (fun j b=>b=((pre ++ (([2,1]:List Int).take j).flatMap fun kd=>pktS fr l (q,kd)).length:Int)) (by simp) (by show 2<fu; omega) (fun j hj b hb=>⟨?_,by
      rw [hb,List.take_succ_eq_append_getElem hj,List.flatMap_append]
      simp only [List.length_append,List.flatMap_cons,List.flatMap_nil,List.append_nil,Int.natCast_add]
      omega⟩) (fun b hb=>⟨?_,by
      rw [hb]
      simp⟩)
    · have hj2:j<2 := hj
      rw [show ([2,1]:List Int)[j]=2-(j:Int) from kinds_get ⟨j,hj2⟩]
      obtain ⟨kd,pre2,post2,hkd,hkd2,hP2,hb2,hj0⟩:∃ (kd:Int) (pre2 post2:List PKT),2-(j:Int)=kd∧(kd=1 ∨ kd=2)∧P=pre2 ++ (pktS fr l (q,kd) ++ post2)∧b=(pre2.length:Int)∧((j:Int)==0)=(kd==2) := by
        rcases j with _ | _ | j
        · exact ⟨2,pre,pktS fr l (q,1) ++ post,rfl,.inr rfl,by rw [hPd,List.append_assoc],by rw [hb]; simp,rfl⟩
        · exact ⟨1,pre ++ pktS fr l (q,2),post,rfl,.inl rfl,by rw [hPd]; simp only [List.append_assoc],by rw [hb]; simp,rfl⟩
        · omega
      have hjl:decide ((j:Int)<2)=true := by simp <;> omega
      have hjw:IntKind.wrap .i64 ((j:Int)+1)=((j+1:Nat):Int) := by rw [wi64 (by omega) (by omega)]; omega
      rw [hkd]
      clear hPd hb hkd
      subst hb2
      simp only [hjl,cond_true,hj0,hjw]
      refine lp_fold l (fun k o=>((o,(k:Int),()),())) (fun o x=>bif toq x==q && kindq x==kd then o ++ [x] else o) (fun _=>_) [] (fun k o=>o=selq (l.take k) q kd) rfl (by omega) (fun k hk o ho=>⟨?_,by rw [ho,sel_step hk]⟩) (fun o ho=>⟨?_,rfl⟩)
      · have hx := List.getElem_mem hk
        have ho':o.length≤1048576 := by
          rw [ho]
          have := sel_len l k q kd
          omega
        have hx1 := hall _ hx
        obtain ⟨c1,c2⟩ := isBq_eq (fu := fu) l[k] (hw _ hx) (by have := hx1.d; omega)
        rw [← c2] at c1
        unfold Bq.zOf at c1
        have hkq:(kindq l[k]==kd)=(isBq l[k]==(kd==2)) := by
          unfold kindq
          rcases hkd2 with rfl | rfl <;> cases isBq l[k] <;> rfl
        simp only [i5 hk,i4 hk,Int.toNat_natCast,i6 hk,cond_true]
        simp only [gd_lt hk]
        rw [c1,hkq]
        simp only [Option.bind_some,toq]
        cases (l[k].2.2.2.1==q) with
        | false=>simp only [cond_false,orK_inl,Bool.false_and,iwr hk hl]
        | true =>
          simp only [cond_true,orK_inl,Bool.true_and]
          cases (isBq l[k]==(kd==2)) with
          | false=>simp only [cond_false,iwr hk hl]
          | true=>simp only [cond_true,decide_true,List.length_singleton,room ho' (show 184≤200 by decide),iwr hk hl]
      · rw [List.take_length] at ho
        subst ho
        simp only [iend,cond_false]
        by_cases hne:selq l q kd=[]
        · have hpk:pktS fr l (q,kd)=[] := by unfold pktS; rw [hne]; rfl
          rw [hne,hpk]
          simp only [List.length_nil,Int.natCast_zero,beq_self_eq_true,cond_true,Int.add_zero]
          rfl
        · obtain ⟨t1,t2⟩ := packet_told hf hz hall hkd2 hne
          obtain ⟨hok,hsl,hsw⟩ := part_ok hz hall hkd2 hne
          have hpk:pktS fr l (q,kd)=[(fr,q,kd,Bq.wrB kd (selq l q kd))] := by
            unfold pktS
            cases hs:selq l q kd with
            | nil=>exact absurd hs hne
            | cons x s=>rfl
          rw [hpk] at hP2 ⊢
          generalize hX:((fr,q,kd,Bq.wrB kd (selq l q kd)):PKT)=X at hP2 t2 ⊢
          have hlt:pre2.length<P.length := by rw [hP2]; simp <;> omega
          have e1:decide ((pre2.length:Int)≥(P.length:Int))=false := by simp <;> omega
          have e2:decide ((0:Int)≤(pre2.length:Int)∧(pre2.length:Int)<(P.length:Int))=true := by simp <;> omega
          have e3:decide (pre2.length<P.length)=true := by simp <;> omega
          have e4:P.getD pre2.length (dflt T_api_Packet)=X := by
            rw [List.getD_eq_getElem?_getD,hP2]
            simp
          have e5:IntKind.wrap .i64 ((pre2.length:Int)+1)=((pre2.length+1:Nat):Int) := by rw [wi64 (by omega) (by omega)]; omega
          have e6:decide ((0:Int)≤(pre2.length:Int))=true := by simp
          have e7:decide ((0:Int)≤((pre2.length+1:Nat):Int))=true := by simp <;> omega
          have e8:decide (pre2.length≤pre2.length+1∧0+(pre2.length+1)≤P.length)=true := by simp <;> omega
          have e9:decide (pre2.length+(pre2.length+1-pre2.length)≤P.length)=true := by simp <;> omega
          have e10:sub' P pre2.length (pre2.length+1-pre2.length)=[X] := by
            rw [sub'_eq,Nat.add_sub_cancel_left,hP2,List.drop_left]
            rfl
          have e11:(((List.length [X]:Nat):Int) != 1)=false := rfl
          have x1:X.1=fr := by rw [← hX]
          have x2:X.2.1=q := by rw [← hX]
          have x3:X.2.2.1=kd := by rw [← hX]
          have x4:X.2.2.2=Bq.wrB kd (selq l q kd) := by rw [← hX]
          simp only [len_pos_of hne,cond_false,e1,e2,Int.toNat_natCast,e3,e4,cond_true,x1,x2,x3,x4,t1,Option.bind_some]
          rw [p10_id (selq l q kd) (by omega) (by omega)]
          simp only [Option.bind_some]
          rw [p9_refl (selq l q kd) (by omega) (fun x hx=>(hsw x hx).1) (by omega)]
          simp only [Option.bind_some,bne_self_eq_false,cond_false,Bool.not_true,t2,e11,e6,e5,e7,Int.toNat_natCast,e8,e9,e10,cond_true]
          rw [p14_refl [X] (by simp) (by omega)]
          simp only [Option.bind_some,Bool.not_true,cond_false,inrO,Option.map_some,List.length_singleton]
          rfl
    · have hq2:decide (((([2,1]:List Int).length:Nat):Int)<2)=false := by decide
      simp only [hq2,cond_false,inrO,Option.map_some]
  · have hq:decide (((seven.length:Nat):Int)+1≤7)=false := by decide
    simp only [hq,cond_false,inrO,Option.map_some]
end
end Go.Proofs.YtahamggipcikgaaDoor
