/-
  Layer 17: what was parted is joined again: the state.
-/
import Derived.Test.YtmjmhobeiamgiaaLnY
namespace Go.Proofs.Ytmjmhobeiamgiaa
open Go.RowKit
variable {fu:Nat}
theorem risL_ren {m:List Rd} (h:risL m) (k:Nat):risL (ren k m) := by
  have h1:(m.map (·.2)).Pairwise (fun x y=>y.2.2.1=x.2.2.1→x.2.2.2<y.2.2.2) := by
    rw [List.pairwise_map]; exact h
  rw [← ren_snd k m,List.pairwise_map] at h1
  exact h1
structure Bk (l:List Rd) (h h':Rd→Bool):Prop where
  err:(jnE (ren 0 (l.filter h)) (ren 0 (l.filter h'))).2.2.2.1=0
  jn:Jn (ren 0 (l.filter h)) (ren 0 (l.filter h')) (jnE (ren 0 (l.filter h)) (ren 0 (l.filter h'))).1 (jnE (ren 0 (l.filter h)) (ren 0 (l.filter h'))).2.1 (jnE (ren 0 (l.filter h)) (ren 0 (l.filter h'))).2.2.1
  eq:jnE (ren 0 (l.filter h)) (ren 0 (l.filter h'))=jnS ((ren 0 (l.filter h)).length+(ren 0 (l.filter h')).length) [] [] [] (ren 0 (l.filter h)) (ren 0 (l.filter h'))
  len:(jnE (ren 0 (l.filter h)) (ren 0 (l.filter h'))).1.length=l.length
  ris:risL (jnE (ren 0 (l.filter h)) (ren 0 (l.filter h'))).1
  mem:∀ i (hi:i<(jnE (ren 0 (l.filter h)) (ren 0 (l.filter h'))).1.length),∃ w ∈ l,(jnE (ren 0 (l.filter h)) (ren 0 (l.filter h'))).1[i].2=w.2
theorem len_two {h h':Rd→Bool}:∀ l:List Rd,(∀ x ∈ l,h' x = !h x)→(l.filter h).length+(l.filter h').length=l.length
  | [],_=>rfl
  | x :: l,hc=>by
    have ih := len_two l fun y hy=>hc y (List.mem_cons_of_mem _ hy)
    have hx := hc x List.mem_cons_self
    simp only [List.filter_cons,hx]
    cases h x <;> simp <;> omega
theorem bk_is {l:List Rd} {h h':Rd→Bool} (hl:logOk l=true) (hr:risL l) (hc:∀ x ∈ l,h' x = !h x):Bk l h h' := by
  have l1 := ren_log hl (List.filter_sublist (p := h))
  have l2 := ren_log hl (List.filter_sublist (p := h'))
  have hlen := (logOk_parts hl).1
  have h2 := len_two l hc
  have n1 := ren_len 0 (l.filter h)
  have n2 := ren_len 0 (l.filter h')
  have herr:(jnE (ren 0 (l.filter h)) (ren 0 (l.filter h'))).2.2.2.1=0 := by
    unfold jnE
    rw [l1,l2,decide_eq_false (show ¬ (ren 0 (l.filter h)).length+(ren 0 (l.filter h')).length>4096 by omega)]
    simp only [Bool.and_self,cond_true,cond_false]
    exact jn_never hr _ _ _ _ _ _ rfl (ren_pos hr h 0) (ren_pos hr h' 0) (fun x hx=>by obtain ⟨w,q1,_,q2⟩ := ren_mem hx; exact ⟨w,q1,q2⟩) fun x hx=>by obtain ⟨w,q1,_,q2⟩ := ren_mem hx; exact ⟨w,q1,q2⟩
  obtain ⟨-,-,g3,g4,g5⟩ := jn_good herr
  refine ⟨herr,g4,g5,by rw [g4.len]; omega,?_,fun i hi => ?_⟩
  · rw [g5]
    refine jn_ris _ _ _ _ _ _ rfl List.Pairwise.nil (risL_ren (hr.sublist List.filter_sublist) 0) (risL_ren (hr.sublist List.filter_sublist) 0) (fun x hx=>absurd hx List.not_mem_nil) (fun x hx=>absurd hx List.not_mem_nil) fun x hx y hy e e' => ?_
    obtain ⟨w,w1,w2,w3⟩ := ren_mem hx
    obtain ⟨v,v1,v2,v3⟩ := ren_mem hy
    obtain ⟨i,hi,rfl⟩ := List.getElem_of_mem w1
    obtain ⟨j,hj,rfl⟩ := List.getElem_of_mem v1
    rw [← w3,← v3] at e e'
    rcases Nat.lt_trichotomy i j with hij | hij | hij
    · have := List.pairwise_iff_getElem.1 hr i j hi hj hij e.symm
      omega
    · subst hij
      have := hc _ w1
      rw [w2,v2] at this
      cases this
    · have := List.pairwise_iff_getElem.1 hr j i hj hi hij e
      omega
  · obtain ⟨-,y,hy,e⟩ := g4.at_ i hi
    rcases hy with hy | hy
    · obtain ⟨w,w1,_,w3⟩ := ren_mem hy
      exact ⟨w,w1,by rw [e,w3]⟩
    · obtain ⟨w,w1,_,w3⟩ := ren_mem hy
      exact ⟨w,w1,by rw [e,w3]⟩
theorem find_map {F:Pr→Pr} (hF:∀ y,(F y).1=y.1) (id:Int):∀ ps:List Pr,find (ps.map F) id=(find ps id).map F
  | []=>rfl
  | y :: ps=>by
    rw [List.map_cons,find_cons,find_cons,hF]
    by_cases h:y.1=id
    · rw [if_pos h,if_pos h]; rfl
    · rw [if_neg h,if_neg h]; exact find_map hF id ps
def backF (ca cb ta tb:List Int) (y:Pr):Pr := laterP (mv ta (mv ca y)) (mv tb (mv cb y))
theorem backF_id (ca cb ta tb:List Int) (y:Pr):(backF ca cb ta tb y).1=y.1 := by
  unfold backF
  rcases later_or (mv ta (mv ca y)) (mv tb (mv cb y)) with e | e <;> rw [e,mv_1,mv_1]
theorem backF_seq (ca cb ta tb:List Int) (y:Pr):(backF ca cb ta tb y).2.1=y.2.1 := by
  unfold backF
  rcases later_or (mv ta (mv ca y)) (mv tb (mv cb y)) with e | e <;> rw [e,mv_2,mv_2]
def backG (ca cb ta tb:List Int) (y:Cn):Cn := (y.1,minI (atS ta (atS ca y.2)) (atS tb (atS cb y.2)))
theorem kid_tab {cs:List Cn} (to:List Int) (h:okC cs=true):okC (cs.map (mvC to))=true := map_okC _ (fun _=>rfl) h
theorem back_ok {lo hi key:ByteArray} {e z:Int} {l:List Rd} {ps:List Pr} {cs:List Cn} (hg:Good (lo,hi,e,z,l,ps,cs,())) (he:e+2<18446744073709551616) (hc:cutE lo hi key=0) (A B:St16)
    (hA:A=fz (kid (lo,hi,e,z,l,ps,cs,()) lo key) 1) (hB:B=fz (kid (lo,hi,e,z,l,ps,cs,()) key hi) 1) (J:List Rd) (ta tb:List Int)
    (hj:J=(jnE (ren 0 (l.filter (hasR lo key))) (ren 0 (l.filter (hasR key hi)))).1) (hta:ta=(jnE (ren 0 (l.filter (hasR lo key))) (ren 0 (l.filter (hasR key hi)))).2.1) (htb:tb=(jnE (ren 0 (l.filter (hasR lo key))) (ren 0 (l.filter (hasR key hi)))).2.2.1) :
    mrgE A B=0∧mrgS A B=(lo,hi,e+2,0,J,ps.map (backF (cnts (hasR lo key) 0 l) (cnts (hasR key hi) 0 l) ta tb),cs.map (backG (cnts (hasR lo key) 0 l) (cnts (hasR key hi) 0 l) ta tb),()) := by
  obtain ⟨h1,h2,h3,h4,h5,h6,h7,h8⟩ := (chk_iff lo hi e z l ps cs).1 hg.chk
  have e0:0≤e := hg.e0
  have hne:(lo,hi,e,z,l,ps,cs,()).2.2.1 ≠ (18446744073709551615:Int) := by show e ≠ _; omega
  obtain ⟨r1,r2⟩ := cut_ranges hc
  have gA := fz_good (kid_good hg hne r1) 1
  have gB := fz_good (kid_good hg hne r2) 1
  have hcc:∀ x ∈ l,hasR key hi x = !hasR lo key x := fun x hx=>by
    obtain ⟨i,hi',rfl⟩ := List.getElem_of_mem hx
    obtain ⟨y,_,q,_⟩ := h6 i hi'
    exact cut_side hc q
  have bk := bk_is h3 (recs_ris h6) hcc
  rw [kid_is hg.chk r1] at hA gA
  rw [kid_is hg.chk r2] at hB gB
  have w1:IntKind.wrap .u64 (e+1)=e+1 := u64_wrap (by omega) (by omega)
  have w2:IntKind.wrap .u64 (e+1+1)=e+2 := (u64_wrap (by omega) (by omega)).trans (by omega)
  dsimp only [fz] at hA hB gA gB
  rw [w1] at hA hB gA gB
  have jE:jnR A B=jnE (ren 0 (l.filter (hasR lo key))) (ren 0 (l.filter (hasR key hi))) := by rw [hA,hB]; rfl
  have bkJ := bk.jn
  have bl := bk.len
  have br := bk.ris
  have bm := bk.mem
  have hlen := (logOk_parts h3).1
  rw [← hj,← hta,← htb] at bkJ
  rw [← hj] at bl
  rw [← hj] at br
  have t4 := (tab_iff ps).1 h4
  have tk := (okC_iff cs).1 h5
  have hpr:prR A B=(ps.map (backF (cnts (hasR lo key) 0 l) (cnts (hasR key hi) 0 l) ta tb),0) := by
    unfold prR
    rw [jE,← hta,← htb,hA,hB]
    unfold bothP
    dsimp only
    rw [if_neg (by rw [mv_tab _ h4]; decide),if_neg (by rw [mv_tab _ h4]; decide),List.map_map,List.map_map,merge_same _ _ ps fun y _=>by simp only [Function.comp,mv_1]]
    rw [if_neg (by rw [List.length_map]; omega)]
    rfl
  have hcn:cnR A B=(cs.map (backG (cnts (hasR lo key) 0 l) (cnts (hasR key hi) 0 l) ta tb),0) := by
    unfold cnR
    rw [jE,← hta,← htb,hA,hB]
    unfold bothS
    dsimp only
    rw [kid_tab _ h5,kid_tab _ h5,decide_eq_true (show 0<ta.length by rw [bkJ.la]; omega),decide_eq_true (show 0<tb.length by rw [bkJ.lb]; omega)]
    simp only [Bool.not_true,cond_false,cond_true]
    rw [foldB_map tk.1 (mvC (cnts (hasR lo key) 0 l)) (mvC (cnts (hasR key hi) 0 l)) (fun _=>rfl) (fun _=>rfl)]
    unfold finB
    rw [decide_eq_false (by rw [List.length_map]; omega)]
    rfl
  have hM:mrgS A B=(lo,hi,e+2,0,J,ps.map (backF (cnts (hasR lo key) 0 l) (cnts (hasR key hi) 0 l) ta tb),cs.map (backG (cnts (hasR lo key) 0 l) (cnts (hasR key hi) 0 l) ta tb),()) := by
    unfold mrgS mkM
    rw [hpr,hcn,jE,← hj,hA,hB]
    dsimp only
    rw [if_neg (by omega),w2]
  have hF:∀ y ∈ ps,Thr l J y (backF (cnts (hasR lo key) 0 l) (cnts (hasR key hi) 0 l) ta tb y) := fun y hy=>thr_is bkJ.sa bkJ.sb hcc (hg.bnd.2.2.2 y hy) (h7 y hy) (t4.1 y hy)
  have hchk:chkS (mrgS A B)=true := by
    rw [hM]
    refine (chk_iff ..).2 ⟨h1,by omega,logOk_of (by omega) fun i hi' => ?_,(tab_iff _).2 ⟨fun x hx => ?_,?_,by rw [List.length_map]; exact t4.2.2⟩,map_okC _ (fun _=>rfl) h5,fun i hi' => ?_,fun x hx => ?_,fun x hx => ?_⟩
    · obtain ⟨q1,-⟩ := bkJ.at_ i hi'
      subst hj
      obtain ⟨w,q2,q3⟩ := bm i hi'
      obtain ⟨k,hk,rfl⟩ := List.getElem_of_mem q2
      have := (logOk_parts h3).2 k hk
      exact ⟨q1,by rw [q3]; exact this.2.1,by rw [q3]; exact this.2.2⟩
    · obtain ⟨y,hy,rfl⟩ := List.mem_map.1 hx
      exact (hF y hy).ok
    · have := t4.2.1
      unfold SP at this ⊢
      rw [List.pairwise_map]
      exact this.imp fun q=>by rw [backF_id,backF_id]; exact q
    · have hi'' := hi'
      subst hj
      obtain ⟨w,q2,q3⟩ := bm i hi''
      obtain ⟨k,hk,rfl⟩ := List.getElem_of_mem q2
      obtain ⟨y,y1,y2,y3,y4⟩ := h6 k hk
      refine ⟨_,by rw [find_map (backF_id _ _ _ _),q3,y1]; rfl,by rw [q3]; exact y2,?_,by rw [q3,backF_seq]; exact y4⟩
      rw [q3]
      refine last_lt _ _ _ _ (fun v hv ev => ?_) (seq_pos h6 q2)
      obtain ⟨a,ha,rfl⟩ := List.getElem_of_mem hv
      rw [List.length_take] at ha
      rw [List.getElem_take] at ev ⊢
      have := List.pairwise_iff_getElem.1 br a i (by omega) hi'' (by omega) (by rw [q3]; exact ev.symm)
      rw [q3] at this
      exact this
    · obtain ⟨y,hy,rfl⟩ := List.mem_map.1 hx
      exact (hF y hy).pro
    · obtain ⟨y,hy,rfl⟩ := List.mem_map.1 hx
      show minI _ _≤_
      rcases min_cases (atS ta (atS (cnts (hasR lo key) 0 l) y.2)) (atS tb (atS (cnts (hasR key hi) 0 l) y.2)) with q | q <;> rw [q]
      · exact (at_nn bkJ _).1.2
      · exact (at_nn bkJ _).2.2
  refine ⟨?_,hM⟩
  have pA:badS A=false := by
    unfold badS
    rw [hA,gA.chk]
    simp only [Bool.not_true,Bool.false_or]
    exact beq_eq_false_iff_ne.2 (by omega)
  have pB:badS B=false := by
    unfold badS
    rw [hB,gB.chk]
    simp only [Bool.not_true,Bool.false_or]
    exact beq_eq_false_iff_ne.2 (by omega)
  have lA:liveS A=false := by rw [hA]; rfl
  have lB:liveS B=false := by rw [hB]; rfl
  have hp2:partS2 A B=0 := by unfold partS2; rw [pA,pB,lA,lB]; rfl
  have hrg:rgE A.1 A.2.1 B.1 B.2.1=0 := by
    rw [hA,hB]
    unfold rgE
    dsimp only
    rw [r1,r2,self_beq,eq_ky,decide_eq_false (cut_no hc)]
    rfl
  unfold mrgE
  rw [hp2,hrg,hchk,hpr,hcn,jE,bk.err]
  rfl
end Go.Proofs.Ytmjmhobeiamgiaa
