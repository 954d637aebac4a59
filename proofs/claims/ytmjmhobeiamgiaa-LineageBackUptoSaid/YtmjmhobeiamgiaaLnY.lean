/-
  Layer 17: what was parted is joined again: producers, consumers.
-/
import Derived.Test.YtmjmhobeiamgiaaLnX
namespace Go.Proofs.Ytmjmhobeiamgiaa
open Go.RowKit
variable {fu:Nat}
theorem merge_same (g1 g2:Pr→Pr):∀ ps:List Pr,(∀ y ∈ ps,(g1 y).1=(g2 y).1)→merge laterP (ps.map g1) (ps.map g2)=ps.map fun y=>laterP (g1 y) (g2 y)
  | [],_=>merge_nil _ _
  | y :: ps,h=>by
    have e := h y List.mem_cons_self
    simp only [List.map_cons]
    rw [merge_cons,if_neg (by omega),if_neg (by omega),merge_same g1 g2 ps fun z hz=>h z (List.mem_cons_of_mem _ hz)]
theorem insS_end {e:Cn}:∀ {l:List Cn},(∀ z ∈ l,ky z.1<ky e.1)→insS l e=l ++ [e]
  | [],_=>rfl
  | x :: l,h=>by
    unfold insS
    rw [less_yes (h x List.mem_cons_self),insS_end fun z hz=>h z (List.mem_cons_of_mem _ hz)]
    rfl
theorem insS_same {e:Cn}:∀ {l:List Cn},Rises l→e ∈ l→insS l e=l
  | x :: l,hr,he=>by
    obtain ⟨h1,h2⟩ := List.pairwise_cons.1 hr
    unfold insS
    rcases List.mem_cons.1 he with rfl | he
    · rw [less_not (lt_irr _)]
      simp only [cond_false,List.filter_cons]
      have:isB e e=false := by
        cases hb:isB e e with
        | false=>rfl
        | true=>exact absurd rfl ((isB_iff e e).1 hb)
      rw [this,filter_all fun y hy=>(ky_ne (h1 y hy)).symm]
      rfl
    · rw [less_yes (h1 e he),insS_same h2 he]
      rfl
theorem read_at:∀ {l:List Cn},Rises l → ∀ {x:Cn},x ∈ l→readC l x.1=(x.2,true)
  | z :: l,hr,x,hx=>by
    obtain ⟨h1,h2⟩ := List.pairwise_cons.1 hr
    unfold readC
    rw [List.find?_cons]
    rcases List.mem_cons.1 hx with rfl | hx
    · rw [beq_self_eq_true]; rfl
    · have:(z.1.toList==x.1.toList)=false := by rw [eq_ky]; exact decide_eq_false (ky_ne (h1 x hx))
      rw [this]
      exact read_at h2 hx
section
variable (V:Cn→Int)
theorem fold_once:∀ (m acc:List Cn),Rises m→(∀ z ∈ acc,∀ y ∈ m,ky z.1<ky y.1)→m.foldl (fun l y=>insS l (y.1,V y)) acc=acc ++ m.map fun y=>(y.1,V y)
  | [],acc,_,_=>by simp
  | y :: m,acc,hr,h=>by
    obtain ⟨h1,h2⟩ := List.pairwise_cons.1 hr
    rw [List.foldl_cons,insS_end (e := (y.1,V y)) fun z hz=>h z hz y List.mem_cons_self,fold_once m _ h2 fun z hz w hw => ?_]
    · simp
    · rcases List.mem_append.1 hz with hz | hz
      · exact h z hz w (List.mem_cons_of_mem _ hw)
      · rw [List.mem_singleton.1 hz]; exact h1 w hw
theorem fold_again:∀ (m R:List Cn),Rises R→(∀ y ∈ m,(y.1,V y) ∈ R)→m.foldl (fun l y=>insS l (y.1,V y)) R=R
  | [],_,_,_=>rfl
  | y :: m,R,hr,h=>by
    rw [List.foldl_cons,insS_same hr (h y List.mem_cons_self)]
    exact fold_again m R hr fun z hz=>h z (List.mem_cons_of_mem _ hz)
end
theorem map_rises {cs:List Cn} (g:Cn→Cn) (hg:∀ y,(g y).1=y.1) (h:Rises cs):Rises (cs.map g) := by
  unfold Rises at h ⊢
  rw [List.pairwise_map]
  exact h.imp fun h=>by rw [hg,hg]; exact h
theorem foldB_map {cs:List Cn} (hr:Rises cs) (g1 g2:Cn→Cn) (e1:∀ y,(g1 y).1=y.1) (e2:∀ y,(g2 y).1=y.1) (f h:List Int) :
    foldB (cs.map g1) (cs.map g2) f h=cs.map fun y=>(y.1,minI (atS f (g1 y).2) (atS h (g2 y).2)) := by
  have key:∀ y ∈ cs,minI (atS f (readC (cs.map g1) y.1).1) (atS h (readC (cs.map g2) y.1).1)=minI (atS f (g1 y).2) (atS h (g2 y).2) := fun y hy=>by
    have r1 := read_at (map_rises g1 e1 hr) (List.mem_map_of_mem hy)
    have r2 := read_at (map_rises g2 e2 hr) (List.mem_map_of_mem hy)
    rw [e1] at r1
    rw [e2] at r2
    rw [r1,r2]
  have st1:∀ (m acc:List Cn),(∀ y ∈ m,y ∈ cs)→(m.map g1).foldl (stepB (cs.map g1) (cs.map g2) f h) acc=m.foldl (fun l y=>insS l (y.1,minI (atS f (g1 y).2) (atS h (g2 y).2))) acc := by
    intro m
    induction m with
    | nil=>exact fun _ _=>rfl
    | cons y m ih =>
      intro acc hm
      rw [List.map_cons,List.foldl_cons,List.foldl_cons]
      have:stepB (cs.map g1) (cs.map g2) f h acc (g1 y)=insS acc (y.1,minI (atS f (g1 y).2) (atS h (g2 y).2)) := by
        unfold stepB
        rw [e1,key y (hm y List.mem_cons_self)]
      rw [this]
      exact ih _ fun z hz=>hm z (List.mem_cons_of_mem _ hz)
  have st2:∀ (m acc:List Cn),(∀ y ∈ m,y ∈ cs)→(m.map g2).foldl (stepB (cs.map g1) (cs.map g2) f h) acc=m.foldl (fun l y=>insS l (y.1,minI (atS f (g1 y).2) (atS h (g2 y).2))) acc := by
    intro m
    induction m with
    | nil=>exact fun _ _=>rfl
    | cons y m ih =>
      intro acc hm
      rw [List.map_cons,List.foldl_cons,List.foldl_cons]
      have:stepB (cs.map g1) (cs.map g2) f h acc (g2 y)=insS acc (y.1,minI (atS f (g1 y).2) (atS h (g2 y).2)) := by
        unfold stepB
        rw [e2,key y (hm y List.mem_cons_self)]
      rw [this]
      exact ih _ fun z hz=>hm z (List.mem_cons_of_mem _ hz)
  unfold foldB
  rw [List.foldl_append,st1 cs _ fun _ h=>h,fold_once _ cs [] hr (fun z hz=>absurd hz List.not_mem_nil),List.nil_append,st2 cs _ fun _ h=>h]
  refine fold_again _ cs _ ?_ fun y hy=>List.mem_map.2 ⟨y,hy,rfl⟩
  exact map_rises _ (fun _=>rfl) hr
theorem sd_stands {j l:List Rd} {to:List Int} (h:Sd 0 j l to) {k:Nat} (hk:k<l.length):standsB (k:Int) to=true ∧ ∃ p:Nat,∃ hp:p<j.length,to.getD k 0=(p:Int)∧j[p].2=l[k].2 := by
  obtain ⟨p,hp,e1,e2,e3⟩ := h.2.2 k hk
  refine ⟨?_,p,hp,e1,e3⟩
  unfold standsB
  have e4:((k:Int)+1).toNat=k+1 := by omega
  rw [e4,Int.toNat_natCast,h.1,decide_eq_true (show (k:Int)+1<((l.length+1:Nat):Int) by omega)]
  have e5:to.getD k (dflt (.int .u64))=to.getD k 0 := rfl
  have e6:to.getD (k+1) (dflt (.int .u64))=to.getD (k+1) 0 := rfl
  rw [e5,e6,e1]
  simpa using e2
theorem mv_out {to:List Int} {y:Pr} (h:¬ (y.2.2.1=true∧standsB y.2.2.2 to=true)):mv to y=(y.1,y.2.1,false,0) := if_neg h
structure Thr (l j:List Rd) (y z:Pr):Prop where
  id:z.1=y.1
  seq:z.2.1=y.2.1
  here:z.2.2.1=y.2.2.1
  ok:okP z=true
  off:0≤z.2.2.2
  pro:proOk j z=true
section
variable {l j la lb:List Rd} {h h':Rd→Bool} {ta tb:List Int}
theorem one_side (hs:Sd 0 j (ren 0 (l.filter h)) ta) {y:Pr} (h0:0≤y.2.2.2) (hy:proOk l y=true) (hh:y.2.2.1=true) (hx:∃ hi:y.2.2.2.toNat<l.length,h l[y.2.2.2.toNat]=true) :
    ∃ p:Nat,mv ta (mv (cnts h 0 l) y)=(y.1,y.2.1,true,(p:Int))∧proOk j (y.1,y.2.1,true,(p:Int))=true := by
  obtain ⟨hi,hx⟩ := hx
  obtain ⟨hk,hf⟩ := filter_at h l _ hi hx
  have k1:mv (cnts h 0 l) y=(y.1,y.2.1,true,(((l.take y.2.2.2.toNat).countP h:Nat):Int)) := by
    unfold mv
    rw [if_pos ⟨hh,by rw [stands_is h h0]; exact decide_eq_true ⟨hi,hx⟩⟩,cnts_at h _ 0 l _ (by omega),Nat.zero_add]
  obtain ⟨s1,p,hp,s2,s3⟩ := sd_stands hs (k := (l.take y.2.2.2.toNat).countP h) (by rw [ren_len]; exact hk)
  refine ⟨p,?_,?_⟩
  · rw [k1]
    unfold mv
    dsimp only
    rw [if_pos ⟨rfl,s1⟩,Int.toNat_natCast]
    exact congrArg (fun v=>(y.1,y.2.1,true,v)) s2
  · rw [ren_at 0 _ _ hk,hf] at s3
    unfold proOk at hy ⊢
    rw [hh] at hy
    simp only [Bool.not_true,Bool.false_or,Bool.and_eq_true,decide_eq_true_eq,beq_iff_eq,getD_lt hi] at hy
    dsimp only
    simp only [Bool.not_true,Bool.false_or,Bool.and_eq_true,decide_eq_true_eq,beq_iff_eq,Int.toNat_natCast,getD_lt hp]
    rw [s3]
    exact ⟨by omega,hy.2⟩
theorem thr_is (ha:Sd 0 j (ren 0 (l.filter h)) ta) (hb:Sd 0 j (ren 0 (l.filter h')) tb) (hc:∀ x ∈ l,h' x = !h x) {y:Pr} (h0:0≤y.2.2.2) (hy:proOk l y=true) (ho:okP y=true) :
    Thr l j y (laterP (mv ta (mv (cnts h 0 l) y)) (mv tb (mv (cnts h' 0 l) y))) := by
  have hok:okP (laterP (mv ta (mv (cnts h 0 l) y)) (mv tb (mv (cnts h' 0 l) y)))=true := by
    rcases later_or (mv ta (mv (cnts h 0 l) y)) (mv tb (mv (cnts h' 0 l) y)) with e | e <;> rw [e]
    · exact mv_ok _ (mv_ok _ ho)
    · exact mv_ok _ (mv_ok _ ho)
  by_cases hh:y.2.2.1=true
  · have hi:y.2.2.2.toNat<l.length := by
      unfold proOk at hy
      rw [hh] at hy
      simp only [Bool.not_true,Bool.false_or,Bool.and_eq_true,decide_eq_true_eq] at hy
      omega
    have hcx := hc _ (List.getElem_mem hi)
    cases hx:h l[y.2.2.2.toNat] with
    | true =>
      rw [hx] at hcx
      obtain ⟨p,e1,e2⟩ := one_side ha h0 hy hh ⟨hi,hx⟩
      have n2:mv (cnts h' 0 l) y=(y.1,y.2.1,false,0) := mv_out fun ⟨_,e⟩=>by
        rw [stands_is h' h0] at e
        obtain ⟨_,e⟩ := of_decide_eq_true e
        rw [hcx] at e; cases e
      have n3:mv tb (y.1,y.2.1,false,0)=(y.1,y.2.1,false,0) := mv_out fun ⟨e,_⟩=>by cases e
      have e3:laterP (mv ta (mv (cnts h 0 l) y)) (mv tb (mv (cnts h' 0 l) y))=(y.1,y.2.1,true,(p:Int)) := by
        rw [e1,n2,n3]
        unfold laterP
        dsimp only
        rw [if_neg (by omega),if_neg (fun e=>by cases e.2.1)]
      rw [e3] at hok ⊢
      exact ⟨rfl,rfl,hh.symm,hok,Int.natCast_nonneg _,e2⟩
    | false =>
      rw [hx] at hcx
      obtain ⟨p,e1,e2⟩ := one_side hb h0 hy hh ⟨hi,hcx⟩
      have n2:mv (cnts h 0 l) y=(y.1,y.2.1,false,0) := mv_out fun ⟨_,e⟩=>by
        rw [stands_is h h0] at e
        obtain ⟨_,e⟩ := of_decide_eq_true e
        rw [hx] at e; cases e
      have n3:mv ta (y.1,y.2.1,false,0)=(y.1,y.2.1,false,0) := mv_out fun ⟨e,_⟩=>by cases e
      have e3:laterP (mv ta (mv (cnts h 0 l) y)) (mv tb (mv (cnts h' 0 l) y))=(y.1,y.2.1,true,(p:Int)) := by
        rw [e1,n2,n3]
        unfold laterP
        dsimp only
        rw [if_neg (by omega),if_pos ⟨rfl,rfl,rfl⟩]
      rw [e3] at hok ⊢
      exact ⟨rfl,rfl,hh.symm,hok,Int.natCast_nonneg _,e2⟩
  · have n1:mv (cnts h 0 l) y=(y.1,y.2.1,false,0) := mv_out fun e=>hh e.1
    have n2:mv (cnts h' 0 l) y=(y.1,y.2.1,false,0) := mv_out fun e=>hh e.1
    have n3:mv ta (y.1,y.2.1,false,0)=(y.1,y.2.1,false,0) := mv_out fun ⟨e,_⟩=>by cases e
    have n4:mv tb (y.1,y.2.1,false,0)=(y.1,y.2.1,false,0) := mv_out fun ⟨e,_⟩=>by cases e
    have e3:laterP (mv ta (mv (cnts h 0 l) y)) (mv tb (mv (cnts h' 0 l) y))=(y.1,y.2.1,false,0) := by
      rw [n1,n2,n3,n4]
      rcases later_or (y.1,y.2.1,false,0) (y.1,y.2.1,false,0) with e | e <;> exact e
    rw [e3] at hok ⊢
    exact ⟨rfl,rfl,by simpa using hh,hok,Int.le_refl _,rfl⟩
end
end Go.Proofs.Ytmjmhobeiamgiaa
