/-
  Layer 17: LineageBack.
-/
import Derived.Test.YtmjmhobeiamgiaaLnZ
namespace Go.Proofs.Ytmjmhobeiamgiaa
open Go.RowKit
variable {fu:Nat}
theorem slc_one {α:Type} (j:List α):∀ (p:Nat) (hp:p<j.length),slice' j p (some (p+1))=[j[p]]
  | 0,hp=>by
    show j.take 1=_
    rw [List.take_succ_eq_append_getElem hp]; rfl
  | p+1,hp=>by
    show (j.drop (p+1)).take (p+1+1-(p+1))=_
    rw [Nat.add_sub_cancel_left,List.drop_eq_getElem_cons hp]; rfl
theorem emb_one {x:Rd} {j:List Rd} {o p:Nat} (hp:p<j.length) (ho:o≤p) (e:j[p].2=x.2):Emb [x] (j.drop o) := by
  unfold Emb
  simp only [List.map_cons,List.map_nil]
  rw [List.singleton_sublist,← e]
  refine List.mem_map_of_mem ?_
  rw [List.mem_drop_iff_getElem]
  exact ⟨p-o,by omega,by congr 1; omega⟩
theorem cnt_mono (h:Rd→Bool) (l:List Rd) {a b:Nat} (hab:a≤b):(l.take a).countP h≤(l.take b).countP h := by
  have:(l.take a).Sublist (l.take b) := by
    have:l.take a=(l.take b).take a := by rw [List.take_take,Nat.min_eq_left hab]
    rw [this]
    exact List.take_sublist _ _
  exact this.countP_le
theorem back_at {l j:List Rd} {h:Rd→Bool} {to:List Int} (hs:Sd 0 j (ren 0 (l.filter h)) to) {q:Nat} (hq:q<l.length) (hx:h l[q]=true) {c:Int} (hc:c.toNat≤q) :
    ∃ p:Nat,∃ hp:p<j.length,j[p].2=l[q].2∧atS to (atS (cnts h 0 l) c)≤(p:Int) := by
  obtain ⟨hk,hf⟩ := filter_at h l q hq hx
  have hk':(l.take q).countP h<(ren 0 (l.filter h)).length := by rw [ren_len]; exact hk
  obtain ⟨-,p,hp,e1,e2⟩ := sd_stands hs hk'
  refine ⟨p,hp,by rw [e2,ren_at 0 _ _ hk,hf],?_⟩
  rw [at_cnts]
  unfold atS
  rw [Int.toNat_natCast,hs.1,Nat.add_sub_cancel]
  have m1 := cnt_mono h l (show min c.toNat l.length≤q by omega)
  have m2 := sd_mono hs ((l.take q).countP h) (min ((l.take (min c.toNat l.length)).countP h) (ren 0 (l.filter h)).length) (by omega) (Nat.le_of_lt hk')
  rw [e1] at m2
  exact m2
def keyR (k:ByteArray) (x:Rd):Bool := x.2.1.toList==k.toList
theorem keyR_plc (k:ByteArray):Plc (keyR k) := fun _ _=>rfl
theorem keyR_iff (k:ByteArray) (x:Rd):keyR k x=true ↔ x.2.1=k := by
  unfold keyR
  rw [eq_ky]
  simp
theorem back_key {l:List Rd} {lo hi key k:ByteArray} (bk:Bk l (hasR lo key) (hasR key hi)) (hc:∀ x ∈ l,hasR key hi x = !hasR lo key x) :
    (((jnE (ren 0 (l.filter (hasR lo key))) (ren 0 (l.filter (hasR key hi)))).1).filter (keyR k)).map (·.2)=(l.filter (keyR k)).map (·.2) := by
  have herr := bk.err
  rw [bk.eq] at herr ⊢
  have rf:∀ (h:Rd→Bool),((ren 0 (l.filter h)).filter (keyR k)).map (·.2)=((l.filter h).filter (keyR k)).map (·.2) := fun h=>by
    rw [← ren_snd 0 ((ren 0 (l.filter h)).filter (keyR k)),ren_filter (keyR_plc k),ren_snd]
  have hsame:∀ x y:Rd,keyR k x=true→keyR k y=true→hasR lo key x=hasR lo key y := fun x y hx hy=>by
    unfold hasR
    rw [(keyR_iff k x).1 hx,(keyR_iff k y).1 hy]
  have none_of:∀ (h:Rd→Bool),(∀ x ∈ l,keyR k x=true→h x=false) → ∀ y ∈ ren 0 (l.filter h),keyR k y=false := fun h hn y hy=>by
    obtain ⟨w,w1,w2,w3⟩ := ren_mem hy
    cases hb:keyR k y with
    | false=>rfl
    | true =>
      have:keyR k w=true := by
        have e := (keyR_iff k y).1 hb
        rw [← w3] at e
        exact (keyR_iff k w).2 e
      rw [hn w w1 this] at w2
      cases w2
  have all_of:∀ (h:Rd→Bool),(∀ x ∈ l,keyR k x=true→h x=true)→(l.filter h).filter (keyR k)=l.filter (keyR k) := fun h hn=>by
    rw [List.filter_filter]
    refine List.filter_congr fun x hx => ?_
    cases hb:keyR k x with
    | true=>rw [hn x hx hb]; rfl
    | false=>rfl
  by_cases hex:∃ x ∈ l,keyR k x=true∧hasR lo key x=true
  · obtain ⟨x,hx,k1,k2⟩ := hex
    have a1:∀ y ∈ l,keyR k y=true→hasR lo key y=true := fun y _ ky' => by rw [hsame y x ky' k1]; exact k2
    have a2:∀ y ∈ l,keyR k y=true→hasR key hi y=false := fun y hy ky' => by rw [hc y hy,a1 y hy ky']; rfl
    obtain ⟨rest,e1,e2⟩ := jn_left_only (keyR_plc k) _ [] [] [] _ _ rfl herr (none_of _ a2)
    rw [e1,List.nil_append,e2,rf,all_of _ a1]
  · have a1:∀ y ∈ l,keyR k y=true→hasR lo key y=false := fun y hy ky' => by
      cases hb:hasR lo key y with
      | false=>rfl
      | true=>exact absurd ⟨y,hy,ky',hb⟩ hex
    have a2:∀ y ∈ l,keyR k y=true→hasR key hi y=true := fun y hy ky' => by rw [hc y hy,a1 y hy ky']; rfl
    obtain ⟨rest,e1,e2⟩ := jn_right_only (keyR_plc k) _ [] [] [] _ _ rfl herr (none_of _ a1)
    rw [e1,List.nil_append,e2,rf,all_of _ a2]
theorem filter_snoc (q:Rd→Bool) {l:List Rd} {i:Nat} (hi:i<l.length):(l.take (i+1)).filter q=(l.take i).filter q ++ (if q l[i]=true then [l[i]] else []) := by
  rw [List.take_succ_eq_append_getElem hi,List.filter_append]
  congr 1
  simp only [List.filter_cons,List.filter_nil]
theorem p7_is (p:St16) (key:ByteArray) (hp:bndS p) (lp:p.2.2.2.2.1.length≤1048576) (e0:0≤p.2.2.1) (e1:p.2.2.1<18446744073709551616) (hf:8388608<fu):p7 fu (p,key,())=some ((),true) := by
  have h9 := p9_is (fu := fu) (by omega)
  have h10 := p10_is (fu := fu) p key hp lp (by omega)
  unfold splitS at h10
  cases hz:(partS p != 0) with
  | true =>
    rw [hz] at h10
    obtain ⟨lo,hi,e,z,l,ps,cs,⟨⟩⟩ := p
    simp only [cond_true,noSt] at h10
    unfold p7
    simp only [h9,h10,bind_val,hz,cond_true]
  | false =>
    rw [hz] at h10
    simp only [cond_false] at h10
    cases hc:(cutE p.1 p.2.1 key != 0) with
    | true =>
      rw [hc] at h10
      obtain ⟨lo,hi,e,z,l,ps,cs,⟨⟩⟩ := p
      dsimp only at hc
      simp only [cond_true,noSt] at h10
      unfold p7
      simp only [h9,h10,bind_val,hc,cond_true]
    | false =>
      rw [hc] at h10
      simp only [cond_false] at h10
      obtain ⟨hg,hne,-⟩ := part_good hp e0 e1 (ne_zero hz)
      have hc0 := ne_zero hc
      obtain ⟨lo,hi,e,z,l,ps,cs,⟨⟩⟩ := p
      dsimp only at hc0 e0 e1 hne lp
      obtain ⟨h1,h2,h3,h4,h5,h6,h7,h8⟩ := (chk_iff lo hi e z l ps cs).1 hg.chk
      by_cases hw:IntKind.wrap .u64 (e+2)<2
      · dsimp only [kid] at h10
        unfold p7
        simp only [h9,h10,bind_val,show ((0:Int) != 0)=false from rfl,cond_false,decide_eq_true hw,cond_true]
      · have he:e+2<18446744073709551616 := by
          refine Decidable.byContradiction fun hn=>hw ?_
          have hm:e=18446744073709551614 := by omega
          rw [hm]
          decide
        obtain ⟨r1,r2⟩ := cut_ranges hc0
        have gA := fz_good (kid_good hg hne r1) 1
        have gB := fz_good (kid_good hg hne r2) 1
        have hcc:∀ x ∈ l,hasR key hi x = !hasR lo key x := fun x hx=>by
          obtain ⟨i,hi',rfl⟩ := List.getElem_of_mem hx
          obtain ⟨y,_,q,_⟩ := h6 i hi'
          exact cut_side hc0 q
        have bk := bk_is h3 (recs_ris h6) hcc
        obtain ⟨m1,m2⟩ := back_ok hg he hc0 _ _ rfl rfl _ _ _ rfl rfl rfl
        have vals:∀ {s:St16},chkS s=true → ∀ x ∈ s.2.2.2.2.1,x.2.2.1.length≤1048576 := fun {s} hs x hx=>by
          obtain ⟨_,_,_,_,ll,_,_,⟨⟩⟩ := s
          obtain ⟨-,-,q,-⟩ := (chk_iff ..).1 hs
          obtain ⟨i,hi',rfl⟩ := List.getElem_of_mem hx
          exact Nat.le_trans ((logOk_parts q).2 i hi').2.2 (by decide)
        have lA := (ch_len gA.chk).1
        have lB := (ch_len gB.chk).1
        have h13 := p13_is (fu := fu) _ _ gA.bnd gB.bnd (by omega) (by omega) (vals gA.chk) (vals gB.chk) hf
        unfold mergeS at h13
        rw [m1,m2] at h13
        have bkey := fun k=>back_key (k := k) bk hcc
        have jn := bk.jn
        have jl := bk.len
        have jr := at_nn jn
        clear bk m1 m2 gA gB lA lB vals
        generalize hJ:(jnE (ren 0 (l.filter (hasR lo key))) (ren 0 (l.filter (hasR key hi)))).1=J at *
        generalize hta:(jnE (ren 0 (l.filter (hasR lo key))) (ren 0 (l.filter (hasR key hi)))).2.1=ta at *
        generalize htb:(jnE (ren 0 (l.filter (hasR lo key))) (ren 0 (l.filter (hasR key hi)))).2.2.1=tb at *
        have t4 := (tab_iff ps).1 h4
        have hF:∀ y ∈ ps,Thr l J y (backF (cnts (hasR lo key) 0 l) (cnts (hasR key hi) 0 l) ta tb y) := fun y hy=>thr_is jn.sa jn.sb hcc (hg.bnd.2.2.2 y hy) (h7 y hy) (t4.1 y hy)
        have hG:∀ y:Cn,0≤(backG (cnts (hasR lo key) 0 l) (cnts (hasR key hi) 0 l) ta tb y).2∧(backG (cnts (hasR lo key) 0 l) (cnts (hasR key hi) 0 l) ta tb y).2≤(J.length:Int) := fun y=>by
          show 0≤minI _ _∧minI _ _≤_
          rcases min_cases (atS ta (atS (cnts (hasR lo key) 0 l) y.2)) (atS tb (atS (cnts (hasR key hi) 0 l) y.2)) with q | q <;> rw [q]
          · exact (jr _).1
          · exact (jr _).2
        have hread:∀ (y:Cn) (q:Nat) (hq:q<l.length),y.2.toNat≤q → ∃ p:Nat,∃ hp:p<J.length,J[p].2=l[q].2∧(backG (cnts (hasR lo key) 0 l) (cnts (hasR key hi) 0 l) ta tb y).2≤(p:Int) := fun y q hq hy=>by
          have hx := hcc _ (List.getElem_mem hq)
          have mn:∀ a b:Int,minI a b≤a∧minI a b≤b := fun a b=>by unfold minI; split <;> omega
          cases hb:hasR lo key l[q] with
          | true =>
            obtain ⟨p,hp',q1,q2⟩ := back_at jn.sa hq hb hy
            exact ⟨p,hp',q1,Int.le_trans (mn _ _).1 q2⟩
          | false =>
            rw [hb] at hx
            obtain ⟨p,hp',q1,q2⟩ := back_at jn.sb hq hx hy
            exact ⟨p,hp',q1,Int.le_trans (mn _ _).2 q2⟩
        have hbid := backF_id (cnts (hasR lo key) 0 l) (cnts (hasR key hi) 0 l) ta tb
        have hbseq := backF_seq (cnts (hasR lo key) 0 l) (cnts (hasR key hi) 0 l) ta tb
        have hcs:∀ y ∈ cs,0≤y.2 := fun y hy=>(hg.bnd.2.2.1.2 y hy).2.1
        have hlen := (logOk_parts h3).1
        have hcl := (okC_rises h5).2
        generalize hFF:backF (cnts (hasR lo key) 0 l) (cnts (hasR key hi) 0 l) ta tb=FF at *
        have hGn:∀ y:Cn,(backG (cnts (hasR lo key) 0 l) (cnts (hasR key hi) 0 l) ta tb y).1=y.1 := fun _=>rfl
        generalize hGG:backG (cnts (hasR lo key) 0 l) (cnts (hasR key hi) 0 l) ta tb=GG at *
        clear jn jr hJ hta htb hFF hGG
        dsimp only [kid,fz] at h10 h13
        unfold p7
        simp only [h9,h10,bind_val,show ((0:Int) != 0)=false from rfl,cond_false,decide_eq_false hw,decide_true,cond_true,h13,self_beq,Bool.and_self,Bool.not_true,jl,List.length_map,bne_self_eq_false]
        -- the producers
        refine loop_val (I := fun s => ∃ i:Nat,s=(((i:Int),()),())∧i≤ps.length) (m := fun s=>ps.length-s.1.1.toNat) ⟨0,rfl,Nat.zero_le _⟩ (by have := t4.2.2; simp; omega) ?_
        rintro s ⟨i,rfl,hi'⟩
        by_cases hlt:i<ps.length
        · have c1:decide ((i:Int)<(ps.length:Int))=true := decide_eq_true (by omega)
          have c2:decide ((0:Int)≤(i:Int)∧(i:Int)<(ps.length:Int))=true := decide_eq_true ⟨by omega,by omega⟩
          have c3:decide (i<ps.length)=true := decide_eq_true hlt
          have g1:∀ d,List.getD ps i d=ps[i] := fun d=>getD_lt hlt
          have g2:∀ d,List.getD (ps.map FF) i d=FF ps[i] := fun d=>by rw [getD_lt (by rw [List.length_map]; exact hlt),List.getElem_map]
          have hT := hF _ (List.getElem_mem hlt)
          refine ⟨.inl ((((i+1:Nat):Int),()),()),?_,⟨i+1,rfl,hlt⟩,by simp only [Int.toNat_natCast]; omega⟩
          have := t4.2.2
          simp only [c1,c2,c3,cond_true,Int.toNat_natCast,g1,g2,hbid,hbseq,hT.here,bne_self_eq_false,cond_false,beq_self_eq_true,Bool.not_true,i64_succ hlt (by omega)]
        · have c1:decide ((i:Int)<(ps.length:Int))=false := decide_eq_false (by omega)
          simp only [c1,cond_false]
          refine ⟨.inr ((),true),inrO_of ?_,rfl⟩
          -- the consumers
          refine loop_val (I := fun s => ∃ i:Nat,s=(((i:Int),()),())∧i≤cs.length) (m := fun s=>cs.length-s.1.1.toNat) ⟨0,rfl,Nat.zero_le _⟩ (by simp; omega) ?_
          rintro s ⟨i,rfl,hi'⟩
          by_cases hlt:i<cs.length
          · have c1:decide ((i:Int)<(cs.length:Int))=true := decide_eq_true (by omega)
            have c2:decide ((0:Int)≤(i:Int)∧(i:Int)<(cs.length:Int))=true := decide_eq_true ⟨by omega,by omega⟩
            have c3:decide (i<cs.length)=true := decide_eq_true hlt
            have g1:∀ d,List.getD cs i d=cs[i] := fun d=>getD_lt hlt
            have g2:∀ d,List.getD (cs.map GG) i d=GG cs[i] := fun d=>by rw [getD_lt (by rw [List.length_map]; exact hlt),List.getElem_map]
            obtain ⟨q1,q2⟩ := hG cs[i]
            have wl:IntKind.wrap .u64 (l.length:Int)=(l.length:Int) := u64_wrap (by omega) (by omega)
            have wo:IntKind.wrap .i64 (GG cs[i]).2=(GG cs[i]).2 := i64_wrap (by omega) (by omega)
            have k0 := hcs _ (List.getElem_mem hlt)
            have k1 := h8 _ (List.getElem_mem hlt)
            have wc:IntKind.wrap .i64 cs[i].2=cs[i].2 := i64_wrap (by omega) (by omega)
            refine ⟨.inl ((((i+1:Nat):Int),()),()),?_,⟨i+1,rfl,hlt⟩,by simp only [Int.toNat_natCast]; omega⟩
            simp only [c1,c2,c3,cond_true,Int.toNat_natCast,g1,g2,hGn,beq_self_eq_true,Bool.not_true,cond_false,wl,wo,wc,decide_eq_false (show ¬ (GG cs[i]).2>(l.length:Int) by omega),decide_eq_true q1,decide_eq_true (show (GG cs[i]).2.toNat≤l.length∧0+l.length≤l.length from ⟨by omega,by omega⟩),i64_succ hlt (by omega)]
            refine loop_val (I := fun s => ∃ q:Nat,s=(((q:Int),()),())∧cs[i].2.toNat≤q∧q≤l.length) (m := fun s=>l.length-s.1.1.toNat) ⟨cs[i].2.toNat,by rw [Int.toNat_of_nonneg k0],Nat.le_refl _,by omega⟩ (by dsimp only; omega) ?_
            rintro s ⟨q,rfl,u1,u2⟩
            by_cases hq:q<l.length
            · have d1:decide ((q:Int)<(l.length:Int))=true := decide_eq_true (by omega)
              have ws:IntKind.wrap .i64 ((q:Int)+1)=((q+1:Nat):Int) := i64_succ hq (by omega)
              obtain ⟨pp,hpp,e2,e3⟩ := hread cs[i] q hq u1
              have h17 := p17_is (fu := fu) [l[q]] (J.drop (GG cs[i]).2.toNat) (by simp) (by rw [List.length_drop]; omega) (emb_one hpp (by omega) e2) hf
              refine ⟨.inl ((((q+1:Nat):Int),()),()),?_,⟨q+1,rfl,by omega,hq⟩,by simp only [Int.toNat_natCast]; omega⟩
              have hsub:sub' J (GG cs[i]).2.toNat (l.length-(GG cs[i]).2.toNat)=J.drop (GG cs[i]).2.toNat := by
                rw [sub'_eq]
                exact List.take_of_length_le (by rw [List.length_drop]; omega)
              simp only [d1,cond_true,ws,Int.toNat_natCast,decide_eq_true (show (0:Int)≤(q:Int) by omega),decide_eq_true (show (0:Int)≤((q+1:Nat):Int) by omega),decide_eq_true (show q≤q+1∧q+1≤l.length from ⟨by omega,hq⟩),
                decide_eq_true (show (GG cs[i]).2.toNat+(l.length-(GG cs[i]).2.toNat)≤l.length by omega),slc_one l q hq,hsub,h17,bind_val,Bool.not_true,cond_false]
            · have d1:decide ((q:Int)<(l.length:Int))=false := decide_eq_false (by omega)
              exact ⟨_,by simp only [d1,cond_false]; rfl,rfl⟩
          · have c1:decide ((i:Int)<(cs.length:Int))=false := decide_eq_false (by omega)
            simp only [c1,cond_false]
            refine ⟨.inr ((),true),inrO_of ?_,rfl⟩
            -- the keys
            refine loop_val (I := fun s => ∃ i:Nat,s=(((i:Int),()),())∧i≤l.length) (m := fun s=>l.length-s.1.1.toNat) ⟨0,rfl,Nat.zero_le _⟩ (by simp; omega) ?_
            rintro s ⟨i,rfl,hi'⟩
            by_cases hlt:i<l.length
            · have c1:decide ((i:Int)<(l.length:Int))=true := decide_eq_true (by omega)
              have c2:decide ((0:Int)≤(i:Int)∧(i:Int)<(l.length:Int))=true := decide_eq_true ⟨by omega,by omega⟩
              have c3:decide (i<l.length)=true := decide_eq_true hlt
              have g1:∀ d,List.getD l i d=l[i] := fun d=>getD_lt hlt
              have wi:IntKind.wrap .i64 ((i:Int)+1)=((i+1:Nat):Int) := i64_succ hlt (by omega)
              refine ⟨.inl ((((i+1:Nat):Int),()),()),?_,⟨i+1,rfl,hlt⟩,by simp only [Int.toNat_natCast]; omega⟩
              simp only [c1,cond_true]
              refine loop_val (I := fun s => ∃ q:Nat,s=(((l.take q).filter (keyR l[i].2.1),(J.take q).filter (keyR l[i].2.1),(q:Int),()),())∧q≤l.length) (m := fun s=>l.length-s.1.2.2.1.toNat) ⟨0,rfl,Nat.zero_le _⟩ (by simp; omega) ?_
              rintro s ⟨q,rfl,u1⟩
              by_cases hq:q<l.length
              · have d1:decide ((q:Int)<(l.length:Int))=true := decide_eq_true (by omega)
                have d2:decide ((0:Int)≤(q:Int)∧(q:Int)<(l.length:Int))=true := decide_eq_true ⟨by omega,by omega⟩
                have d3:decide (q<l.length)=true := decide_eq_true hq
                have hqJ:q<J.length := by omega
                have f1:∀ d,List.getD l q d=l[q] := fun d=>getD_lt hq
                have f2:∀ d,List.getD J q d=J[q] := fun d=>getD_lt hqJ
                have ws:IntKind.wrap .i64 ((q:Int)+1)=((q+1:Nat):Int) := i64_succ hq (by omega)
                have n1:((l.take q).filter (keyR l[i].2.1)).length≤4096 := Nat.le_trans (List.length_filter_le _ _) (by rw [List.length_take]; omega)
                have n2:((J.take q).filter (keyR l[i].2.1)).length≤4096 := Nat.le_trans (List.length_filter_le _ _) (by rw [List.length_take]; omega)
                have fit:∀ {m:List Rd} {x:Rd},m.length≤4096→decide (m.length+[x].length≤maxLen∧(m.length+[x].length) * 64≤140737488355328)=true := fun {m x} hm=>decide_eq_true ⟨by unfold maxLen; simp; omega,by simp; omega⟩
                refine ⟨.inl (((l.take (q+1)).filter (keyR l[i].2.1),(J.take (q+1)).filter (keyR l[i].2.1),((q+1:Nat):Int),()),()),?_,⟨q+1,rfl,hq⟩,by simp only [Int.toNat_natCast]; omega⟩
                rw [filter_snoc _ hq,filter_snoc _ hqJ]
                simp only [d1,d2,d3,c2,c3,jl,cond_true,Int.toNat_natCast,g1,f1,f2,decide_true,ws,fit n1,fit n2]
                have k1:(l[q].2.1.toList==l[i].2.1.toList)=keyR l[i].2.1 l[q] := rfl
                have k2:(J[q].2.1.toList==l[i].2.1.toList)=keyR l[i].2.1 J[q] := rfl
                rw [k1,k2]
                cases keyR l[i].2.1 l[q] with
                | true =>
                  simp only [cond_true,if_true,orK_inl]
                  cases keyR l[i].2.1 J[q] with
                  | true=>simp only [cond_true,if_true]
                  | false=>simp only [cond_false,Bool.false_eq_true,if_false,List.append_nil]
                | false =>
                  simp only [cond_false,Bool.false_eq_true,if_false,List.append_nil,orK_inl]
                  cases keyR l[i].2.1 J[q] with
                  | true=>simp only [cond_true,if_true]
                  | false=>simp only [cond_false,Bool.false_eq_true,if_false,List.append_nil]
              · have hql:q=l.length := by omega
                subst hql
                have d1:decide ((l.length:Int)<(l.length:Int))=false := decide_eq_false (by omega)
                have tJ:J.take l.length=J := List.take_of_length_le (by omega)
                rw [List.take_length,tJ]
                have hk := bkey l[i].2.1
                have hl2:(J.filter (keyR l[i].2.1)).length=(l.filter (keyR l[i].2.1)).length := by
                  have := congrArg List.length hk
                  simpa using this
                have n1:(l.filter (keyR l[i].2.1)).length≤l.length := List.length_filter_le _ _
                have h17 := p17_is (fu := fu) (l.filter (keyR l[i].2.1)) (J.filter (keyR l[i].2.1)) (by omega) (by omega) (by unfold Emb; rw [hk]; exact List.Sublist.refl _) hf
                refine ⟨.inr (.inl ((((i+1:Nat):Int),()),())),?_,rfl⟩
                simp only [d1,cond_false,decide_true,cond_true,h17,bind_val,Bool.not_true,hl2,bne_self_eq_false,wi,inrO,Option.map_some]
            · have c1:decide ((i:Int)<(l.length:Int))=false := decide_eq_false (by omega)
              exact ⟨_,by simp only [c1,cond_false]; rfl,rfl⟩
end Go.Proofs.Ytmjmhobeiamgiaa
