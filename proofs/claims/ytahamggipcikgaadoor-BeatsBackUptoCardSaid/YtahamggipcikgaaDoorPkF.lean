/-
  beats.Pack: its entry.
-/
import Derived.Test.YtahamggipcikgaaDoorPkM
import Derived.WalkKit
import Derived.Maps.RangeWalk
namespace Go.Proofs.YtahamggipcikgaaDoor
open Go.RowKit
theorem pkIW:(Tryd.prog.info? pkW).map (fun i=>(i.zero,i.size,i.bytes))=some (some (.agg #[.int .u64 0,.int .i64 0,.int .i64 0,.int .i64 0,.int .u64 0,.int .u64 0,.int .u64 0,.slice none 0 0,.int .u64 0,.bool false,.int .u64 0,.slice none 0 0,.slice none 0 0,.slice none 0 0,.bool false]),15,184) := by kernel_rfl
theorem pkIP:(Tryd.prog.info? pkP).map (fun i=>(i.zero,i.size,i.bytes))=some (some (.agg #[.int .i64 0,.int .i64 0,.int .i64 0,.slice none 0 0]),4,48) := by kernel_rfl
section
variable {w:World} {ops:Array Oper} {rest:List Oper} {o:Oper} {a:Act} {Q:Exit→Act→World→Prop}
theorem pk_entryW (hg:o.guard=none) (m x:Operand) (hop:o.op = .mapEntry pkM m x) (base g:Nat) (cw:Nat→List Value) (F:Int→Int→List Nat) (p q:Int) (hm:a.eval m = .map (some g)) (hx:a.eval x=bxK p q) (h:Grp w base g cw F)
    (hK:∀ (v:Value) (j:Nat) (w1:World),w.grownBy w1 (some g)→w1.heap.size=w.heap.size→w1.ownsRow base pkW 15 v (F p q).length ((F p q).flatMap cw) →
      (∀ (w2:World) (v':Value) (F':Int→Int→List Nat),w1.grownBy w2 v.ownBlock→w2.ownsRow base pkW 15 v' (F' p q).length ((F' p q).flatMap cw)→(v'.ownBlock=v.ownBlock ∨ ∃ q,v'.ownBlock=some q∧w1.heap.size≤q)→(∀ c d,¬ (c=p∧d=q)→F' c d=F c d) →
        ∃ w3,(Instr.entryStore pkM (.map (some g)) (goInt j) v').run Tryd.prog w2 = .ok () w3∧Grp w3 base g cw F' ∧ w2.grownBy w3 (some g)) →
      wpList Tryd.prog ops Q rest (a.put o.dst (.tuple #[v,goInt j])) w1):wpList Tryd.prog ops Q (o :: rest) a w := by
  refine wpList_plain hg fun K' hK' => ?_
  obtain ⟨v,j,w1,hrun,h1,h2,h3,h4⟩ := grp_entry h p q
  unfold Oper.wp
  simp [execOp,hop,hm,hx,hrun,Result.andThen]
  exact hK' _ _ (hK v j w1 h1 h2 h3 h4)
theorem pk_storeW (hg:o.guard=none) (m s x:Operand) (hop:o.op = .entryStore pkM m s x) (g j:Nat) (v:Value) (w3:World) (hm:a.eval m = .map (some g)) (hs:a.eval s=goInt j) (hx:a.eval x=v)
    (hrun:(Instr.entryStore pkM (.map (some g)) (goInt j) v).run Tryd.prog w = .ok () w3) (hK:wpList Tryd.prog ops Q rest (a.put o.dst undef) w3):wpList Tryd.prog ops Q (o :: rest) a w := by
  refine wpList_plain hg fun K' hK' => ?_
  unfold Oper.wp
  simp [execOp,hop,hm,hs,hx,hrun,Result.andThen]
  exact hK' _ _ hK
end
set_option maxHeartbeats 4000000 in
set_option maxRecDepth 100000 in
theorem pk_walk {fu:Nat} {fr e:Int} {l:List WR} {A:Option Addr} {n c:Nat} {ps:List PKT} (w:World) (hgl:GlW w) (hl:l.length=n) (hn:n≤1048576) (hT:(T.sl 15 l.length (rowsT pkT l)).rel (allB w) w (.slice A n c))
    (hp:Bq.p31 fu (fr,l,())=some ((),e)) (hq:e=0→packsq fu fr l keysq=some ps) :
    Calls Tryd.prog 11 #[.int .i64 fr,.slice A n c] w fun e' w' => ∃ v ps',e' = .returned (.tuple #[v,.int .i64 e])∧Below w.heap.size w w' ∧ PkR w' w.heap.size v ps' ∧ (e ≠ 0→ps' = [])∧(e=0→ps' = ps) := by
  have hmm := @run_makeMap Tryd.prog
  have hR := call_refuses hgl hT hp
  by_cases he:e=0
  · have h1:(e != 0)=false := by simp [he]
    have h2:(e==0)=true := by simp [he]
    go_enter Tryd.func11,Tryd.ntmps11
    go_wp2_with (go_at_call 31; refine hR.mono ?_; rintro e' w1 ⟨rfl,hb1⟩)
    go_loopw [25] (fun i wr => ∃ k:Nat,k≤n∧i = .int .i64 k∧Grp wr (w1.heap.size+1) w1.heap.size (cwAt w A) (FF l k)∧Below w.heap.size w wr∧w1.heap.size+1≤wr.heap.size)
      (fun i _=>n-(intOf i).toNat)
    case atStart =>
      refine ⟨0,Nat.zero_le _,rfl,Grp.made w1 _ _ (by omega),hb1.alloc hb1.size _,by simp⟩
    case round =>
      obtain ⟨k,hk,rfl,hG,hbl,hsz⟩ := hrel
      by_cases hkn:k<n
      · obtain ⟨b,off,hA,hb,hc,hr⟩ := cells15 hT (k := k) (by omega)
        have hc':∀ j,j<15→wr.cell? ⟨b,off+k * 15+j,none⟩=some (csAt w A k j) := fun j hj=>(hbl.cell (p := ⟨b,off+k * 15+j,none⟩) hb).trans (hc j hj)
        obtain ⟨to,hto⟩:∃ t,toq (l.getD k wr0)=t := ⟨_,rfl⟩
        obtain ⟨x0,e0⟩:∃ x,csAt w A k 0 = .int .u64 x := ⟨_,(hr 0 (by omega)).2⟩
        obtain ⟨x1,e1⟩:∃ x,csAt w A k 1 = .int .i64 x := ⟨_,(hr 1 (by omega)).2⟩
        obtain ⟨x2,e2⟩:∃ x,csAt w A k 2 = .int .i64 x := ⟨_,(hr 2 (by omega)).2⟩
        have e3:csAt w A k 3 = .int .i64 to := by rw [← hto]; exact (hr 3 (by omega)).2
        obtain ⟨x4,e4⟩:∃ x,csAt w A k 4 = .int .u64 x := ⟨_,(hr 4 (by omega)).2⟩
        obtain ⟨x5,e5⟩:∃ x,csAt w A k 5 = .int .u64 x := ⟨_,(hr 5 (by omega)).2⟩
        obtain ⟨x6,e6⟩:∃ x,csAt w A k 6 = .int .u64 x := ⟨_,(hr 6 (by omega)).2⟩
        obtain ⟨a7,n7,c7,e7⟩:∃ a n c,csAt w A k 7 = .slice a n c := by
          obtain ⟨a,c,q,_⟩ := (hr 7 (by omega)).2
          exact ⟨_,_,_,q⟩
        obtain ⟨x8,e8⟩:∃ x,csAt w A k 8 = .int .u64 x := ⟨_,(hr 8 (by omega)).2⟩
        obtain ⟨x9,e9⟩:∃ x,csAt w A k 9 = .bool x := ⟨_,(hr 9 (by omega)).2⟩
        obtain ⟨x10,e10⟩:∃ x,csAt w A k 10 = .int .u64 x := ⟨_,(hr 10 (by omega)).2⟩
        obtain ⟨a11,n11,c11,e11⟩:∃ a n c,csAt w A k 11 = .slice a n c := by
          obtain ⟨a,c,q,_⟩ := (hr 11 (by omega)).2
          exact ⟨_,_,_,q⟩
        obtain ⟨a12,n12,c12,e12⟩:∃ a n c,csAt w A k 12 = .slice a n c := by
          obtain ⟨a,c,q,_⟩ := (hr 12 (by omega)).2
          exact ⟨_,_,_,q⟩
        obtain ⟨a13,n13,c13,e13⟩:∃ a n c,csAt w A k 13 = .slice a n c := by
          obtain ⟨a,c,q,_⟩ := (hr 13 (by omega)).2
          exact ⟨_,_,_,q⟩
        obtain ⟨x14,e14⟩:∃ x,csAt w A k 14 = .bool x := ⟨_,(hr 14 (by omega)).2⟩
        have d0:wr.cell? ⟨b,off+k * 15,none⟩=some _ := (hc' 0 (by omega)).trans (congrArg some e0)
        have d1:wr.cell? ⟨b,off+k * 15+1,none⟩=some _ := (hc' 1 (by omega)).trans (congrArg some e1)
        have d2:wr.cell? ⟨b,off+k * 15+2,none⟩=some _ := (hc' 2 (by omega)).trans (congrArg some e2)
        have d3:wr.cell? ⟨b,off+k * 15+3,none⟩=some _ := (hc' 3 (by omega)).trans (congrArg some e3)
        have d4:wr.cell? ⟨b,off+k * 15+4,none⟩=some _ := (hc' 4 (by omega)).trans (congrArg some e4)
        have d5:wr.cell? ⟨b,off+k * 15+5,none⟩=some _ := (hc' 5 (by omega)).trans (congrArg some e5)
        have d6:wr.cell? ⟨b,off+k * 15+6,none⟩=some _ := (hc' 6 (by omega)).trans (congrArg some e6)
        have d7:wr.cell? ⟨b,off+k * 15+7,none⟩=some _ := (hc' 7 (by omega)).trans (congrArg some e7)
        have d8:wr.cell? ⟨b,off+k * 15+8,none⟩=some _ := (hc' 8 (by omega)).trans (congrArg some e8)
        have d9:wr.cell? ⟨b,off+k * 15+9,none⟩=some _ := (hc' 9 (by omega)).trans (congrArg some e9)
        have d10:wr.cell? ⟨b,off+k * 15+10,none⟩=some _ := (hc' 10 (by omega)).trans (congrArg some e10)
        have d11:wr.cell? ⟨b,off+k * 15+11,none⟩=some _ := (hc' 11 (by omega)).trans (congrArg some e11)
        have d12:wr.cell? ⟨b,off+k * 15+12,none⟩=some _ := (hc' 12 (by omega)).trans (congrArg some e12)
        have d13:wr.cell? ⟨b,off+k * 15+13,none⟩=some _ := (hc' 13 (by omega)).trans (congrArg some e13)
        have d14:wr.cell? ⟨b,off+k * 15+14,none⟩=some _ := (hc' 14 (by omega)).trans (congrArg some e14)
        have HC := (show Hid _ from hc')
        have HD := (show Hid _ from hc)
        have HR := (show Hid _ from hr)
        have HT := (show Hid _ from hT)
        clear hc hc' hr hT
        subst hA
        have E0 := (show Hid _ from e0)
        have E1 := (show Hid _ from e1)
        have E2 := (show Hid _ from e2)
        have E3 := (show Hid _ from e3)
        have E4 := (show Hid _ from e4)
        have E5 := (show Hid _ from e5)
        have E6 := (show Hid _ from e6)
        have E7 := (show Hid _ from e7)
        have E8 := (show Hid _ from e8)
        have E9 := (show Hid _ from e9)
        have E10 := (show Hid _ from e10)
        have E11 := (show Hid _ from e11)
        have E12 := (show Hid _ from e12)
        have E13 := (show Hid _ from e13)
        have E14 := (show Hid _ from e14)
        clear e0 e1 e2 e3 e4 e5 e6 e7 e8 e9 e10 e11 e12 e13 e14
        have hIs:∀ W,Below w.heap.size w W→Calls Tryd.prog 32 #[.agg #[.int .i64 x1,.int .i64 x2,.int .i64 to,.int .u64 x4,.int .u64 x5,.int .u64 x6,.slice a7 n7 c7,.int .u64 x8,.bool x9,.int .u64 x10,.slice a11 n11 c11,.slice a12 n12 c12,.slice a13 n13 c13,.bool x14]] W fun e' w' => e' = .returned (.bool (isBq (l.getD k wr0)))∧Below W.heap.size W w' := fun W hW=>by
          have q := call_is (w := W) (hgl := hgl.below hW) (x := l.getD k wr0) (cs := csAt w (some ⟨b,off,none⟩) k) (fun j hj=>⟨(HR.out j hj).1,T.rel_mono (fun g' k' hg' _=>⟨World.cell?_of_block (hW.block g' hg'),Nat.lt_of_lt_of_le hg' hW.size⟩) (HR.out j hj).2⟩)
          rw [E1.out,E2.out,E3.out,E4.out,E5.out,E6.out,E7.out,E8.out,E9.out,E10.out,E11.out,E12.out,E13.out,E14.out] at q
          exact q
        obtain ⟨bq,hbq⟩:∃ t,isBq (l.getD k wr0)=t := ⟨_,rfl⟩
        rw [hbq] at hIs
        have HG := (show Hid _ from hG)
        clear hG
        have hnl:(FF l k to 1).length≤k∧(FF l k to 2).length≤k := ⟨FF_len l k to 1,FF_len l k to 2⟩
        have hcw:cwAt w (some ⟨b,off,none⟩) k=[.int .u64 x0,.int .i64 x1,.int .i64 x2,.int .i64 to,.int .u64 x4,.int .u64 x5,.int .u64 x6,.slice a7 n7 c7,.int .u64 x8,.bool x9,.int .u64 x10,.slice a11 n11 c11,.slice a12 n12 c12,.slice a13 n13 c13,.bool x14] := by
          show [csAt w (some ⟨b,off,none⟩) k 0,csAt w (some ⟨b,off,none⟩) k 1,csAt w (some ⟨b,off,none⟩) k 2,csAt w (some ⟨b,off,none⟩) k 3,csAt w (some ⟨b,off,none⟩) k 4,csAt w (some ⟨b,off,none⟩) k 5,csAt w (some ⟨b,off,none⟩) k 6,csAt w (some ⟨b,off,none⟩) k 7,csAt w (some ⟨b,off,none⟩) k 8,csAt w (some ⟨b,off,none⟩) k 9,csAt w (some ⟨b,off,none⟩) k 10,csAt w (some ⟨b,off,none⟩) k 11,csAt w (some ⟨b,off,none⟩) k 12,csAt w (some ⟨b,off,none⟩) k 13,csAt w (some ⟨b,off,none⟩) k 14]=_
          rw [E0.out,E1.out,E2.out,E3.out,E4.out,E5.out,E6.out,E7.out,E8.out,E9.out,E10.out,E11.out,E12.out,E13.out,E14.out]
        have HCW := (show Hid _ from hcw)
        clear hcw
        have hone:Hid (∀ u ∈ ([.int .u64 x0,.int .i64 x1,.int .i64 x2,.int .i64 to,.int .u64 x4,.int .u64 x5,.int .u64 x6,.slice a7 n7 c7,.int .u64 x8,.bool x9,.int .u64 x10,.slice a11 n11 c11,.slice a12 n12 c12,.slice a13 n13 c13,.bool x14]:List Value),u.oneCell' = true) := by
          show ∀ u ∈ _,_
          intro u hu
          simp only [List.mem_cons,List.not_mem_nil,or_false] at hu
          rcases hu with rfl | rfl | rfl | rfl | rfl | rfl | rfl | rfl | rfl | rfl | rfl | rfl | rfl | rfl | rfl <;> rfl
        have hkt:Hid (bq=true→kindq (l.getD k wr0)=2) := fun e=>by unfold kindq; rw [hbq,e]; rfl
        have hkf:Hid (bq=false→kindq (l.getD k wr0)=1) := fun e=>by unfold kindq; rw [hbq,e]; rfl
        have hto2:Hid (toq (l.getD k wr0)=to) := hto
        clear hto hbq
        have step:∀ (kd:Int) (v v':Value) (w4 w5:World),kindq (l.getD k wr0)=kd→w5.ownsRow (w1.heap.size+1) pkW 15 v' ((FF l k to kd).length+1) ((FF l k to kd).flatMap (cwAt w (some ⟨b,off,none⟩)) ++ [.int .u64 x0,.int .i64 x1,.int .i64 x2,.int .i64 to,.int .u64 x4,.int .u64 x5,.int .u64 x6,.slice a7 n7 c7,.int .u64 x8,.bool x9,.int .u64 x10,.slice a11 n11 c11,.slice a12 n12 c12,.slice a13 n13 c13,.bool x14])→(v'.ownBlock=v.ownBlock ∨ v'.ownBlock=some w4.heap.size) →
            w5.ownsRow (w1.heap.size+1) pkW 15 v' (FF l (k+1) to kd).length ((FF l (k+1) to kd).flatMap (cwAt w (some ⟨b,off,none⟩)))∧(v'.ownBlock=v.ownBlock ∨ ∃ q,v'.ownBlock=some q∧w4.heap.size≤q) ∧ ∀ c d,¬ (c=to∧d=kd)→FF l (k+1) c d=FF l k c d := fun kd v v' w4 w5 h1 h2 h3=>by
          refine ⟨?_,h3.imp id fun e=>⟨_,e,Nat.le_refl _⟩,fun c d h => ?_⟩
          · rw [FF_succ,if_pos ⟨hto2.out,h1⟩,List.length_append,List.flatMap_append,List.flatMap_singleton,HCW.out]
            exact h2
          · rw [FF_succ,if_neg (fun e=>h ⟨e.1.symm.trans hto2.out,e.2.symm.trans h1⟩)]
        have STEP := (show Hid _ from step)
        clear step
        obtain ⟨i0,hi,hz0,hz1,hz2⟩ := info_parts pkIW
        go_wp2_with (first
          | (go_at_call 32; refine (hIs _ ((hbl.alloc hbl.size _).alloc (Nat.le_trans hbl.size (by simp)) _)).mono ?_; rintro e' w3 ⟨rfl,hb3⟩; have hx3:w3.heap[wr.heap.size]? = some (.cells #[.int .u64 x0,.int .i64 x1,.int .i64 x2,.int .i64 to,.int .u64 x4,.int .u64 x5,.int .u64 x6,.slice a7 n7 c7,.int .u64 x8,.bool x9,.int .u64 x10,.slice a11 n11 c11,.slice a12 n12 c12,.slice a13 n13 c13,.bool x14] pkW (0,0)) := (hb3.block _ (by simp; omega)).trans ((Below.heap_alloc _ _ _ (by simp)).trans (heap_alloc_new wr _)); have hy3:w3.heap[wr.heap.size+1]? = some (.cells #[.int .i64 to,.int .i64 1] pkB (0,0)) := (hb3.block _ (by simp)).trans (by have q := heap_alloc_new (wr.alloc (.cells #[.int .u64 x0,.int .i64 x1,.int .i64 x2,.int .i64 to,.int .u64 x4,.int .u64 x5,.int .u64 x6,.slice a7 n7 c7,.int .u64 x8,.bool x9,.int .u64 x10,.slice a11 n11 c11,.slice a12 n12 c12,.slice a13 n13 c13,.bool x14] pkW)) (.cells #[.int .i64 to,.int .i64 1] pkB); simpa using q); have f0:w3.cell? ⟨wr.heap.size,0,none⟩=some (.int .u64 x0) := (by simp [World.cell?,hx3]); have f1:w3.cell? ⟨wr.heap.size,1,none⟩=some (.int .i64 x1) := (by simp [World.cell?,hx3]); have f2:w3.cell? ⟨wr.heap.size,2,none⟩=some (.int .i64 x2) := (by simp [World.cell?,hx3]); have f3:w3.cell? ⟨wr.heap.size,3,none⟩=some (.int .i64 to) := (by simp [World.cell?,hx3]); have f4:w3.cell? ⟨wr.heap.size,4,none⟩=some (.int .u64 x4) := (by simp [World.cell?,hx3]); have f5:w3.cell? ⟨wr.heap.size,5,none⟩=some (.int .u64 x5) := (by simp [World.cell?,hx3]); have f6:w3.cell? ⟨wr.heap.size,6,none⟩=some (.int .u64 x6) := (by simp [World.cell?,hx3]); have f7:w3.cell? ⟨wr.heap.size,7,none⟩=some (.slice a7 n7 c7) := (by simp [World.cell?,hx3]); have f8:w3.cell? ⟨wr.heap.size,8,none⟩=some (.int .u64 x8) := (by simp [World.cell?,hx3]); have f9:w3.cell? ⟨wr.heap.size,9,none⟩=some (.bool x9) := (by simp [World.cell?,hx3]); have f10:w3.cell? ⟨wr.heap.size,10,none⟩=some (.int .u64 x10) := (by simp [World.cell?,hx3]); have f11:w3.cell? ⟨wr.heap.size,11,none⟩=some (.slice a11 n11 c11) := (by simp [World.cell?,hx3]); have f12:w3.cell? ⟨wr.heap.size,12,none⟩=some (.slice a12 n12 c12) := (by simp [World.cell?,hx3]); have f13:w3.cell? ⟨wr.heap.size,13,none⟩=some (.slice a13 n13 c13) := (by simp [World.cell?,hx3]); have f14:w3.cell? ⟨wr.heap.size,14,none⟩=some (.bool x14) := (by simp [World.cell?,hx3]); have fb0:w3.cell? ⟨wr.heap.size+1,0,none⟩=some (.int .i64 to) := (by simp [World.cell?,hy3]); have fb1:w3.cell? ⟨wr.heap.size+1,1,none⟩=some (.int .i64 1) := (by simp [World.cell?,hy3]); have ff:w3.frozen? ⟨wr.heap.size+1,1,none⟩=false := (by simp [World.frozen?,hy3]); have hB1:Hid (Below wr.heap.size wr w3) := (((Below.refl _ wr).alloc (Nat.le_refl _) _).alloc (by simp) _).trans (hb3.mono (by simp; omega)); have hB2:Hid (Below wr.heap.size wr (w3.setCell ⟨wr.heap.size+1,1,none⟩ (.int .i64 2))) := Below_put hB1.out (by show wr.heap.size≤wr.heap.size+1; omega) _; have HX3 := (show Hid _ from hx3); have HY3 := (show Hid _ from hy3); clear hx3 hy3)
          | ((first | refine pk_entryW (o := ⟨some 42,_,_,_,_,_⟩) rfl (.tmp 37) (.tmp 38) rfl (w1.heap.size+1) w1.heap.size (cwAt w (some ⟨b,off,none⟩)) (FF l k) to 1 (by exact rfl) (by exact rfl) (by exact Grp.later HG.out (hB1.out.alloc hB1.out.size _)) ?_ | refine pk_entryW (o := ⟨some 42,_,_,_,_,_⟩) rfl (.tmp 37) (.tmp 38) rfl (w1.heap.size+1) w1.heap.size (cwAt w (some ⟨b,off,none⟩)) (FF l k) to 2 (by exact rfl) (by exact rfl) (by exact Grp.later HG.out (hB2.out.alloc hB2.out.size _)) ?_); intro v j w4 hg4 hs4 ho4 hback; have HBK := (show Hid _ from hback); clear hback; have hs4':w4.heap.size=w3.heap.size+1 := (by rw [hs4]; simp [World.setCell]); have hL4:Hid (w4.heap[w3.heap.size]? = some (.cells #[.int .u64 x0,.int .i64 x1,.int .i64 x2,.int .i64 to,.int .u64 x4,.int .u64 x5,.int .u64 x6,.slice a7 n7 c7,.int .u64 x8,.bool x9,.int .u64 x10,.slice a11 n11 c11,.slice a12 n12 c12,.slice a13 n13 c13,.bool x14] pkW (0,0))) := (hg4.block w3.heap.size (by simp [World.setCell]) (by intro e; have e1 := Option.some.inj e; have := hB1.out.size; omega)).trans (by first | exact heap_alloc_new w3 _ | (have q2 := heap_alloc_new (w3.setCell ⟨wr.heap.size+1,1,none⟩ (.int .i64 2)) (.cells #[.int .u64 x0,.int .i64 x1,.int .i64 x2,.int .i64 to,.int .u64 x4,.int .u64 x5,.int .u64 x6,.slice a7 n7 c7,.int .u64 x8,.bool x9,.int .u64 x10,.slice a11 n11 c11,.slice a12 n12 c12,.slice a13 n13 c13,.bool x14] pkW); simpa [World.setCell] using q2)); have hb4:Hid (Below w.heap.size w w4) := Below.grown (hbl.trans (Below.mono (by first | exact hB1.out.alloc hB1.out.size _ | exact hB2.out.alloc hB2.out.size _) hbl.size)) hg4 (by have := hbl.size; have := hB1.out.size; simp [World.setCell]; omega) (by intro q e; have e1 := Option.some.inj e; have := hb1.size; omega))
          | (at_builtin; go_loud (refine wpList_append_own_at _ rfl (.tmp 39) (.tmp 41) pkS rfl (w1.heap.size+1) pkW i0 _ 15 184 pkUS hi hz0 hz1 hz2 rfl (by decide) v _ _ rfl ho4 ⟨w3.heap.size,0,none⟩ 1 1 [.int .u64 x0,.int .i64 x1,.int .i64 x2,.int .i64 to,.int .u64 x4,.int .u64 x5,.int .u64 x6,.slice a7 n7 c7,.int .u64 x8,.bool x9,.int .u64 x10,.slice a11 n11 c11,.slice a12 n12 c12,.slice a13 n13 c13,.bool x14] rfl rfl (cells_block hL4.out) hone.out (by unfold maxLen; omega) (by omega) (by have := hB1.out.size; omega) ?_); intro v' w5 ho5 hg5 hn5 hl5; go_loud (obtain ⟨r1,r2,r3⟩ := STEP.out _ v v' w4 w5 (by first | exact hkt.out (by assumption) | exact hkf.out (by assumption) | exact hkf.out (Bool.eq_false_iff.2 (by assumption))) ho5 hl5); go_loud (obtain ⟨w6,hr6,hG6,hg6⟩ := HBK.out w5 v' (FF l (k+1)) hg5 r1 r2 r3); have hb6:Hid (Below w.heap.size w w6∧w4.heap.size≤w6.heap.size) := ⟨Below.grown (Below.grown hb4.out hg5 (by have := hbl.size; have := hB1.out.size; omega) (by intro q e; have := (ho4.lt q e).1; have := hb1.size; omega)) hg6 (by have := hbl.size; have := hB1.out.size; have := hg5.size; omega) (by intro q e; have e1 := Option.some.inj e; have := hb1.size; omega),Nat.le_trans hg5.size hg6.size⟩)
          | (refine pk_storeW (o := ⟨none,_,_,_,_,_⟩) rfl _ _ _ rfl w1.heap.size j v' w6 rfl rfl rfl hr6 ?_))
        · go_roundw
          case rel =>
            have q := hb6.out
            have := hB1.out.size
            exact ⟨k+1,by omega,by go_num,hG6,q.1,by omega⟩
          case measure=>simp [intOf]; omega
        · go_roundw
          case rel =>
            have q := hb6.out
            have := hB1.out.size
            exact ⟨k+1,by omega,by go_num,hG6,q.1,by omega⟩
          case measure=>simp [intOf]; omega
      · rename World=>wq
        obtain rfl:k=n := by omega
        have hQ := hq he
        have hix0:∀ W,(Instr.index 74 (.agg #[.int .i64 2,.int .i64 1]) (.int .i64 0)).run Tryd.prog W = .ok (.int .i64 2) W := fun W=>by kernel_rfl
        have hix1:∀ W,(Instr.index 74 (.agg #[.int .i64 2,.int .i64 1]) (.int .i64 1)).run Tryd.prog W = .ok (.int .i64 1) W := fun W=>by kernel_rfl
        go_wp2_with fail
        go_loopw [46,11] (fun i v wo => ∃ t:Nat,t≤8∧i = .int .i64 t∧Below wq.heap.size wq wo ∧ ∃ ps',packsq fu fr l (keysq.take (2 * t))=some ps' ∧ ps'.length≤2 * t∧PkR wo wq.heap.size v ps')
          (fun i _ _=>8-(intOf i).toNat)
        case atStart =>
          exact ⟨0,by omega,rfl,Below.refl _ _,[],rfl,by simp,PkR.nil _ _⟩
        case round =>
          obtain ⟨t,ht,rfl,hbo,ps0,hp0,hl0,hpk0⟩ := hrel
          by_cases ht8:t<8
          · have h8:(decide ((t:Int)<8))=true := decide_eq_true (by omega)
            go_wp2_with fail
            go_loopw [50,11] (fun i v wi => ∃ s:Nat,s≤2∧i = .int .i64 s∧Below wq.heap.size wq wi ∧ ∃ ps',packsq fu fr l (keysq.take (2 * t+s))=some ps' ∧ ps'.length≤2 * t+s∧PkR wi wq.heap.size v ps')
              (fun i _ _=>2-(intOf i).toNat)
            case atStart =>
              exact ⟨0,by omega,rfl,hbo,ps0,hp0,hl0,hpk0⟩
            case round =>
              obtain ⟨s,hs,rfl,hbi,ps1,hp1,hl1,hpk1⟩ := hrel
              by_cases hs2:s<2
              · rcases s with _ | _ | s
                · obtain ⟨v,hlook,hown⟩ := grp_look (Grp.later hG hbi) (t:Int) 2
                  have hFF:(FF l k (t:Int) 2).map (fun i=>l.getD i wr0)=selq l (t:Int) 2 := by rw [← hl]; exact FF_all l _ _
                  have hrow := row_data hT (fun i hi=>by rw [hl]; exact FF_lt l i hi) (hbl.trans (hbi.mono hbl.size)) hown
                  rw [hFF] at hrow
                  have hlen:(FF l k (t:Int) 2).length=(selq l (t:Int) 2).length := by rw [← hFF,List.length_map]
                  obtain ⟨N,hN⟩:∃ N,(FF l k (t:Int) 2).length=N := ⟨_,rfl⟩
                  obtain ⟨V,cv,rfl⟩:∃ V cv,v = .slice V N cv := by
                    rcases hown.2 with ⟨q,q'⟩ | ⟨g,cap,cur,q,_⟩
                    · exact ⟨_,_,by rw [q,← hN,q']⟩
                    · exact ⟨_,_,by rw [q,← hN]⟩
                  have hlk:(Instr.lookup 71 (.map (some w1.heap.size)) (.agg #[.int .i64 (t:Int),.int .i64 2]) false).run Tryd.prog wr = .ok (.slice V N cv) wr := hlook
                  have hkey := (keys8 t ht8).1
                  rcases packs_at hQ hkey hp1 with ⟨hs0,hp2⟩ | ⟨hs1,bs,hw,hp2⟩
                  · obtain rfl:N=0 := by rw [← hN,hlen]; simp [hs0]
                    have HRW := (show Hid _ from hrow)
                    clear hown hrow hlook hG hT
                    go_wp2_with fail
                    go_roundw
                    case rel=>exact ⟨0+1,by omega,by go_num,hbi,ps1,hp2,by omega,hpk1⟩
                    case measure=>simp [intOf]
                  · have hpos:(0:Int)<(N:Int) := by
                      have:N ≠ 0 := fun e=>hs1 (List.eq_nil_of_length_eq_zero (by rw [← hlen,hN,e]))
                      omega
                    have hWR := call_write (hgl.below (hbl.trans (hbi.mono hbl.size))) hrow hw
                    obtain ⟨ds,hI⟩ := hpk1
                    have HI := (show Hid _ from hI)
                    clear hown hrow hlook hI hG hT
                    obtain ⟨i1,hi,hz0,hz1,hz2⟩ := info_parts pkIP
                    have hone:∀ (ya:Option Addr) (yc:Nat),Hid (∀ u ∈ ([.int .i64 fr,.int .i64 (t:Int),.int .i64 2,.slice ya bs.length yc]:List Value),u.oneCell' = true) := by
                      intro ya yc
                      show ∀ u ∈ _,_
                      intro u hu
                      simp only [List.mem_cons,List.not_mem_nil,or_false] at hu
                      rcases hu with rfl | rfl | rfl | rfl <;> rfl
                    go_wp2_with (first
                      | (go_at_call 33; refine hWR.mono ?_; rintro e' w5 ⟨ya,yc,rfl,hyb,hb5⟩; have HYB := (show Hid _ from hyb); clear hyb)
                      | (at_builtin; go_loud (refine wpList_append_own_at _ rfl (.tmp 61) (.tmp 69) 46 rfl wq.heap.size pkP i1 _ 4 48 Tryd.underlying46 hi hz0 hz1 hz2 rfl (by decide) u11 ps1.length ((ps1.zip ds).flatMap pcs) rfl (PkI.below HI.out (hb5.alloc hb5.size _)).2.1 ⟨w5.heap.size,0,none⟩ 1 1 [.int .i64 fr,.int .i64 (t:Int),.int .i64 2,.slice ya bs.length yc] rfl rfl (cells_block (heap_alloc_new w5 _)) (hone ya yc).out (by unfold maxLen; omega) (by omega) (by have := hbi.size; have := hb5.size; simp; omega) ?_); intro v' w6 ho6 hg6 hn6 hl6; go_loud (have hpk6:PkR w6 wq.heap.size v' (ps1 ++ [(fr,(t:Int),2,bs)]) := PkR.app (PkI.below HI.out (hb5.alloc hb5.size _)) rfl (bytes_at HI.out hbi.size HYB.out ((Below.refl _ w5).alloc (Nat.le_refl _) _)) ho6 hg6 (hl6.imp id fun e=>⟨_,e,Nat.le_refl _⟩)); have HP6 := (show Hid _ from hpk6); clear hpk6; go_loud (have hb6:Hid (Below wq.heap.size wq w6) := Below.grown (hbi.trans ((hb5.alloc hb5.size _).mono hbi.size)) hg6 (by have := hbi.size; have := hb5.size; simp; omega) (by intro q e; exact (HI.out.2.1.lt q e).1))))
                    go_roundw
                    case rel=>exact ⟨0+1,by omega,by go_num,hb6.out,_,hp2,by simp; omega,HP6.out⟩
                    case measure=>simp [intOf]
                · obtain ⟨v,hlook,hown⟩ := grp_look (Grp.later hG hbi) (t:Int) 1
                  have hFF:(FF l k (t:Int) 1).map (fun i=>l.getD i wr0)=selq l (t:Int) 1 := by rw [← hl]; exact FF_all l _ _
                  have hrow := row_data hT (fun i hi=>by rw [hl]; exact FF_lt l i hi) (hbl.trans (hbi.mono hbl.size)) hown
                  rw [hFF] at hrow
                  have hlen:(FF l k (t:Int) 1).length=(selq l (t:Int) 1).length := by rw [← hFF,List.length_map]
                  obtain ⟨N,hN⟩:∃ N,(FF l k (t:Int) 1).length=N := ⟨_,rfl⟩
                  obtain ⟨V,cv,rfl⟩:∃ V cv,v = .slice V N cv := by
                    rcases hown.2 with ⟨q,q'⟩ | ⟨g,cap,cur,q,_⟩
                    · exact ⟨_,_,by rw [q,← hN,q']⟩
                    · exact ⟨_,_,by rw [q,← hN]⟩
                  have hlk:(Instr.lookup 71 (.map (some w1.heap.size)) (.agg #[.int .i64 (t:Int),.int .i64 1]) false).run Tryd.prog wr = .ok (.slice V N cv) wr := hlook
                  have hkey := (keys8 t ht8).2
                  rcases packs_at hQ hkey hp1 with ⟨hs0,hp2⟩ | ⟨hs1,bs,hw,hp2⟩
                  · obtain rfl:N=0 := by rw [← hN,hlen]; simp [hs0]
                    have HRW := (show Hid _ from hrow)
                    clear hown hrow hlook hG hT
                    go_wp2_with fail
                    go_roundw
                    case rel=>exact ⟨1+1,by omega,by go_num,hbi,ps1,hp2,by omega,hpk1⟩
                    case measure=>simp [intOf]
                  · have hpos:(0:Int)<(N:Int) := by
                      have:N ≠ 0 := fun e=>hs1 (List.eq_nil_of_length_eq_zero (by rw [← hlen,hN,e]))
                      omega
                    have hWR := call_write (hgl.below (hbl.trans (hbi.mono hbl.size))) hrow hw
                    obtain ⟨ds,hI⟩ := hpk1
                    have HI := (show Hid _ from hI)
                    clear hown hrow hlook hI hG hT
                    obtain ⟨i1,hi,hz0,hz1,hz2⟩ := info_parts pkIP
                    have hone:∀ (ya:Option Addr) (yc:Nat),Hid (∀ u ∈ ([.int .i64 fr,.int .i64 (t:Int),.int .i64 1,.slice ya bs.length yc]:List Value),u.oneCell' = true) := by
                      intro ya yc
                      show ∀ u ∈ _,_
                      intro u hu
                      simp only [List.mem_cons,List.not_mem_nil,or_false] at hu
                      rcases hu with rfl | rfl | rfl | rfl <;> rfl
                    go_wp2_with (first
                      | (go_at_call 33; refine hWR.mono ?_; rintro e' w5 ⟨ya,yc,rfl,hyb,hb5⟩; have HYB := (show Hid _ from hyb); clear hyb)
                      | (at_builtin; go_loud (refine wpList_append_own_at _ rfl (.tmp 61) (.tmp 69) 46 rfl wq.heap.size pkP i1 _ 4 48 Tryd.underlying46 hi hz0 hz1 hz2 rfl (by decide) u11 ps1.length ((ps1.zip ds).flatMap pcs) rfl (PkI.below HI.out (hb5.alloc hb5.size _)).2.1 ⟨w5.heap.size,0,none⟩ 1 1 [.int .i64 fr,.int .i64 (t:Int),.int .i64 1,.slice ya bs.length yc] rfl rfl (cells_block (heap_alloc_new w5 _)) (hone ya yc).out (by unfold maxLen; omega) (by omega) (by have := hbi.size; have := hb5.size; simp; omega) ?_); intro v' w6 ho6 hg6 hn6 hl6; go_loud (have hpk6:PkR w6 wq.heap.size v' (ps1 ++ [(fr,(t:Int),1,bs)]) := PkR.app (PkI.below HI.out (hb5.alloc hb5.size _)) rfl (bytes_at HI.out hbi.size HYB.out ((Below.refl _ w5).alloc (Nat.le_refl _) _)) ho6 hg6 (hl6.imp id fun e=>⟨_,e,Nat.le_refl _⟩)); have HP6 := (show Hid _ from hpk6); clear hpk6; go_loud (have hb6:Hid (Below wq.heap.size wq w6) := Below.grown (hbi.trans ((hb5.alloc hb5.size _).mono hbi.size)) hg6 (by have := hbi.size; have := hb5.size; simp; omega) (by intro q e; exact (HI.out.2.1.lt q e).1))))
                    go_roundw
                    case rel=>exact ⟨1+1,by omega,by go_num,hb6.out,_,hp2,by simp; omega,HP6.out⟩
                    case measure=>simp [intOf]
                · omega
              · obtain rfl:s=2 := by omega
                go_wp2_with fail
                go_roundw
                case rel=>exact ⟨t+1,by omega,by go_num,hbi,ps1,hp1,by omega,hpk1⟩
                case measure=>simp [intOf]; omega
          · obtain rfl:t=8 := by omega
            go_wp2_with fail
            go_ret2
            rw [show keysq.take (2 * 8)=keysq from rfl,hQ] at hp0
            cases hp0
            exact ⟨_,ps,by rw [he]; rfl,hbl.trans (hbo.mono hbl.size),hpk0.mono hbl.size,fun h=>absurd he h,fun _=>rfl⟩
  · have h1:(e != 0)=true := by simp [he]
    have h2:(e==0)=false := by simp [he]
    go_enter Tryd.func11,Tryd.ntmps11
    go_wp2_with (go_at_call 31; refine hR.mono ?_; rintro e' w1 ⟨rfl,hb1⟩)
    go_ret2
    exact ⟨_,[],rfl,hb1,PkR.nil _ _,fun _=>rfl,fun h=>absurd h he⟩
end Go.Proofs.YtahamggipcikgaaDoor
namespace Go.Proofs.YtahamggipcikgaaDoor
open Go.RowKit
theorem pk_enters:Enters Tryd.prog 11 := ⟨_,Tryd.func11,by kernel_rfl,by kernel_rfl⟩
theorem pk_args {vs:Array Value} (h:vs.size=2):vs = #[vs.getD 0 undef,vs.getD 1 undef] := by
  apply Array.ext
  · simpa using h
  · intro i hi1 hi2
    have hi:i=0 ∨ i=1 := by simp at hi2; omega
    rcases hi with rfl | rfl <;> simp [Array.getD_eq_getD_getElem?,hi1]
theorem pl_at {α β γ:Type} {s:Nat} (f:α×β→List γ) (hf:∀ p,(f p).length=s):∀ (a:List α) (b:List β) (i j:Nat) (x:α) (y:β),a[i]? = some x→b[i]? = some y→j<s→((a.zip b).flatMap f)[i * s+j]? = (f (x,y))[j]?
  | [],_,i,j,x,y,h,_,_=>by simp at h
  | _ :: _,[],i,j,x,y,_,h,_=>by simp at h
  | a :: l,b :: m,0,j,x,y,h1,h2,hj=>by
    simp only [List.getElem?_cons_zero,Option.some.injEq] at h1 h2
    subst h1 h2
    rw [List.zip_cons_cons,List.flatMap_cons,Nat.zero_mul,Nat.zero_add,List.getElem?_append_left (by rw [hf]; exact hj)]
  | a :: l,b :: m,i+1,j,x,y,h1,h2,hj=>by
    rw [List.zip_cons_cons,List.flatMap_cons,List.getElem?_append_right (by rw [hf,Nat.succ_mul]; omega),hf]
    have:(i+1) * s+j-s=i * s+j := by rw [Nat.succ_mul]; omega
    rw [this]
    exact pl_at f hf l m i j x y (by simpa using h1) (by simpa using h2) hj
set_option maxRecDepth 100000 in
theorem gPack (fu:Nat):(ePack fu).Good Tryd.prog := by
  rintro ⟨(fr:Int),(l:List WR),⟨⟩⟩ y z hp
  have hp:pPack fu (fr,l,())=some (y,z) := hp
  unfold pPack at hp
  by_cases hl:l.length≤1048576
  case neg=>simp [hl] at hp
  rw [show decide (l.length≤1048576)=true from decide_eq_true hl] at hp
  simp only [cond_true] at hp
  cases hr:Bq.p31 fu (fr,l,()) with
  | none=>rw [hr] at hp; cases hp
  | some e' =>
  obtain ⟨⟨⟩,(e:Int)⟩ := e'
  rw [hr] at hp
  simp only [Option.bind_some] at hp
  obtain ⟨ps,hz,hq,hne⟩:∃ ps,some ((),ps,e,())=some (y,z)∧(e=0→packsq fu fr l keysq=some ps)∧(e ≠ 0→ps=[]) := by
    by_cases he:e=0
    · rw [show (e != 0)=false by simp [he]] at hp
      simp only [cond_false] at hp
      cases hk:packsq fu fr l keysq with
      | none=>rw [hk] at hp; cases hp
      | some ps =>
        rw [hk] at hp
        exact ⟨ps,by rw [he]; exact hp,fun _=>rfl,fun h=>absurd he h⟩
    · rw [show (e != 0)=true by simp [he]] at hp
      exact ⟨[],hp,fun h=>absurd h he,fun _=>rfl⟩
  obtain ⟨rfl,rfl⟩ := Prod.mk.inj (Option.some.inj hz)
  clear hz hp
  refine ⟨pk_enters,fun ok ρ w vs hgl h1 h2 h3 h4 h5 => ?_⟩
  obtain ⟨A,c,e0,hn,hf⟩:(T.sl 15 l.length (rowsT pkT l)).rel (okb ok ρ (lol [])) w (vs.getD 1 undef) := h5 1 _ rfl
  have e1:vs.getD 0 undef = .int .i64 fr := h5 0 _ rfl
  rw [pk_args h4,e0,e1]
  have hT:(T.sl 15 l.length (rowsT pkT l)).rel (allB w) w (.slice A l.length c) := T.rel_mono (fun g k hg _=>⟨rfl,hg⟩) (⟨A,c,rfl,hn,hf⟩:(T.sl 15 l.length (rowsT pkT l)).rel (okb ok ρ (lol [])) w (.slice A l.length c))
  refine (pk_walk w (GlW.of_glb hgl) rfl hl hT hr (ps := ps) hq).mono ?_
  rintro e' w' ⟨v,ps',rfl,hbl,hpk,hne',hq'⟩
  obtain rfl:ps' = ps := by
    by_cases he:e=0
    · exact hq' he
    · rw [hne' he,hne he]
  clear hne hne' hq hq'
  obtain ⟨ds,d1,d2,d3⟩ := hpk
  let o1:Ob := (DOb.arr .own pkP pkK 0 ps').toOb
  have main:∃ p:Option Nat,(∀ g,p=some g→v.ownBlock=some g)∧((p=none∧v = .slice none 0 0∧ps'.length=0) ∨ ∃ g cap cur,p=some g∧v = .slice (some ⟨g,0,none⟩) ps'.length cap∧w.heap.size≤g∧w'.heap[g]? = some (.cells cur pkP (0,0))∧ps'.length≤cap∧cap≤maxLen∧cur.size=cap * 4∧cur.toList.take (ps'.length * 4)=(ps'.zip ds).flatMap pcs) := by
    rcases d2.2 with ⟨q,q'⟩ | ⟨g,cap,cur,q,q1,q2,q3,q4,q5,q6⟩
    · exact ⟨none,fun g h=>(by cases h),.inl ⟨rfl,q,q'⟩⟩
    · exact ⟨some g,fun g' h=>(by cases h; rw [q]; rfl),.inr ⟨g,cap,cur,rfl,q,q1,q2,q3,q4,q5,q6⟩⟩
  obtain ⟨p,hpo,hmain⟩ := main
  let ρ':Pl := fun k=>if k=0 then p else ρ k
  have hin:∀ {k:Nat} {o:Ob},lol [o1] k=some o→k=0∧o=o1 := fun {k o} h=>by
    rcases k with _ | k
    · exact ⟨rfl,(Option.some.inj h).symm⟩
    · simp [lol] at h
  have hown:∀ {g:Nat},own ρ' (lol [o1]) g→p=some g := fun {g} ⟨id,o,a1,a2,a3⟩=>by
    obtain ⟨rfl,rfl⟩ := hin a1
    exact a3
  have hge:∀ {g:Nat},p=some g→w.heap.size≤g∧g<w'.heap.size := fun {g} h=>d2.lt g (hpo g h)
  show ∃ ρ' x,Ending.returned (Value.tuple #[v,.int .i64 e]) = .returned x∧([]:List Ob).length=([]:List Ob).length ∧
    (V.tup 2 fun j=>(dl [DV.buf 0 0 0 ps'.length true,.im (.int .i64) e] j).toV).rel (Env.b ⟨w,ρ,lol [],ok⟩) ρ' (lol [o1]) w' x ∧
    (∀ k o,lol [o1] k=some o→o.rel (Env.b ⟨w,ρ,lol [],ok⟩) ρ' (lol [o1]) w' (ρ' k)) ∧
    (∀ k o g,lol [o1] k=some o→o.live=true→ρ' k=some g→(w.heap.size≤g ∨ own ρ (lol []) g)∧g<w'.heap.size) ∧
    (∀ k k' o o' g,lol [o1] k=some o→lol [o1] k' = some o' → o.live=true→o'.live=true→ρ' k=some g→ρ' k' = some g→k=k') ∧
    Ext ρ (lol []) w ρ' (lol [o1]) w' ∧ w.heap.size≤w'.heap.size∧w'.os=w.os∧w'.tape=w.tape∧w'.output=w.output
  refine ⟨ρ',_,rfl,rfl,?_,fun k o hk => ?_,fun k o g hk hl' hg => ?_,fun k k' o o' g hk hk' _ _ hg hg' => ?_,⟨fun g hg _=>⟨hbl.block g hg,fun q=>by have := (hge (hown q)).1; omega⟩,fun g k hg _=>⟨hbl.cell (p := ⟨g,k,none⟩) hg,fun q=>by have := (hge (hown (own_of_ownc q))).1; omega⟩,fun id o hid=>by simp [lol] at hid⟩,hbl.size,hbl.os,hbl.tape,hbl.output⟩
  · refine ⟨_,rfl,rfl,fun j hj => ?_⟩
    rcases j with _ | _ | j
    · rcases hmain with ⟨q1,q2,q3⟩ | ⟨g,cap,cur,q1,q2,q3,q4,q5,q6,q7,q8⟩
      · exact ⟨none,0,o1,by rw [q2,q3]; rfl,by rw [q3]; exact Nat.le_refl _,rfl,Nat.le_refl _,fun _=>⟨_,_,_,_,_,rfl,by rw [q3]; exact Nat.zero_le _,.inl ⟨q1,rfl,rfl,rfl⟩⟩⟩
      · exact ⟨_,cap,o1,q2,q5,rfl,Nat.le_refl _,fun _=>⟨_,_,_,_,_,rfl,by rw [Nat.zero_add]; exact Nat.le_refl _,.inr ⟨g,cur,q1,fun _=>by rw [Nat.zero_mul],q4,by rw [Nat.zero_add]; exact q7.symm⟩⟩⟩
    · exact (rfl:Value.int .i64 e=_)
    · omega
  · obtain ⟨rfl,rfl⟩ := hin hk
    rcases hmain with ⟨q1,q2,q3⟩ | ⟨g,cap,cur,q1,q2,q3,q4,q5,q6,q7,q8⟩
    · exact .inl ⟨q1,q3⟩
    · refine .inr ⟨g,cur,cap,q1,q4,q7,q5,⟨q6,fun h=>by cases h⟩,fun i j hi hj => ?_⟩
      have hi:i<ps'.length := hi
      have hj:j<4 := hj
      have hd:ds[i]? = some (ds.getD i undef) := by
        have:i<ds.length := by omega
        simp [List.getD_eq_getElem?_getD,this]
      have hpq:ps'[i]? = some (ps'.getD i (0,0,0,[])) := by simp [List.getD_eq_getElem?_getD,hi]
      have hx := pl_at pcs (s := 4) (fun _=>rfl) ps' ds i j _ _ hpq hd hj
      have hc:cur.getD (i * 4+j) undef=(pcs (ps'.getD i (0,0,0,[]),ds.getD i undef)).getD j undef := by
        rw [← q8,List.getElem?_take,if_pos (by omega)] at hx
        rw [Array.getD_eq_getD_getElem?,← Array.getElem?_toList,hx]
        exact (List.getD_eq_getElem?_getD ..).symm
      show (cur.getD (i * 4+j) undef).oneCell' = true∧T.rel _ w' (cellT pkK (ps'.getD i (0,0,0,[])) j) (cur.getD (i * 4+j) undef)
      rw [hc]
      obtain ⟨r1,r2⟩ := d3 i hi
      rcases j with _ | _ | _ | _ | j
      · exact ⟨rfl,rfl⟩
      · exact ⟨rfl,rfl⟩
      · exact ⟨rfl,rfl⟩
      · refine ⟨r1,T.rel_mono (fun g' k' hg' hok=>⟨rfl,.inr (.inl hok.1),fun q => ?_⟩) r2⟩
        have := hown (own_of_ownc q)
        exact hok.2 (hpo _ this).symm
      · omega
  · obtain ⟨rfl,rfl⟩ := hin hk
    have := hge (show p=some g from hg)
    exact ⟨.inl this.1,this.2⟩
  · obtain ⟨rfl,rfl⟩ := hin hk
    obtain ⟨rfl,rfl⟩ := hin hk'
    rfl
end Go.Proofs.YtahamggipcikgaaDoor
