/-
  slices.Insert into a row of flat structs that is handed over, as an entry: what stood in it, with others between.
-/
import Derived.Shelf.Spec.SlicesInsertGrow
import Derived.Test.YtdkdhcakoccpfaaGreatDoorChecked
import Derived.Test.YtdkdhcakoccpfaaGreatDoorDaL
namespace Go.Proofs.YtdkdhcakoccpfaaGreatDoor
open Go.RowKit
section
open Go.Shelf Go.RowKit Go.Lib
theorem uSC:Tryz.prog.underlying 27=some (.slice 64) := Tryz.underlying27
theorem uIC:Tryz.prog.underlying 3=some (.int .i64) := Tryz.underlying3
theorem iEC:(Tryz.prog.info? 64).map (fun i=>(i.zero,i.size,i.bytes))=some (some (Value.agg #[.string ⟨#[]⟩,.int .u64 0]),2,24) := by kernel_rfl
theorem sEC (w:World):(Go.sizeOf 64).run Tryz.prog w = .ok 2 w := by
 obtain ⟨i0,hi0,-,h1,-⟩ := info_parts iEC
 simp [Go.sizeOf,typeInfo,hi0,h1,Result.andThen]
theorem zcC:(Value.agg #[.string ⟨#[]⟩,.int .u64 0]).cells.size=2 := rfl
theorem Q7p {P:Program} (w:World) (dT sT ty elem:TypeId) (b o dLen dCap:Nat) (a:Addr) (sLen sCap:Nat) (cs:List Value) (hu:P.underlying dT=some (.slice elem)) (hs:(P.info? elem).map (·.size)=some 2) (hn:cs.length=Nat.min sLen dLen * 2)
  (hsrc:∀ j v,cs[j]? = some v→w.cell? (a.add j)=some v) (hc:∀ j,j<cs.length→(w.cell? ⟨b,o+j,none⟩).isSome=true) (hf:∀ j,j<cs.length→w.frozen? ⟨b,o+j,none⟩=false) (h1:∀ v ∈ cs,v.oneCell' = true) :
  (Builtin.copy_ #[dT,sT] ty #[.slice (some ⟨b,o,none⟩) dLen dCap,.slice (some a) sLen sCap]).run P w = .ok (goInt (Nat.min sLen dLen)) (w.setCells b o cs) := by
 have hl := run_loadCells_list (P := P) w a cs hsrc
 have hst := run_storeCells_cells (P := P) b o cs 0 w (by simpa using hc) (by simpa using hf) h1
 cases hq:P.info? elem with
 | none=>simp [hq] at hs
 | some i =>
  have hi:i.size=2 := by simpa [hq] using hs
  simp [Builtin.copy_,run_underlying hu,Builtin.lenOf,Builtin.firstCells,sizeOf,typeInfo,hq,hi,← hn,hl,hst]
set_option maxHeartbeats 4000000 in
set_option maxRecDepth 100000 in
theorem K9a (b n c i vb m vc:Nat) (cs vs:List Value) (w:World) (hi:i<n) (hm:0<m) (hroom:n+m≤c) (hc63:c≤9223372036854775807) (hvb:vb ≠ b)
  (hcl:cs.length=n * 2) (hvl:vs.length=m * 2)
  (hcs:∀ j v,cs[j]? = some v→w.cell? ⟨b,j,none⟩=some v) (hsp:∀ j,j<(n+m) * 2→(w.cell? ⟨b,j,none⟩).isSome=true) (hfz:∀ j,j<(n+m) * 2→w.frozen? ⟨b,j,none⟩=false)
  (hvs:∀ j v,vs[j]? = some v→w.cell? ⟨vb,j,none⟩=some v) (h1c:∀ v ∈ cs,v.oneCell' = true) (h1v:∀ v ∈ vs,v.oneCell' = true)
  (tA tB:TypeId) (kA kB:Nat) (hsa:w.shape? vb=some (tA,kA)) (hsb:w.shape? b=some (tB,kB)) (hkB:kB ≠ 0) (hfa:w.frozen? ⟨vb,0,none⟩=false) (hfe:w.frozen? ⟨vb,kA,none⟩=false) :
  Calls Tryz.prog 122 #[.slice (some ⟨b,0,none⟩) n c,.int .i64 i,.slice (some ⟨vb,0,none⟩) m vc] w fun e w' =>
   e = .returned (.slice (some ⟨b,0,none⟩) (n+m) c)∧w' = (w.drew.setCells b ((i+m) * 2) (cs.drop (i * 2))).setCells b (i * 2) vs := by
 have mixed:Tryz.prog.follows .mixedOrders=true := by kernel_rfl
 have hz1:¬ ((m:Int)=0) := by omega
 have hz2:¬ ((i:Int)=(n:Int)) := by omega
 have hsz:(Tryz.prog.info? 64).map (·.size)=some 2 := by
  obtain ⟨i0,hi0,-,h1,-⟩ := info_parts iEC
  rw [hi0]; simp [h1]
 have hov:∀ lb cb,(callFunc 125 #[.slice (some ⟨vb,0,none⟩) m vc,.slice (some ⟨b,(i+m) * 2,none⟩) lb cb]).run Tryz.prog w = .ok (.value (.bool false)) w := fun lb cb=>by
  rw [run_callFunc_extern Tryz.func125 (by kernel_rfl) (by kernel_rfl) (by kernel_rfl) (e := Extern.SlicesOverlaps.overlaps #[27,27] #[4]) (by kernel_rfl),
   Lib.run_overlaps_apart w 27 4 64 uSC 2 sEC ⟨vb,0,none⟩ ⟨b,(i+m) * 2,none⟩ m vc lb cb hvb tA tB kA kB hsa hsb hkB hfa hfe]
  rfl
 have hdl:(cs.drop (i * 2)).length=(n-i) * 2 := by rw [List.length_drop,hcl]; omega
 have hw1:IntKind.i64.wrap ((i:Int)+(m:Int))=(i:Int)+(m:Int) := by rw [IntKind.wrap_i64]; omega
 have hb1:(0:Int)≤(i:Int)+(m:Int) := by omega
 have hin:i≤n := by omega
 have htn:((i:Int)+(m:Int)).toNat=i+m := by omega
 have hb2:¬ (c=i+m) := by omega
 have hb3:(i:Int)≤(n:Int)+(m:Int) := by omega
 have hb4:¬ (c=i) := by omega
 have hcp1:∀ ty dc sc,(Builtin.copy_ #[27,27] ty #[.slice (some ⟨b,(i+m) * 2,none⟩) (n+m-(i+m)) dc,.slice (some ⟨b,i * 2,none⟩) (n+m-i) sc]).run Tryz.prog w.drew = .ok (goInt (Nat.min (n+m-i) (n+m-(i+m)))) (w.drew.setCells b ((i+m) * 2) (cs.drop (i * 2))) := fun ty dc sc =>
  Q7p w.drew _ _ ty 64 b ((i+m) * 2) (n+m-(i+m)) dc ⟨b,i * 2,none⟩ (n+m-i) sc (cs.drop (i * 2)) uSC hsz (by rw [hdl]; simp only [Nat.min_def]; split <;> omega)
   (fun j v hj=>by rw [Addr.add_lit]; exact hcs (i * 2+j) v (by rwa [List.getElem?_drop] at hj))
   (fun j hj=>hsp _ (by omega)) (fun j hj=>hfz _ (by omega)) (fun v hv=>h1c v (List.mem_of_mem_drop hv))
 obtain ⟨W1,hW1⟩:∃ W1,W1=w.drew.setCells b ((i+m) * 2) (cs.drop (i * 2)) := ⟨_,rfl⟩
 have hsp1:∀ k,k<(n+m) * 2→(W1.cell? ⟨b,k,none⟩).isSome=true := fun k hk=>by
  rw [hW1]
  exact isSome_setCells b (cs.drop (i * 2)) ((i+m) * 2) w.drew (fun j hj=>hsp _ (by rw [hdl] at hj; omega)) _ (hsp k hk)
 have hcp2:∀ (W:World),(∀ x,W.cell? x=W1.cell? x)→(∀ x,W.frozen? x=W1.frozen? x) → ∀ ty dc,(Builtin.copy_ #[27,27] ty #[.slice (some ⟨b,i * 2,none⟩) (n+m-i) dc,.slice (some ⟨vb,0,none⟩) m vc]).run Tryz.prog W = .ok (goInt (Nat.min m (n+m-i))) (W.setCells b (i * 2) vs) := fun W hWc hWf ty dc =>
  Q7p W _ _ ty 64 b (i * 2) (n+m-i) dc ⟨vb,0,none⟩ m vc vs uSC hsz (by rw [hvl]; simp only [Nat.min_def]; split <;> omega)
   (fun j v hj=>by
    rw [Addr.add_lit,hWc,hW1,World.cell?_setCells_out b _ _ _ _ (fun h _=>absurd h hvb),Nat.zero_add]
    exact hvs j v hj)
   (fun j hj=>by rw [hWc]; exact hsp1 _ (by omega)) (fun j hj=>by rw [hWf,hW1,World.frozen?_setCells]; exact hfz _ (by omega)) h1v
 rw [← hW1] at hcp1
 go_enter Tryz.func122,Tryz.ntmps122
 go_wp2_with (simp only [hov])
 go_region_law_o (refine step_copy_runI rfl _ _ 27 27 rfl _ _ (by simp [Act.eval,Act.put]) (by simp [Act.eval,Act.put]) (hcp1 _ _ _) ?_)
 go_wp2_with (at_builtin; refine wpList_copy_runI _ rfl _ _ 27 27 rfl _ _ rfl rfl (hcp2 _ (fun _=>rfl) (fun _=>rfl) _ _) ?_)
 go_ret
 first | exact ⟨rfl,rfl⟩ | exact ⟨rfl,by rw [hW1]⟩
set_option maxHeartbeats 4000000 in
set_option maxRecDepth 100000 in
theorem K9b (b n c vb m vc:Nat) (vs:List Value) (w:World) (hm:0<m) (hroom:n+m≤c) (_:c≤9223372036854775807)
  (hvl:vs.length=m * 2) (hsp:∀ j,j<m * 2→(w.cell? ⟨b,0+n * 2+j,none⟩).isSome=true) (hfz:∀ j,j<m * 2→w.frozen? ⟨b,0+n * 2+j,none⟩=false)
  (hvs:∀ j v,vs[j]? = some v→w.cell? ⟨vb,j,none⟩=some v) (h1v:∀ v ∈ vs,v.oneCell' = true) :
  Calls Tryz.prog 122 #[.slice (some ⟨b,0,none⟩) n c,.int .i64 n,.slice (some ⟨vb,0,none⟩) m vc] w fun e w' =>
   e = .returned (.slice (some ⟨b,0,none⟩) (n+m) c)∧w' = w.setCells b (0+n * 2) vs := by
 obtain ⟨i0,hi0,hz0,hzs,hzb⟩ := info_parts iEC
 have hz1:¬ ((m:Int)=0) := by omega
 have hsrc:Go.Src Tryz.prog i0.size 27 (.slice (some ⟨vb,0,none⟩) m vc) m vs w := by
  rw [hzs]
  exact Go.Src.ofSlice w uSC ⟨vb,0,none⟩ m vc vs (by omega) (fun j u hj=>by rw [Addr.add_lit,Nat.zero_add]; exact hvs j u hj) h1v
 have hlaw := fun {ops:Array Oper} {rest:List Oper} {o:Oper} {a:Act} {Q:Exit→Act→World→Prop} (hg:o.guard=none) (s x:Operand) (hop:o.op=Op.call { callee := Callee.builtin Builtin.append,args := #[s,x],argTypes := #[27,27] }) (hs:a.eval s = .slice (some ⟨b,0,none⟩) n c) (hx:a.eval x = .slice (some ⟨vb,0,none⟩) m vc)
   (hK:wpList Tryz.prog ops Q rest (a.put o.dst (.slice (some ⟨b,0,none⟩) (n+m) c)) (w.setCells b (0+n * 2) vs)) =>
  wpList_append_room_src (P := Tryz.prog) w (ops := ops) (rest := rest) (o := o) (a := a) (Q := Q) hg s x 27 27 hop 64 i0 uSC hi0 b 0 n c hs _ hx m vs hsrc hroom (by rw [hvl,hzs]; exact hsp) (by rw [hvl,hzs]; exact hfz) (by rw [hzs]; exact hK)
 go_enter Tryz.func122,Tryz.ntmps122
 go_wp2_with (at_builtin; refine hlaw rfl _ _ rfl rfl rfl ?_)
 go_ret
 exact ⟨rfl,by rw [Nat.zero_add]⟩
set_option maxHeartbeats 4000000 in
set_option maxRecDepth 100000 in
theorem K9c (base:Option Addr) (n c vb m vc:Nat) (cs vs:List Value) (w:World) (hm:0<m) (hnc:n≤c) (hroom:c<n+m) (hbig:(n+m) * 24≤140737488355328)
  (hcl:cs.length=n * 2) (hvl:vs.length=m * 2) (hnil:base=none→n=0)
  (hcs:∀ a,base=some a → ∀ j v,cs[j]? = some v→w.cell? (a.add j)=some v)
  (hvs:∀ j v,vs[j]? = some v→w.cell? ⟨vb,j,none⟩=some v) (h1v:∀ v ∈ vs,v.oneCell' = true) :
  Calls Tryz.prog 122 #[.slice base n c,.int .i64 n,.slice (some ⟨vb,0,none⟩) m vc] w fun e w' =>
   e = .returned (.slice (some ⟨w.heap.size,0,none⟩) (n+m) (grownCap w (n+m) c 64)) ∧
   w' = w.drew.alloc (.cells ((cs ++ vs).toArray ++ Builtin.zeroCells (Value.agg #[.string ⟨#[]⟩,.int .u64 0]).cells (grownCap w (n+m) c 64-(n+m))) 64) := by
 obtain ⟨i0,hi0,hz0,hzs,hzb⟩ := info_parts iEC
 have hz1:¬ ((m:Int)=0) := by omega
 have hsrc:Go.Src Tryz.prog i0.size 27 (.slice (some ⟨vb,0,none⟩) m vc) m vs w := by
  rw [hzs]
  exact Go.Src.ofSlice w uSC ⟨vb,0,none⟩ m vc vs (by omega) (fun j u hj=>by rw [Addr.add_lit,Nat.zero_add]; exact hvs j u hj) h1v
 have hold:(Builtin.firstCells i0.size n (.slice base n c)).run Tryz.prog w.drew = .ok cs.toArray w.drew := by
  rw [hzs]
  cases base with
  | none =>
   have h0 := hnil rfl
   subst h0
   rw [List.length_eq_zero_iff.1 (hcl.trans (Nat.zero_mul _))]
   exact run_firstCells_none w.drew 2 0 0 c
  | some a=>exact run_firstCells_some w.drew 2 n a n c cs (by omega) (fun j v hj=>hcs a rfl j v hj)
 have hrun:∀ ty,(Builtin.append_ #[27,27] ty #[.slice base n c,.slice (some ⟨vb,0,none⟩) m vc]).run Tryz.prog w=_ := fun ty =>
  run_append_grow_src w 27 27 ty 64 i0 _ uSC hi0 hz0 base n c cs hold _ m vs hsrc hroom (by omega) (by rw [hzb]; exact growslice_fits hroom hbig)
 go_enter Tryz.func122,Tryz.ntmps122
 cases base with
 | none =>
  have h0 := hnil rfl
  subst h0
  go_wp2_with (at_builtin; refine Lib.wpList_append_run _ rfl _ _ _ _ rfl _ _ rfl rfl _ _ (hrun _) ?_)
  go_ret
  exact ⟨rfl,rfl⟩
 | some a =>
  obtain ⟨ab,ao,asp⟩ := a
  go_wp2_with (at_builtin; refine Lib.wpList_append_run _ rfl _ _ _ _ rfl _ _ rfl rfl _ _ (hrun _) ?_)
  all_goals (go_ret; exact ⟨rfl,rfl⟩)
set_option maxHeartbeats 4000000 in
set_option maxRecDepth 100000 in
theorem K9d (b n c i vb m vc:Nat) (cs vs:List Value) (w:World) (hi:i<n) (hm:0<m) (hnc:n≤c) (hroom:c<n+m) (hbig:(n+m) * 24≤140737488355328)
  (hcl:cs.length=n * 2) (hvl:vs.length=m * 2)
  (hcs:∀ j v,cs[j]? = some v→w.cell? ⟨b,j,none⟩=some v)
  (hvs:∀ j v,vs[j]? = some v→w.cell? ⟨vb,j,none⟩=some v) (h1c:∀ v ∈ cs,v.oneCell' = true) (h1v:∀ v ∈ vs,v.oneCell' = true) :
  Calls Tryz.prog 122 #[.slice (some ⟨b,0,none⟩) n c,.int .i64 i,.slice (some ⟨vb,0,none⟩) m vc] w fun e w' =>
   e = .returned (.slice (some ⟨w.heap.size,0,none⟩) (n+m) (grownCap w (n+m) c 64)) ∧
   w' = (((w.alloc (.cells ((cs.take (i * 2)).toArray ++ Builtin.zeroCells (Value.agg #[.string ⟨#[]⟩,.int .u64 0]).cells (n+m-i) ++ Builtin.zeroCells (Value.agg #[.string ⟨#[]⟩,.int .u64 0]).cells (grownCap w (n+m) c 64-(n+m))) 64)).drew.setCells w.heap.size (i * 2) vs).drew).setCells w.heap.size ((i+m) * 2) (cs.drop (i * 2)) := by
 obtain ⟨i0,hi0,hz0,hzs,hzb⟩ := info_parts iEC
 have mixed:Tryz.prog.follows .mixedOrders=true := by kernel_rfl
 have hz1:¬ ((m:Int)=0) := by omega
 have hz2:¬ ((i:Int)=(n:Int)) := by omega
 have hz3:(c:Int)<(n:Int)+(m:Int) := by omega
 have hsz:(Tryz.prog.info? 64).map (·.size)=some 2 := by rw [hi0]; simp [hzs]
 have hbw:b<w.heap.size := block_lt_of_cell (hcs 0 _ (List.getElem?_eq_getElem (by omega)))
 have hvw:vb<w.heap.size := block_lt_of_cell (hvs 0 _ (List.getElem?_eq_getElem (by omega)))
 have hkk:(n:Int)+(m:Int)-(i:Int)=((n+m-i:Nat):Int) := by omega
 have hik:i+(n+m-i)=n+m := by omega
 have hold:(Builtin.firstCells i0.size i (.slice (some ⟨b,0,none⟩) i c)).run Tryz.prog w.drew = .ok (cs.take (i * 2)).toArray w.drew := by
  rw [hzs]
  exact run_firstCells_some w.drew 2 i ⟨b,0,none⟩ i c (cs.take (i * 2)) (by rw [List.length_take]; omega) (fun j v hj=>by
   rw [Addr.add_lit,Nat.zero_add]
   rw [List.getElem?_take] at hj
   split at hj
   ·exact hcs j v hj
   ·cases hj)
 have hrz:∀ ty,(Builtin.append_ #[27,3] ty #[.slice (some ⟨b,0,none⟩) i c,.int .i64 ((n:Int)+(m:Int)-(i:Int))]).run Tryz.prog w =
   .ok (.slice (some ⟨w.heap.size,0,none⟩) (n+m) (grownCap w (n+m) c 64)) (w.drew.alloc (.cells ((cs.take (i * 2)).toArray ++ Builtin.zeroCells (Value.agg #[.string ⟨#[]⟩,.int .u64 0]).cells (n+m-i) ++ Builtin.zeroCells (Value.agg #[.string ⟨#[]⟩,.int .u64 0]).cells (grownCap w (n+m) c 64-(n+m))) 64)) := fun ty=>by
  have h := Lib.run_append_grow_zeros w 27 3 ty 64 i0 _ .i64 .i64 uSC uIC hi0 hz0 (some ⟨b,0,none⟩) i c (cs.take (i * 2)) hold (n+m-i) (by omega) (by omega) (by omega) (by omega) (by rw [hzb]; omega) (by rw [hzb,hik]; exact growslice_fits hroom hbig)
  rw [hik] at h
  rw [hkk]
  exact h
 obtain ⟨G,hG⟩:∃ G,G=grownCap w (n+m) c 64 := ⟨_,rfl⟩
 obtain ⟨ROW,hROW⟩:∃ ROW:Array Value,ROW=(cs.take (i * 2)).toArray ++ Builtin.zeroCells (Value.agg #[.string ⟨#[]⟩,.int .u64 0]).cells (n+m-i) ++ Builtin.zeroCells (Value.agg #[.string ⟨#[]⟩,.int .u64 0]).cells (G-(n+m)) := ⟨_,rfl⟩
 rw [← hG] at hrz ⊢
 rw [← hROW] at hrz ⊢
 have hRl:(n+m) * 2≤ROW.size := by
  rw [hROW]
  simp [Builtin.zeroCells,zcC]
  omega
 obtain ⟨W1,hW1⟩:∃ W1,W1=w.drew.alloc (.cells ROW 64) := ⟨_,rfl⟩
 rw [← hW1] at hrz
 have hN:∀ j,j<(n+m) * 2→(W1.cell? ⟨w.heap.size,j,none⟩).isSome=true := fun j hj=>by
  rw [hW1,World.cell?_alloc_at (w := w.drew) ROW _ w.heap.size j rfl,Array.getElem?_eq_getElem (by omega)]; rfl
 have hNf:∀ j,W1.frozen? ⟨w.heap.size,j,none⟩=false := fun j=>by rw [hW1]; exact World.frozen?_alloc_at (w := w.drew) ROW _ w.heap.size j rfl
 have hOb:∀ j v,w.cell? ⟨b,j,none⟩=some v→W1.cell? ⟨b,j,none⟩=some v := fun j v h=>by rw [hW1,World.cell?_alloc_past (w := w.drew) _ b j hbw]; exact h
 have hOv:∀ j v,w.cell? ⟨vb,j,none⟩=some v→W1.cell? ⟨vb,j,none⟩=some v := fun j v h=>by rw [hW1,World.cell?_alloc_past (w := w.drew) _ vb j hvw]; exact h
 have hcpA:∀ (W:World),(∀ x,W.cell? x=W1.cell? x)→(∀ x,W.frozen? x=W1.frozen? x) → ∀ ty dc,(Builtin.copy_ #[27,27] ty #[.slice (some ⟨w.heap.size,i * 2,none⟩) (n+m-i) dc,.slice (some ⟨vb,0,none⟩) m vc]).run Tryz.prog W = .ok (goInt (Nat.min m (n+m-i))) (W.setCells w.heap.size (i * 2) vs) := fun W hWc hWf ty dc =>
  Q7p W _ _ ty 64 w.heap.size (i * 2) (n+m-i) dc ⟨vb,0,none⟩ m vc vs uSC hsz (by rw [hvl]; simp only [Nat.min_def]; split <;> omega)
   (fun j v hj=>by rw [Addr.add_lit,hWc,Nat.zero_add]; exact hOv _ v (hvs j v hj))
   (fun j hj=>by rw [hWc]; exact hN _ (by omega)) (fun j hj=>by rw [hWf]; exact hNf _) h1v
 have hGn:n+m≤G := by rw [hG]; exact grownCap_ge w _ _ _
 have hG63:G≤9223372036854775807 := by
  have := grownCap_le_maxLen w (n+m) c 64 (by unfold maxLen; omega)
  rw [← hG] at this
  unfold maxLen at this
  omega
 have hGi:¬ (G=i) := by omega
 have hGim:¬ (G=i+m) := by omega
 have hci:¬ (c=i) := by omega
 have hbN:b ≠ w.heap.size := by omega
 have hdl:(cs.drop (i * 2)).length=(n-i) * 2 := by rw [List.length_drop,hcl]; omega
 have hcpB:∀ (W:World),(∀ x,W.cell? x=(W1.setCells w.heap.size (i * 2) vs).cell? x)→(∀ x,W.frozen? x=(W1.setCells w.heap.size (i * 2) vs).frozen? x) → ∀ ty dc sc,(Builtin.copy_ #[27,27] ty #[.slice (some ⟨w.heap.size,(i+m) * 2,none⟩) (n+m-(i+m)) dc,.slice (some ⟨b,i * 2,none⟩) (n-i) sc]).run Tryz.prog W = .ok (goInt (Nat.min (n-i) (n+m-(i+m)))) (W.setCells w.heap.size ((i+m) * 2) (cs.drop (i * 2))) := fun W hWc hWf ty dc sc =>
  Q7p W _ _ ty 64 w.heap.size ((i+m) * 2) (n+m-(i+m)) dc ⟨b,i * 2,none⟩ (n-i) sc (cs.drop (i * 2)) uSC hsz (by rw [hdl]; simp only [Nat.min_def]; split <;> omega)
   (fun j v hj=>by
    rw [Addr.add_lit,hWc,World.cell?_setCells_out _ _ _ _ _ (fun h _=>absurd h hbN)]
    exact hOb _ v (hcs (i * 2+j) v (by rwa [List.getElem?_drop] at hj)))
   (fun j hj=>by rw [hWc]; exact isSome_setCells _ _ _ _ (fun t ht=>hN _ (by omega)) _ (hN _ (by omega)))
   (fun j hj=>by rw [hWf,World.frozen?_setCells]; exact hNf _) (fun v hv=>h1c v (List.mem_of_mem_drop hv))
 subst hW1
 have hE1:∀ x,((w.alloc (.cells ROW 64)).drew).cell? x=(w.drew.alloc (.cells ROW 64)).cell? x := fun x=>rfl
 have hE2:∀ x,((w.alloc (.cells ROW 64)).drew).frozen? x=(w.drew.alloc (.cells ROW 64)).frozen? x := fun x=>rfl
 have hF1:∀ x,(((w.alloc (.cells ROW 64)).drew.setCells w.heap.size (i * 2) vs).drew).cell? x=((w.drew.alloc (.cells ROW 64)).setCells w.heap.size (i * 2) vs).cell? x := fun x=>rfl
 have hF2:∀ x,(((w.alloc (.cells ROW 64)).drew.setCells w.heap.size (i * 2) vs).drew).frozen? x=((w.drew.alloc (.cells ROW 64)).setCells w.heap.size (i * 2) vs).frozen? x := fun x=>rfl
 have hw1:IntKind.i64.wrap ((i:Int)+(m:Int))=(i:Int)+(m:Int) := by rw [IntKind.wrap_i64]; omega
 have hb1:(0:Int)≤(i:Int)+(m:Int) := by omega
 have hin:i≤n := by omega
 have htn:((i:Int)+(m:Int)).toNat=i+m := by omega
 have hb3:(i:Int)≤(n:Int) := by omega
 clear hkk hik hold hROW hG hRl
 go_enter Tryz.func122,Tryz.ntmps122
 go_wp2_with (first
  | (at_builtin; refine Lib.wpList_append_run _ rfl _ _ _ _ rfl _ _ rfl rfl _ _ (hrz _) ?_)
  | (at_builtin; refine wpList_copy_runI _ rfl _ _ 27 27 rfl _ _ rfl rfl (hcpA _ hE1 hE2 _ _) ?_)
  | (at_builtin; refine wpList_copy_runI _ rfl _ _ 27 27 rfl _ _ rfl rfl (hcpB _ (fun _=>rfl) (fun _=>rfl) _ _ _) ?_))
 go_region_law_o (refine step_copy_runI rfl _ _ 27 27 rfl (.slice (some ⟨w.heap.size,(i+m) * 2,none⟩) (n+m-(i+m)) (G-(i+m))) (.slice (some ⟨b,i * 2,none⟩) (n-i) (c-i)) (by simp [Act.eval,Act.put]) (by simp [Act.eval,Act.put]) (hcpB _ hF1 hF2 3 (G-(i+m)) (c-i)) ?_)
 go_wp2
 go_ret
 exact ⟨rfl,rfl⟩
end
section
open Go.RowKit Go.Shelf
theorem K9e:Enters Tryz.prog 122 := ⟨_,Tryz.func122,by kernel_rfl,by kernel_rfl⟩
theorem K9f {vs:Array Value} (h:vs.size=3):vs = #[vs.getD 0 undef,vs.getD 1 undef,vs.getD 2 undef] := by
 apply Array.ext
 ·simpa using h
 ·intro i hi1 hi2
  have hi:i<3 := by omega
  rcases i with _ | _ | _ | i
  ·simp [Array.getD_eq_getD_getElem?,hi1]
  ·simp [Array.getD_eq_getD_getElem?,hi1]
  ·simp [Array.getD_eq_getD_getElem?,hi1]
  ·omega
theorem K9g {o1 o2:Ob} {k:Nat} {o':Ob} (h:lol [o1,o2] k=some o'):(k=0∧o' = o1) ∨ (k=1∧o' = o2) := by
 rcases k with _ | _ | k
 ·exact .inl ⟨rfl,(Option.some.inj h).symm⟩
 ·exact .inr ⟨rfl,(Option.some.inj h).symm⟩
 ·simp [lol] at h
theorem Q5n {o1 o2 o3:Ob} {k:Nat} {o':Ob} (h:lol ([o1,o2] ++ [o3]) k=some o'):(k=0∧o' = o1) ∨ (k=1∧o' = o2) ∨ (k=2∧o' = o3) := by
 rcases k with _ | _ | _ | k
 ·exact .inl ⟨rfl,(Option.some.inj h).symm⟩
 ·exact .inr (.inl ⟨rfl,(Option.some.inj h).symm⟩)
 ·exact .inr (.inr ⟨rfl,(Option.some.inj h).symm⟩)
 ·simp [lol] at h
def vcC:Nat→(ByteArray×Int)→Value
 | 0,x => .string x.1
 | _,x => .int .u64 x.2
theorem X6g (j:Nat) (x:(ByteArray×Int)):(vcC j x).oneCell' = true := by
 rcases j with _ | _ | j <;> rfl
abbrev dfC:(ByteArray×Int) := dflt (.pair .str (.int .u64))
def cellsC (l:List ((ByteArray×Int))) (q:Nat):Value := vcC (q % 2) (l.getD (q / 2) dfC)
theorem relC {ok:Sees} {w:World} (l:List ((ByteArray×Int))) (i:Nat):∀ j,j<2→(rowsT (.pair .str (.int .u64)) l i j).rel ok w (vcC j (l.getD i dfC)) ∧ ∀ x,(rowsT (.pair .str (.int .u64)) l i j).rel ok w x→x=vcC j (l.getD i dfC) := fun j hj=>by
 rcases j with _ | _ | j
 all_goals first | exact ⟨rfl,fun x hx=>hx⟩ | omega
def encC (l:List ((ByteArray×Int))):List Value := (List.range (l.length * 2)).map (cellsC l)
theorem Q0t (l:List ((ByteArray×Int))):(encC l).length=l.length * 2 := by simp [encC]
theorem Q3c (l:List ((ByteArray×Int))) (q:Nat) (h:q<l.length * 2):(encC l).getD q undef=cellsC l q := by
 rw [List.getD_eq_getElem?_getD,encC,List.getElem?_map,List.getElem?_range h]; rfl
theorem K9h (l:List ((ByteArray×Int))) (q:Nat) (x:Value) (h:(encC l)[q]? = some x):q<l.length * 2∧x=cellsC l q := by
 have hq:q<l.length * 2 := by rw [← Q0t l]; exact (List.getElem?_eq_some_iff.1 h).1
 refine ⟨hq,?_⟩
 rw [encC,List.getElem?_map,List.getElem?_range hq] at h
 exact (Option.some.inj h).symm
theorem Q4e (l:List ((ByteArray×Int))):∀ x ∈ encC l,x.oneCell' = true := fun x hx=>by
 obtain ⟨n,_,rfl⟩ := List.mem_map.1 hx
 exact X6g _ _
def insC (l:List ((ByteArray×Int))) (i:Nat) (v:List ((ByteArray×Int))):List ((ByteArray×Int)) := l.take i ++ v ++ l.drop i
theorem K9i (l v:List ((ByteArray×Int))) (i:Nat) (hi:i≤l.length):(insC l i v).length=l.length+v.length := by
 unfold insC
 simp; omega
theorem K9j (l v:List ((ByteArray×Int))) (i:Nat) (hi:i≤l.length) (q:Nat):(insC l i v).getD q dfC=if q<i then l.getD q dfC else if q<i+v.length then v.getD (q-i) dfC else l.getD (q-v.length) dfC := by
 unfold insC
 simp only [List.getD_eq_getElem?_getD]
 by_cases c1:q<i
 ·rw [if_pos c1,List.append_assoc,List.getElem?_append_left (by simp; omega),List.getElem?_take,if_pos c1]
 ·rw [if_neg c1]
  by_cases c2:q<i+v.length
  ·rw [if_pos c2,List.getElem?_append_left (by simp; omega),List.getElem?_append_right (by simp; omega)]
   simp [show min i l.length=i by omega]
  ·rw [if_neg c2,List.getElem?_append_right (by simp; omega),List.getElem?_drop]
   congr 2
   simp; omega
theorem Q7q (l v:List ((ByteArray×Int))) (i:Nat) (hi:i≤l.length) (q:Nat):cellsC (insC l i v) q=if q<i * 2 then cellsC l q else if q<(i+v.length) * 2 then cellsC v (q-i * 2) else cellsC l (q-v.length * 2) := by
 unfold cellsC
 rw [K9j l v i hi]
 by_cases c1:q<i * 2
 ·rw [if_pos c1,if_pos (by omega)]
 ·rw [if_neg c1,if_neg (by omega)]
  by_cases c2:q<(i+v.length) * 2
  ·rw [if_pos c2,if_pos (by omega),show (q-i * 2) % 2=q % 2 by omega,show (q-i * 2) / 2=q / 2-i by omega]
  ·rw [if_neg c2,if_neg (by omega),show (q-v.length * 2) % 2=q % 2 by omega,show (q-v.length * 2) / 2=q / 2-v.length by omega]
abbrev roC (e:TypeId) (l:List ((ByteArray×Int))):Ob := .arr .own e 2 0 l.length (rowsT (.pair .str (.int .u64)) l)
theorem Q7r {ok:Sees} {ρ:Pl} {w w':World} {e:TypeId} {l v l':List ((ByteArray×Int))} {g c:Nat} {cs:Array Value} {x:Value}
  (hx:x = .slice (some ⟨g,0,none⟩) l'.length c) (hcs:cs.size=c * 2) (hc:l'.length≤c) (hmax:c≤maxLen)
  (hat:w'.heap[g]? = some (.cells cs e (0,0))) (hv:∀ q,q<l'.length * 2→cs.getD q undef=cellsC l' q)
  (hpo:ρ 0=some g ∨ w.heap.size≤g)
  (hne:∀ j,j<w.heap.size→ρ 0 ≠ some j→w'.heap[j]? = w.heap[j]?) (hz:w.heap.size≤w'.heap.size) (hos:w'.os=w.os) (ht:w'.tape=w.tape) (ho:w'.output=w.output) :
  ∃ ρ' y,Ending.returned x = .returned y∧([Ob.gone 1,Ob.gone 1]:List Ob).length=([roC e l,roC e v]:List Ob).length ∧
   (V.buf 2 0 0 l'.length).rel (Env.b ⟨w,ρ,lol [roC e l,roC e v],ok,nobody⟩) ρ' (lol ([.gone 1,.gone 1] ++ [roC e l'])) w' y ∧
   (∀ k o,lol ([.gone 1,.gone 1] ++ [roC e l']) k=some o→o.rel (Env.b ⟨w,ρ,lol [roC e l,roC e v],ok,nobody⟩) ρ' (lol ([.gone 1,.gone 1] ++ [roC e l'])) w' (ρ' k)) ∧
   (∀ k o g,lol ([.gone 1,.gone 1] ++ [roC e l']) k=some o→o.live=true→ρ' k=some g→(w.heap.size≤g ∨ own ρ (lol [roC e l,roC e v]) g)∧g<w'.heap.size) ∧
   (∀ k k' o o' g,lol ([.gone 1,.gone 1] ++ [roC e l']) k=some o→lol ([.gone 1,.gone 1] ++ [roC e l']) k' = some o' → o.live=true→o'.live=true→ρ' k=some g→ρ' k' = some g→k=k') ∧
   Ext ρ (lol [roC e l,roC e v]) w ρ' (lol ([.gone 1,.gone 1] ++ [roC e l'])) w' ∧ w.heap.size≤w'.heap.size∧w'.os=w.os∧w'.tape=w.tape∧w'.output=w.output := by
 have ownG:∀ {g:Nat},ρ 0=some g→own ρ (lol [roC e l,roC e v]) g := fun h=>⟨0,_,rfl,rfl,h⟩
 have own2:∀ {j:Nat},own (fun k=>if k=2 then some g else ρ k) (lol ([.gone 1,.gone 1] ++ [roC e l'])) j→j=g := fun ⟨id,o,a1,a2,a3⟩=>by
  rcases Q5n a1 with ⟨rfl,rfl⟩ | ⟨rfl,rfl⟩ | ⟨rfl,rfl⟩
  ·cases a2
  ·cases a2
  ·exact (Option.some.inj a3).symm
 have hglt:g<w'.heap.size := (Array.getElem?_eq_some_iff.1 hat).1
 refine ⟨fun k=>if k=2 then some g else ρ k,x,rfl,rfl,?_,fun k o hk => ?_,fun k o g' hk hl hg => ?_,fun k k' o o' g hk hk' h1 h2 _ _ => ?_,⟨fun j hj hno => ?_,fun j k hj hno => ?_,fun id o hid => ?_⟩,hz,hos,ht,ho⟩
 ·exact ⟨_,_,_,hx,hc,rfl,Nat.le_refl _,fun _=>⟨_,_,_,_,_,rfl,by omega,.inr ⟨g,cs,rfl,fun _=>by simp,hat,by omega⟩⟩⟩
 ·rcases Q5n hk with ⟨rfl,rfl⟩ | ⟨rfl,rfl⟩ | ⟨rfl,rfl⟩
  ·trivial
  ·trivial
  ·refine .inr ⟨g,cs,c,rfl,hat,hcs,hc,⟨hmax,nofun⟩,fun i j hi hj => ?_⟩
   have e1:(i * 2+j) % 2=j := by omega
   have e2:(i * 2+j) / 2=i := by omega
   rw [hv (i * 2+j) (by omega)]
   unfold cellsC
   rw [e1,e2]
   exact ⟨X6g _ _,(relC l' i j hj).1⟩
 ·rcases Q5n hk with ⟨rfl,rfl⟩ | ⟨rfl,rfl⟩ | ⟨rfl,rfl⟩
  ·cases hl
  ·cases hl
  ·have hg:some g=some g' := hg
   cases hg
   exact ⟨hpo.elim (fun h => .inr (ownG h)) .inl,hglt⟩
 ·rcases Q5n hk with ⟨rfl,rfl⟩ | ⟨rfl,rfl⟩ | ⟨rfl,rfl⟩
  ·cases h1
  ·cases h1
  ·rcases Q5n hk' with ⟨rfl,rfl⟩ | ⟨rfl,rfl⟩ | ⟨rfl,rfl⟩
   ·cases h2
   ·cases h2
   ·rfl
 ·refine ⟨hne j hj fun hq=>hno (ownG hq),fun k => ?_⟩
  have := own2 k
  subst this
  rcases hpo with h | h
  ·exact hno (ownG h)
  ·omega
 ·have hq:ρ 0 ≠ some j := fun hq=>hno ⟨0,_,rfl,rfl,hq,Nat.zero_le _⟩
  refine ⟨Q2n (hne j hj hq),fun k => ?_⟩
  have := own2 (Q1k k)
  subst this
  rcases hpo with h | h
  ·exact hq h
  ·omega
 ·rcases K9g hid with ⟨rfl,rfl⟩ | ⟨rfl,rfl⟩
  ·exact ⟨.gone 1,rfl,Nat.zero_le _,fun hv=>by cases hv⟩
  ·exact ⟨.gone 1,rfl,Nat.zero_le _,fun hv=>by cases hv⟩
theorem Q4f (g:Nat) (e:TypeId):∀ (vs:List Value) (o:Nat) (w:World) (cs:Array Value),w.heap[g]? = some (.cells cs e (0,0)) →
  (∃ cs':Array Value,(w.setCells g o vs).heap[g]? = some (.cells cs' e (0,0))∧cs'.size=cs.size ∧ ∀ q,q<cs.size→cs'.getD q undef=if o≤q∧q<o+vs.length then vs.getD (q-o) undef else cs.getD q undef) ∧
  (∀ j,j ≠ g→(w.setCells g o vs).heap[j]? = w.heap[j]?)∧(w.setCells g o vs).heap.size=w.heap.size∧(w.setCells g o vs).os=w.os∧(w.setCells g o vs).tape=w.tape∧(w.setCells g o vs).output=w.output
 | [],o,w,cs,h=>⟨⟨cs,h,rfl,fun q _=>by rw [if_neg (by simp)]⟩,fun _ _=>rfl,rfl,rfl,rfl,rfl⟩
 | v :: vs,o,w,cs,h=>by
  have h1:(w.setCell ⟨g,o,none⟩ v).heap[g]? = some (.cells (cs.setIfInBounds o v) e (0,0)) := by
   show (w.heap.modify g _)[g]? = _
   rw [Array.getElem?_modify,if_pos rfl,h]
   rfl
  obtain ⟨⟨cs',a1,a2,a3⟩,b1,b2,b3,b4,b5⟩ := Q4f g e vs (o+1) (w.setCell ⟨g,o,none⟩ v) _ h1
  refine ⟨⟨cs',a1,by rw [a2]; simp,fun q hq => ?_⟩,fun j hj => ?_,by rw [World.setCells,b2]; show (w.heap.modify g _).size=_; simp,by rw [World.setCells,b3]; rfl,by rw [World.setCells,b4]; rfl,by rw [World.setCells,b5]; rfl⟩
  ·rw [a3 q (by simpa using hq)]
   simp only [List.length_cons]
   by_cases c1:q=o
   ·subst c1
    rw [if_neg (by omega),if_pos (by omega),Nat.sub_self]
    simp [Array.getD_eq_getD_getElem?,hq]
   ·by_cases c2:o+1≤q∧q<o+1+vs.length
    ·rw [if_pos c2,if_pos (by omega),show q-o=q-(o+1)+1 by omega]
     simp
    ·rw [if_neg c2,if_neg (by omega)]
     simp [Array.getD_eq_getD_getElem?,Ne.symm c1]
  ·rw [World.setCells,b1 j hj]
   show (w.heap.modify g _)[j]? = _
   rw [Array.getElem?_modify,if_neg (Ne.symm hj)]
theorem Q7s {b:Sees} {ρ:Pl} {O:Ow} {w:World} {e:TypeId} {l:List ((ByteArray×Int))} {g:Nat} {cs:Array Value} (hr:(roC e l).rel b ρ O w (some g)) (hh:w.heap[g]? = some (.cells cs e (0,0))) :
  l.length * 2≤cs.size∧cs.size≤maxLen * 2 ∧ ∀ q,q<l.length * 2→cs.getD q undef=cellsC l q := by
 rcases hr with ⟨q1,_⟩ | ⟨g',cs',cap,q1,q2,q3,q4,q5,q6⟩
 ·cases q1
 ·cases q1
  rw [hh] at q2; cases q2
  have h1:cs.size=cap * 2 := q3
  have h2:l.length≤cap := q4
  have h3:cap≤maxLen := q5.1
  refine ⟨by omega,by omega,fun q hq => ?_⟩
  have := (q6 (q / 2) (q % 2) (by omega) (Nat.mod_lt _ (by decide))).2
  rw [show q / 2 * 2+q % 2=q by omega] at this
  exact (relC l (q / 2) (q % 2) (Nat.mod_lt _ (by decide))).2 _ this
theorem Q7t {w:World} {g:Nat} {e:TypeId} {l:List ((ByteArray×Int))} {cs:Array Value} (hh:w.heap[g]? = some (.cells cs e (0,0))) (h1:l.length * 2≤cs.size) (h2:∀ q,q<l.length * 2→cs.getD q undef=cellsC l q) (j:Nat) (x:Value) (hx:(encC l)[j]? = some x):w.cell? ⟨g,j,none⟩=some x := by
 obtain ⟨hj,rfl⟩ := K9h l j x hx
 rw [cell_of_row w g j cs e (0,0) hh,getD_some (by omega),h2 j hj]
theorem Q7u (n:Nat):(Builtin.zeroCells (Value.agg #[.string ⟨#[]⟩,.int .u64 0]).cells n).size=n * 2 := by
 simp [Builtin.zeroCells,zcC]
theorem K9k (l v:List ((ByteArray×Int))) (i:Nat) (hi:i≤l.length) (hv:0<v.length) (hb:(l.length+v.length) * 24≤140737488355328) :
  FC Tryz.prog 122 [roC 64 l,roC 64 v] [.buf 0 0 0 l.length,.im (.val (.int .i64 i)),.buf 1 0 0 v.length] ⟨[.gone 1,.gone 1],[roC 64 (insC l i v)],.buf 2 0 0 (insC l i v).length⟩ := by
 refine ⟨K9e,fun ok ρ w vs _ hgl h1 h2 h3 h4 h5 => ?_⟩
 have hlen := K9i l v i hi
 have hml:maxLen=9223372036854775807 := rfl
 -- what came in
 obtain ⟨A,c,o,k0,k1,k2,-,k3⟩ := h5 0 _ rfl
 obtain rfl:o=roC 64 l := (Option.some.inj k2).symm
 obtain ⟨_,_,_,_,_,ho,_,hp⟩ := k3 rfl
 clear k3
 cases ho
 have j0:vs.getD 1 undef = .int .i64 i := h5 1 _ rfl
 obtain ⟨B,vc,o,m0,m1,m2,-,m3⟩ := h5 2 _ rfl
 obtain rfl:o=roC 64 v := (Option.some.inj m2).symm
 obtain ⟨_,_,_,_,_,ho,_,hq⟩ := m3 rfl
 clear m3
 cases ho
 rcases hq with ⟨_,_,rfl,_⟩ | ⟨vb,vcs,q1,q2,q3,q4⟩
 ·omega
 have hB := q2 (.inr rfl)
 rw [Nat.zero_mul] at hB
 subst hB
 have hv1 := h1 1 _ rfl
 rw [q1] at hv1
 obtain ⟨v1,-,v3⟩ := Q7s hv1 q3
 have hvs := Q7t q3 v1 v3
 rw [K9f h4,k0,j0,m0]
 by_cases hroom:l.length+v.length≤c
 ·-- in its place
  rcases hp with ⟨_,_,rfl,_⟩ | ⟨g,cs,p1,p2,p3,p4⟩
  ·omega
  have hA := p2 (.inr rfl)
  rw [Nat.zero_mul] at hA
  subst hA
  have hl1 := h1 0 _ rfl
  rw [p1] at hl1
  obtain ⟨u1,u2,u3⟩ := Q7s hl1 p3
  have hc:cs.size=c * 2 := by rw [← p4,Nat.zero_add]
  have hvb:vb ≠ g := fun e=>by
   have := h3 0 1 _ _ g rfl rfl rfl rfl p1 (by rw [q1,e])
   cases this
  have hglt:g<w.heap.size := (Array.getElem?_eq_some_iff.1 p3).1
  have hsp:∀ j,j<cs.size→(w.cell? ⟨g,j,none⟩).isSome=true := fun j hj=>by
   rw [cell_of_row w g j cs 64 (0,0) p3,getD_some hj]; rfl
  have hfz:∀ j,w.frozen? ⟨g,j,none⟩=false := fun j=>by simp [World.frozen?,p3]
  have hcm:c≤maxLen := by omega
  by_cases hend:i=l.length
  ·subst hend
   refine (K9b g l.length c vb v.length vc (encC v) w hv hroom (by omega) (Q0t v) (fun j hj=>hsp _ (by omega)) (fun j _=>hfz _) hvs (Q4e v)).mono ?_
   rintro e' w' ⟨rfl,rfl⟩
   obtain ⟨⟨cs',a1,a2,a3⟩,b1,b2,b3,b4,b5⟩ := Q4f g 64 (encC v) (0+l.length * 2) w cs p3
   refine Q7r (g := g) (cs := cs') (c := c) (by rw [hlen]) (by rw [a2,hc]) (by omega) hcm a1 (fun q hq => ?_) (.inl p1) (fun j hj hn=>b1 j fun e=>hn (by rw [p1,e])) (by omega) b3 b4 b5
   rw [a3 q (by omega),Q7q l v _ hi]
   simp only [Q0t,Nat.zero_add]
   by_cases c1:q<l.length * 2
   ·rw [if_pos c1,if_neg (by omega),u3 q c1]
   ·rw [if_neg c1,if_pos (by omega),if_pos (by omega),Q3c v _ (by omega)]
  ·refine (K9a g l.length c i vb v.length vc (encC l) (encC v) w (by omega) hv hroom (by omega) hvb (Q0t l) (Q0t v)
    (Q7t p3 u1 u3) (fun j hj=>hsp _ (by omega)) (fun j _=>hfz _) hvs (Q4e l) (Q4e v) 64 64 vcs.size cs.size (by simp [World.shape?,q3]) (by simp [World.shape?,p3]) (by omega) (by simp [World.frozen?,q3]) (by simp [World.frozen?,q3])).mono ?_
   rintro e' w' ⟨rfl,rfl⟩
   obtain ⟨⟨cs1,a1,a2,a3⟩,b1,b2,b3,b4,b5⟩ := Q4f g 64 ((encC l).drop (i * 2)) ((i+v.length) * 2) w.drew cs p3
   obtain ⟨⟨cs2,d1,d2,d3⟩,e1,e2,e3,e4,e5⟩ := Q4f g 64 (encC v) (i * 2) _ cs1 a1
   refine Q7r (g := g) (cs := cs2) (c := c) (by rw [hlen]) (by rw [d2,a2,hc]) (by omega) hcm d1 (fun q hq => ?_) (.inl p1) (fun j hj hn => ?_) (by rw [e2,b2]; exact Nat.le_refl _) (by rw [e3,b3]; rfl) (by rw [e4,b4]; rfl) (by rw [e5,b5]; rfl)
   ·rw [d3 q (by omega),Q7q l v _ hi]
    simp only [Q0t]
    by_cases c1:q<i * 2
    ·rw [if_pos c1,if_neg (by omega),a3 q (by omega),if_neg (by omega),u3 q (by omega)]
    ·rw [if_neg c1]
     by_cases c2:q<(i+v.length) * 2
     ·rw [if_pos c2,if_pos (by omega),Q3c v _ (by omega)]
     ·rw [if_neg c2,if_neg (by omega),a3 q (by omega),if_pos (by rw [List.length_drop,Q0t]; omega),List.getD_eq_getElem?_getD,List.getElem?_drop,← List.getD_eq_getElem?_getD,Q3c l _ (by omega)]
      congr 1; omega
   ·have hjg:j ≠ g := fun e=>hn (by rw [p1,e])
    rw [e1 j hjg,b1 j hjg]
    rfl
 ·-- in new memory
  have hnone:A=none→l.length=0 := fun hA=>by
   rcases hp with ⟨_,_,rfl,_⟩ | ⟨g,cs,p1,p2,p3,p4⟩
   ·omega
   ·have := p2 (.inr rfl); rw [hA] at this; cases this
  have hcells:∀ a,A=some a → ∃ g cs,a=⟨g,0,none⟩∧w.heap[g]? = some (.cells cs 64 (0,0))∧l.length * 2≤cs.size ∧ ∀ j,j<l.length * 2→cs.getD j undef=cellsC l j := fun a ha=>by
   rcases hp with ⟨_,hA,_,_⟩ | ⟨g,cs,p1,p2,p3,p4⟩
   ·rw [hA] at ha; cases ha
   ·have hA := p2 (.inr rfl)
    rw [Nat.zero_mul,ha] at hA
    cases hA
    have hl1 := h1 0 _ rfl
    rw [p1] at hl1
    obtain ⟨u1,u2,u3⟩ := Q7s hl1 p3
    exact ⟨g,cs,rfl,p3,u1,u3⟩
  generalize hgc:grownCap w (l.length+v.length) c 64=gc at *
  have hg1:l.length+v.length≤gc := by rw [← hgc]; exact grownCap_ge _ _ _ _
  have hg2:gc≤maxLen := by rw [← hgc]; exact grownCap_le_maxLen _ _ _ _ (by omega)
  by_cases hend:i=l.length
  ·subst hend
   refine (K9c A l.length c vb v.length vc (encC l) (encC v) w hv k1 (by omega) hb (Q0t l) (Q0t v) hnone (fun a ha j x hx => ?_) hvs (Q4e v)).mono ?_
   ·obtain ⟨g,cs,rfl,p3,u1,u3⟩ := hcells a ha
    have := Q7t p3 u1 u3 j x hx
    cases j <;> simpa [Addr.add] using this
   rintro e' w' ⟨rfl,rfl⟩
   rw [hgc]
   generalize hcs:((encC l ++ encC v).toArray ++ Builtin.zeroCells (Value.agg #[.string ⟨#[]⟩,.int .u64 0]).cells (gc-(l.length+v.length)))=cs
   have hsz:cs.size=gc * 2 := by rw [← hcs,Array.size_append,Q7u,List.size_toArray,List.length_append,Q0t,Q0t]; omega
   refine Q7r (g := w.heap.size) (cs := cs) (c := gc) (by rw [hlen]) hsz (by omega) (by omega) ?_ (fun q hq => ?_) (.inr (Nat.le_refl _)) (fun j hj _ => ?_) ?_ rfl rfl rfl
   ·show (w.heap.push _)[w.heap.size]? = _
    first | (rw [Array.getElem?_push_size]; done) | (rw [Array.getElem?_push_size]; rfl)
   ·rw [hlen] at hq
    rw [← hcs,Q7q l v _ hi,Array.getD_eq_getD_getElem?,Array.getElem?_append_left (by rw [List.size_toArray,List.length_append,Q0t,Q0t]; omega)]
    simp only [List.getElem?_toArray]
    by_cases c1:q<l.length * 2
    ·rw [if_pos c1,List.getElem?_append_left (by rw [Q0t]; exact c1),← List.getD_eq_getElem?_getD,Q3c l _ c1]
    ·rw [if_neg c1,if_pos (by omega),List.getElem?_append_right (by rw [Q0t]; omega),← List.getD_eq_getElem?_getD,Q0t,Q3c v _ (by omega)]
   ·show (w.heap.push _)[j]? = _
    rw [Array.getElem?_push,if_neg (by omega)]
   ·show _≤(w.heap.push _).size
    simp
  ·rcases hp with ⟨_,_,rfl,_⟩ | ⟨g,cs0,p1,p2,p3,p4⟩
   ·omega
   have hA := p2 (.inr rfl)
   rw [Nat.zero_mul] at hA
   subst hA
   have hl1 := h1 0 _ rfl
   rw [p1] at hl1
   obtain ⟨u1,u2,u3⟩ := Q7s hl1 p3
   refine (K9d g l.length c i vb v.length vc (encC l) (encC v) w (by omega) hv k1 (by omega) hb (Q0t l) (Q0t v) (Q7t p3 u1 u3) hvs (Q4e l) (Q4e v)).mono ?_
   rintro e' w' ⟨rfl,rfl⟩
   rw [hgc]
   generalize hcs:((((encC l).take (i * 2)).toArray ++ Builtin.zeroCells (Value.agg #[.string ⟨#[]⟩,.int .u64 0]).cells (l.length+v.length-i) ++ Builtin.zeroCells (Value.agg #[.string ⟨#[]⟩,.int .u64 0]).cells (gc-(l.length+v.length))))=cs
   have htk:((encC l).take (i * 2)).length=i * 2 := by rw [List.length_take,Q0t]; omega
   have hsz:cs.size=gc * 2 := by rw [← hcs,Array.size_append,Array.size_append,Q7u,Q7u,List.size_toArray,htk]; omega
   have hat:(w.alloc (.cells cs 64)).drew.heap[w.heap.size]? = some (.cells cs 64 (0,0)) := by
    show (w.heap.push _)[w.heap.size]? = _
    first | (rw [Array.getElem?_push_size]; done) | (rw [Array.getElem?_push_size]; rfl)
   obtain ⟨⟨cs1,a1,a2,a3⟩,b1,b2,b3,b4,b5⟩ := Q4f w.heap.size 64 (encC v) (i * 2) _ cs hat
   obtain ⟨⟨cs2,d1,d2,d3⟩,e1,e2,e3,e4,e5⟩ := Q4f w.heap.size 64 ((encC l).drop (i * 2)) ((i+v.length) * 2) (((w.alloc (.cells cs 64)).drew.setCells w.heap.size (i * 2) (encC v)).drew) cs1 a1
   refine Q7r (g := w.heap.size) (cs := cs2) (c := gc) (by rw [hlen]) (by rw [d2,a2,hsz]) (by omega) (by omega) d1 (fun q hq => ?_) (.inr (Nat.le_refl _)) (fun j hj _ => ?_) ?_ (by rw [e3]; exact b3) (by rw [e4]; exact b4) (by rw [e5]; exact b5)
   ·rw [hlen] at hq
    rw [d3 q (by omega),Q7q l v _ hi]
    simp only [Q0t,List.length_drop]
    by_cases c1:q<i * 2
    ·rw [if_pos c1,if_neg (by omega),a3 q (by omega),if_neg (by omega),← hcs,Array.getD_eq_getD_getElem?,Array.getElem?_append_left (by rw [Array.size_append,Q7u,List.size_toArray,htk]; omega),Array.getElem?_append_left (by rw [List.size_toArray,htk]; omega)]
     simp only [List.getElem?_toArray]
     rw [List.getElem?_take,if_pos c1,← List.getD_eq_getElem?_getD,Q3c l _ (by omega)]
    ·rw [if_neg c1]
     by_cases c2:q<(i+v.length) * 2
     ·rw [if_pos c2,if_neg (by omega),a3 q (by omega),if_pos (by rw [Q0t]; omega),Q3c v _ (by omega)]
     ·rw [if_neg c2,if_pos (by omega),List.getD_eq_getElem?_getD,List.getElem?_drop,← List.getD_eq_getElem?_getD,Q3c l _ (by omega)]
      congr 1; omega
   ·rw [e1 j (by omega)]
    show ((w.alloc _).drew.setCells _ _ _).heap[j]? = _
    rw [b1 j (by omega)]
    show (w.heap.push _)[j]? = _
    rw [Array.getElem?_push,if_neg (by omega)]
   ·rw [e2]
    show _≤((w.alloc _).drew.setCells _ _ _).heap.size
    rw [b2]
    show _≤(w.heap.push _).size
    simp
def pInsertC (_:Nat):List ((ByteArray×Int))×(Int×(List ((ByteArray×Int))×Unit))→Option ((Unit×(Unit×Unit))×List ((ByteArray×Int))) := fun x=>bif decide ((0:Int)≤x.2.1∧Int.toNat x.2.1≤x.1.length∧0<x.2.2.1.length∧(x.1.length+x.2.2.1.length) * 24≤140737488355328) then some (((),(),()),insC x.1 (Int.toNat x.2.1) x.2.2.1) else none
def eInsertC (fu:Nat):Ent := ⟨122,.cons (.own .own 64 (.pair .str (.int .u64))) (.cons (.hole (.int .i64)) (.cons (.own .own 64 (.pair .str (.int .u64))) .nil)),.cons .dead (.cons .dead .nil),.own .own 64 (.pair .str (.int .u64)),pInsertC fu⟩
theorem K9l (fu:Nat):(eInsertC fu).Good Tryz.prog := by
 rintro ⟨(l:List ((ByteArray×Int))),(n:Int),(v:List ((ByteArray×Int))),⟨⟩⟩ ⟨⟨⟩,⟨⟩,⟨⟩⟩ z hp
 have hp':(bif decide ((0:Int)≤n∧Int.toNat n≤List.length l∧0<List.length v∧(List.length l+List.length v) * 24≤140737488355328) then some (((),(),()),insC l (Int.toNat n) v) else none)=some (((),(),()),z) := hp
 have hp' := Q0b hp'
 obtain ⟨-,rfl⟩ := Prod.mk.inj (Option.some.inj hp'.2)
 have hc:(0:Int)≤n∧Int.toNat n≤List.length l∧0<List.length v∧(List.length l+List.length v) * 24≤140737488355328 := of_decide_eq_true hp'.1
 obtain ⟨h0,h1,h2,h3⟩ := hc
 obtain ⟨i,rfl⟩:∃ i:Nat,n=(i:Int) := ⟨Int.toNat n,by have:(Int.toNat n:Int)=n := Int.toNat_of_nonneg h0; exact this.symm⟩
 exact K9k l v i (by simpa using h1) h2 h3
end
end Go.Proofs.YtdkdhcakoccpfaaGreatDoor
