/-
  Proved here: PartfsmDoes returns true for any part and any commands: what a command does to it and answers is what the document says, whatever becomes of what came out; and so is a new part. Conditions: what it is given is of small bulk (2^20 at most in all); a variable holds the error of errors.New that the program laid there.
-/
import Derived.Test.YtdkdhcakoccpfaaGreatDoorUp
import Derived.Test.YtdkdhcakoccpfaaGreatDoorLaw
import Derived.Test.YtdkdhcakoccpfaaGreatDoorTie
import Derived.Test.YtdkdhcakoccpfaaGreatDoorCards
import Derived.LaidLaws
import Derived.LaidHandle
import Derived.OpenShut
import Derived.SevenTiedAt
import Derived.Stop.LaidErr
import Derived.Test.YtdkdhcakoccpfaaGreatDoorDlB
import Derived.Test.YtdkdhcakoccpfaaGreatDoorDaM
import Derived.JoinedCond
namespace Go.Proofs.YtdkdhcakoccpfaaGreatDoor
open Go.ChangeShapes Go.WideShapes Go.ChangeAt Go.RowKit
def laidDone : List (String × DataW Unit) := [("gazette/partfsm.errDone", Rows.laid_gazette_partfsm_errDone)]
def laidBoth : List (String × DataW Unit) := ("errors.errorType", Rows.laid_errors_errorType) :: laidDone
theorem X6b : Tryz.prog.globalNamed "gazette/partfsm.errDone" = some 0 := by kernel_rfl
theorem K7w : Tryz.prog.globalNamed "errors.errorType" = some 1 := by kernel_rfl
theorem K7x:(Tryz.prog.globals[0]?).map (·.type)=some 84 := by kernel_rfl
theorem glRt : (Tryz.prog.cutTypes.find? (·.1 == "internal/reflectlite.rtype")).map (·.2) = some 149 := by kernel_rfl
theorem K7y:((List.range 215).filter fun t=>Tryz.prog.rowNamed t [101,114,114,111,114])=[84] := by kernel_rfl
theorem K7z:Tryz.prog.types.size=215 := by kernel_rfl
theorem K8a:typeHandle Tryz.prog 84 = .pointer (some ⟨3,84,none⟩) := by kernel_rfl
theorem X6c : "*" ++ "errors.errorString" = "*errors.errorString" := by decide
theorem K8b (u : TypeId) (h : Tryz.prog.typeName? 3 u = some "*errors.errorString") : u = 181 :=
 typeName_ptr_named (nm := "errors.errorString") (by rw [X6c]; kernel_rfl) (by kernel_rfl) (by decide) u (by rw [X6c]; exact h)
theorem K8c {W:World} (h:laidMet Tryz.prog laidDone W):∃ a,W.cell? ⟨0,0,none⟩=some (.iface 181 (.pointer (some a))) := by
 obtain ⟨a,s,h1,_⟩ := laid_sentinel (r := []) h X6b K7x Tryz.underlying84 K8b Tryz.underlying181 Tryz.underlying203 rfl rfl Tryz.underlying9 (by kernel_rfl) (by kernel_rfl)
 exact ⟨a,by simpa using World.var?_cell X6b h1 0⟩
theorem K8d {W : World} (h : handlesMet Tryz.prog [("errors.errorType", Rows.laid_errors_errorType)] W) : W.cell? ⟨1, 0, none⟩ = some (.iface 149 (.agg #[.pointer (some ⟨3, 84, none⟩)])) := by
 obtain ⟨name,u,ty,e1,e2,e3,e4,e5⟩ := h _ (List.mem_singleton.2 rfl)
 have en:name=[101,114,114,111,114] := (Option.some.inj e1).symm
 subst en
 obtain rfl := Option.some.inj (glRt.symm.trans e2)
 have hm:ty ∈ (List.range 215).filter fun t=>Tryz.prog.rowNamed t [101,114,114,111,114] := List.mem_filter.2 ⟨List.mem_range.2 (by rw [← K7z]; exact e3),e4⟩
 rw [K7y] at hm
 obtain rfl := List.mem_singleton.1 hm
 rw [K8a] at e5
 simpa using World.var?_cell K7w e5 0
theorem K8e {W:World} (h:laidMetH Tryz.prog laidBoth W):GlW W := by
 have h' : laidMet Tryz.prog laidDone W ∧ handlesMet Tryz.prog [("errors.errorType", Rows.laid_errors_errorType)] W := h
 refine ⟨fun p hp k v hv => ?_,fun p hp => ?_⟩
 ·obtain rfl := List.mem_singleton.1 hp
  match k,hv with
  | 0,hv =>
   rw [K8d h'.2,← hv]
   rfl
  | k+1,hv=>cases hv
 ·obtain rfl := List.mem_singleton.1 hp
  exact K8c h'.1
/-- A world that meets the condition. -/
noncomputable def laidWorld (os:Os):World :=
 let w0 := World.holding Tryz.prog os ⟨#[],#[],[]⟩
 { w0 with heap := ((w0.heap.modify 0 fun
   | .cells _ t frozen => .cells #[.iface 181 (.pointer (some ⟨w0.heap.size,0,none⟩))] t frozen
   | o=>o).modify 1 fun
   | .cells _ t frozen => .cells #[.iface 149 (.agg #[.pointer (some ⟨3,84,none⟩)])] t frozen
   | o=>o).push (.cells #[.string ⟨#[105,116,32,119,97,115,32,100,111,110,101]⟩] 203 (0,0)) }
theorem K8f (os:Os) (args:Array Value):laidMetH Tryz.prog laidBoth ((laidWorld os).forCall (fun _ _=>0) ⟨#[],args,[]⟩).memory :=
 laidMetH_of_parts (laidMet_of_run' 8 (by kernel_rfl) (by kernel_rfl)) (by kernel_rfl)
section
variable {H:Type} {enc:TypeId×Value→H}
theorem K8g {C:Checked} {os:Os} {f:FuncId} {fn:Func} {s:OpenSpec} {k:(H:Type)→List (DataW H)→Bool} (hk:s.cond=some k) {conds:List PathCond} {apart:Bool} {X:World→Prop} (modest:Bool) (w0:World) (args:Array Value) (fuel:Nat) (hos:w0.os=os)
  (hv:(w0.forCall (fun _ _=>0) ⟨#[],args,[]⟩).variablesB C.prog=true)
  (hr:((w0.forCall (fun _ _=>0) ⟨#[],args,[]⟩).heap.toList.drop C.prog.globals.size).take ((begin C.prog (fun _ _=>0) default).world.heap.size-C.prog.globals.size) =
   (begin C.prog (fun _ _=>0) default).world.heap.toList.drop C.prog.globals.size)
  (hok:Input.okWideB C.prog (w0.forCall (fun _ _=>0) ⟨#[],args,[]⟩) f ⟨#[],args,[]⟩=true)
  (hb:(match DataW.whole enc C.prog (w0.forCall (fun _ _=>0) ⟨#[],args,[]⟩).memory fn.params.toList s.vars apart args.toList fuel with
   | some x=>conds.all (PathCond.test C.prog ⟨fn.params.toList,x.1,s.bare.plain.varTypes C.prog,x.2.1⟩) && k H (x.1 ++ x.2.1)
   | none=>false)=true)
  (hsz:s.bare.sizedB enc C.prog fn apart (w0.forCall (fun _ _=>0) ⟨#[],args,[]⟩).memory args fuel=true)
  (hx:X (w0.forCall (fun _ _=>0) ⟨#[],args,[]⟩).memory) :
  ∃ (w:World) (tape:Tape) (i:Input),w.os=os∧(w.forCall tape i).Shaped C.prog∧i.vars=[]∧Input.okWide C.prog (w.forCall tape i) .any w.heap.size f i ∧
   ((s.pre enc C.prog fn conds apart (w.forCall tape i).memory i.args∧X (w.forCall tape i).memory)∧sizedMet enc C.prog fn s apart (w.forCall tape i).memory i.args)∧({ modest := modest }:Assume).holds C.prog (lone (Frame.enter C.prog f i.args .normal) [] (w.forCall tape i)) := by
 cases hx':DataW.whole enc C.prog (w0.forCall (fun _ _=>0) ⟨#[],args,[]⟩).memory fn.params.toList s.vars apart args.toList fuel with
 | none=>rw [hx'] at hb; cases hb
 | some x =>
  rw [hx'] at hb
  simp only [Bool.and_eq_true] at hb
  refine ⟨w0,fun _ _=>0,⟨#[],args,[]⟩,hos,World.shaped_of_B hv hr,(Input.okWide_of_okWideB (base := 0) hok).1,(Input.okWide_of_okWideB hok).2,⟨⟨(OpenSpec.pre_some hk conds apart _ _).2 ⟨x.1,x.2.1,x.2.2,DataW.Whole_of_whole hx',hb.1,hb.2⟩,hx⟩,sizedMet_of_sizedB hsz⟩,?_⟩
  simp only [Assume.holds]
  exact ⟨by simp,by simp,fun _=>Modest.zero,by simp,by simp⟩
/-- A law, where what it is given is of small bulk, and variables hold what the text says. -/
theorem K8h {C:Checked} (hown:ownKnob C.prog.godebug=none) (hlo:laidOutB C.prog=true) {os:Os} (started:os.Started) {f:FuncId} {fn:Func} {s:ChangeSpec} {conds:List PathCond} {apart fresh handsOn again:Bool} {tb:TypeId} {X:World→Prop}
  (hX:∀ {W W':World},W.heap=W'.heap→X W→X W') (hgl:∀ {W:World},X W→GlW W)
  (noInit:C.prog.inits.idxOf? f=none) (hfn:C.prog.funcs[f]? = some fn)
  (witness:∃ (w:World) (tape:Tape) (i:Input),w.os=os∧(w.forCall tape i).Shaped C.prog∧i.vars=[]∧Input.okWide C.prog (w.forCall tape i) .any w.heap.size f i ∧
   (((Rows.OpenSpec.upto s).pre enc C.prog fn conds apart (w.forCall tape i).memory i.args∧X (w.forCall tape i).memory)∧sizedMet enc C.prog fn (Rows.OpenSpec.upto s) apart (w.forCall tape i).memory i.args)∧({}:Assume).holds C.prog (lone (Frame.enter C.prog f i.args .normal) [] (w.forCall tape i)))
  (hvars:s.vars=[]) (hr:fn.resultTypes = #[tb]) (htb:C.prog.underlying tb=some .bool)
  (hp:∀ t ∈ fn.params.toList,C.prog.readableRec t=true∧t<C.prog.types.size)
  (hfnl:∀ l:List (DataW H),l.length=fn.params.toList.length→s.fn H l = { results := [.lit (.bool true)],args := l })
  (tys:List Ty) (hlen:tys.length=fn.params.size) (hsl:tys.all Ty.slim=true) (hc:(tys.zip fn.params.toList).all (fun p=>p.1.chk C.prog (.inl p.2))=true)
  (h:Ty.alls (tys.map Ty.up) fun xs=>FC C.prog f [] xs ⟨[],[],.im (.val (.bool true))⟩) (F:Stop.Interp) :
  ReturnsInHanded {} C os f .any (fun w args=>((Rows.OpenSpec.upto s).pre enc C.prog fn conds apart w args∧X w)∧sizedMet enc C.prog fn (Rows.OpenSpec.upto s) apart w args) (((Rows.OpenSpec.upto s).at F).post enc C.prog fn apart fresh handsOn again) := by
 refine returnsInHanded_of_calls hown started noInit witness ?_
 intro w tape i _ _ _ hok hpre _
 obtain ⟨_,_,_,fn',hfn',_,_,_,_,hval⟩ := hok
 have e:fn' = fn := Option.some.inj (hfn'.symm.trans hfn)
 subst e
 obtain ⟨ds,gs,before,hw0,_,hk⟩ := (OpenSpec.pre_some (s := Rows.OpenSpec.upto s) (k := Rows.uptoSmall) rfl conds apart _ _).1 hpre.1.1
 have hW0:DataW.Whole enc C.prog fn'.params.toList s.vars apart (w.forCall tape i) i.args.toList ds gs before := DataW.Whole.of_heap (w' := w.forCall tape i) (by rfl) hw0
 have hXW:X (w.forCall tape i) := hX (by rfl) hpre.1.2
 have hW' := hW0
 obtain ⟨p,q,hA,hV,rfl,_,_⟩ := hW0
 have hg:gs=[] := by rw [hvars] at hV; exact (trodVars_none hV).1
 subst hg
 have hw:∀ d ∈ ds,Rows.uptoBulk d≤bulkTop := fun d hd=>by
  have h1:Rows.uptoBulkAll (ds ++ [])≤1048576 := of_decide_eq_true hk
  rw [List.append_nil] at h1
  exact Nat.le_trans (Q8g hd) h1
 obtain ⟨xs,a1,a2,a3⟩ := X8t (b0 := w.heap.size) (pre := []) (by simpa using h) (by simpa using hlen) hsl (fun j ty t e1 e2=>by
   refine List.all_eq_true.1 hc (ty,t) ?_
   rw [List.mem_iff_getElem?]
   exact ⟨j,by rw [List.getElem?_zip_eq_some]; exact ⟨e1,e2⟩⟩)
  (fun j t v e1 e2=>hval j t v (by simpa using e1) (by simpa using e2)) hw hA
 refine (J1u (by simpa using a1) (w.forCall tape i) (hgl hXW) i.args (by simpa using a2.symm) fun j v hj => ?_).mono fun e W' ⟨he,hb⟩ => ?_
 ·have hj':j<i.args.size := by
   have := (List.getElem?_eq_some_iff.1 hj).1
   simpa [a2] using this
  have := a3 j v i.args[j] hj (by simp [hj'])
  simpa [Array.getD_eq_getD_getElem?,hj'] using this
 ·subst he
  exact ChangeSpec.post_blind (X6j (s := s) hlo hvars hr htb hp hfnl hW' hb)
end
end Go.Proofs.YtdkdhcakoccpfaaGreatDoor
namespace Go.Proofs.YtdkdhcakoccpfaaGreatDoor
open Go.ChangeShapes Go.WideShapes Go.ChangeAt Go.RowKit
theorem K8i {lo up:ByteArray} {e z:Int} {r:List Rd} {ps:List Pr} {cs:List Cn} (h:(Ty.up (.st (.pair (.st (.pair (.str) (.pair (.str) (.unit)))) (.pair (.int .u64) (.pair (.int .u64) (.pair (.sl 64 (.st (.pair (.int .u64) (.pair (.str) (.pair (.sl 1 (.int .u8)) (.pair (.int .u64) (.pair (.int .u64) (.unit)))))))) (.pair (.sl 32 (.st (.pair (.int .u64) (.pair (.int .u64) (.pair (.bool) (.pair (.int .u64) (.unit))))))) (.pair (.sl 24 (.st (.pair (.str) (.pair (.int .u64) (.unit))))) (.unit))))))))).okD ((lo,up),e,z,r,ps,cs)):Dr.fitS (lo,up,e,z,r,ps,cs,()) := by
 obtain ⟨⟨h01,h02⟩,h1,h2,h3,h4,h5⟩ := h
 have a1:r.length * 134217727≤140737488351232 := h3.1
 have a2:ps.length * 134217727≤140737488351232 := h4.1
 have a3:cs.length * 134217727≤140737488351232 := h5.1
 refine ⟨h01,h02,h1,h2,⟨by omega,fun x hx => ?_⟩,⟨by omega,fun x hx=>⟨(h4.2.2 x hx).1,(h4.2.2 x hx).2.1,(h4.2.2 x hx).2.2.2⟩⟩,by omega,fun x hx=>⟨(h5.2.2 x hx).1,(h5.2.2 x hx).2⟩⟩
 obtain ⟨k1,k2,k3,k4,k5⟩ := h3.2.2 x hx
 have b1:x.2.2.1.length * 134217727≤140737488351232 := k3.1
 exact ⟨k1,k2,⟨by omega,fun y hy=>k3.2.2 y hy⟩,k4,k5⟩
theorem K8j {x:Cd} (h:(Ty.up (.st (.pair (.int .i64) (.pair (.int .u64) (.pair (.int .u64) (.pair (.int .u64) (.pair (.str) (.pair (.sl 1 (.int .u8)) (.pair (.int .u64) (.pair (.int .i64) (.pair (.str) (.pair (.int .u64) (.unit))))))))))))).okD x):Dr.cmdF (cmdOf x) := by
 obtain ⟨h0,h1,h2,h3,h4,h5,h6,h7,h8,h9⟩ := h
 have a1:x.2.2.2.2.2.1.length * 134217727≤140737488351232 := h5.1
 exact ⟨h2,h3,h4,⟨by omega,fun y hy=>h5.2.2 y hy⟩,h6,h8,h9⟩
theorem partfsmDoesAll:Ty.alls [.st (.pair (.st (.pair (.txt) (.pair (.txt) (.unit)))) (.pair (.int .u64) (.pair (.int .u64) (.pair (.sl 134217727 (.st (.pair (.int .u64) (.pair (.txt) (.pair (.sl 134217727 (.int .u8)) (.pair (.int .u64) (.pair (.int .u64) (.unit)))))))) (.pair (.sl 134217727 (.st (.pair (.int .u64) (.pair (.int .u64) (.pair (.bool) (.pair (.int .u64) (.unit))))))) (.pair (.sl 134217727 (.st (.pair (.txt) (.pair (.int .u64) (.unit))))) (.unit))))))),.sl 134217727 (.st (.pair (.int .i64) (.pair (.int .u64) (.pair (.int .u64) (.pair (.int .u64) (.pair (.txt) (.pair (.sl 134217727 (.int .u8)) (.pair (.int .u64) (.pair (.int .i64) (.pair (.txt) (.pair (.int .u64) (.unit))))))))))))] fun xs=>FC Tryz.prog 3 [] xs ⟨[],[],.im (.val (.bool true))⟩ := by
 obtain ⟨fu,hfu⟩:∃ fu:Nat,140737488355328<fu := ⟨_,Nat.lt_succ_self _⟩
 exact K2n (by rfl) (g3 fu) (fun x hx (l:List Cd) hl=>by
  obtain ⟨⟨(lo:ByteArray),(up:ByteArray)⟩,(e:Int),(z:Int),(r:List Rd),(ps:List Pr),(cs:List Cn)⟩ := x
  have h1:l.length * 134217727≤140737488351232 := hl.1
  exact Dr.p3_is (l := l) (K8i hx) (show l.length≤2097152 by omega) (fun y hy=>K8j (hl.2.2 y hy)) (by omega))
set_option maxRecDepth 100000 in
theorem partfsmDoes_liftedU (os:Os) (started:os.Started) (H:Type) (enc:TypeId×Value→H) (F:Stop.Interp) :
  ReturnsInHanded {} Tryz.checked os 3 .any (Rows.partfsmDoesUptoRow.pre enc Tryz.prog Tryz.f3 (Rows.OpenSpec.upto Rows.partfsmDoesSpec)) (((Rows.OpenSpec.upto Rows.partfsmDoesSpec).at F).post enc Tryz.prog Tryz.f3 false true false false) :=
 K8h (C := Tryz.checked) (X := laidMetH Tryz.prog laidBoth) ownK K9m started (fun hh h=>h.of_heap hh) K8e (by kernel_rfl) Tryz.func3
  (K8g (s := Rows.OpenSpec.upto Rows.partfsmDoesSpec) (k := Rows.uptoSmall) (enc := enc) (C := Tryz.checked) rfl false (laidWorld os) #[.agg #[.string ⟨#[]⟩,.string ⟨#[]⟩,.int .u64 0,.int .u64 0,.slice none 0 0,.slice none 0 0,.slice none 0 0],.slice none 0 0] 8 rfl (by kernel_rfl) (by kernel_rfl) (by kernel_rfl) (by kernel_rfl) (by kernel_rfl) (K8f os _))
  rfl rfl Tryz.underlying4 (of_decide_eq_true (by kernel_rfl)) (fun l hl=>by match l,hl with | [_,_],_=>rfl)
  [.st (.pair (.st (.pair (.str) (.pair (.str) (.unit)))) (.pair (.int .u64) (.pair (.int .u64) (.pair (.sl 64 (.st (.pair (.int .u64) (.pair (.str) (.pair (.sl 1 (.int .u8)) (.pair (.int .u64) (.pair (.int .u64) (.unit)))))))) (.pair (.sl 32 (.st (.pair (.int .u64) (.pair (.int .u64) (.pair (.bool) (.pair (.int .u64) (.unit))))))) (.pair (.sl 24 (.st (.pair (.str) (.pair (.int .u64) (.unit))))) (.unit))))))),.sl 112 (.st (.pair (.int .i64) (.pair (.int .u64) (.pair (.int .u64) (.pair (.int .u64) (.pair (.str) (.pair (.sl 1 (.int .u8)) (.pair (.int .u64) (.pair (.int .i64) (.pair (.str) (.pair (.int .u64) (.unit))))))))))))] rfl (by kernel_rfl) (by kernel_rfl) partfsmDoesAll F
theorem partfsmDoes_holdsU:Rows.PartfsmDoesUptoSaid :=
 OpenClaim.holds_of_cond 3 Tryz.f3 rfl rfl rfl rfl rfl rfl rfl ⟨rfl,rfl,rfl,rfl,rfl⟩ rfl rfl rfl rfl rfl (by kernel_rfl) Tryz.func3 (by kernel_rfl)
  (of_decide_eq_true (by kernel_rfl)) (by unfold Func.isWrapper; first | (rw [if_pos (by decide +kernel)]; kernel_rfl) | (rw [if_neg (by decide +kernel)]; exact ⟨rfl,rfl⟩))
  (fun os started H enc _ F=>partfsmDoes_liftedU os started H enc F)
theorem partfsmDoes_card:Rows.PartfsmDoesUptoCardSaid :=
 Claim7.holds_tied_plain_at .later [] [.handle, .sentinel] true (true, "1ac84f29c95a3147aef42808762c7dd911e2f6ee35f14d871937f07d09b03f19") true
  partfsmDoes_holdsU (fun _ h=>by cases h) (by kernel_rfl) (fun _ h=>by cases h) partfsmDoesUpto_row_tie rfl ⟨rfl,rfl⟩ (by kernel_rfl) rfl
  (fun f fn hf hfn=>by
   obtain rfl : f = 3 := Option.some.inj ((show Tryz.prog.funcNamed "gazette/gazettelaw16.PartfsmDoes" = some 3 by kernel_rfl).symm.trans hf) |>.symm
   obtain rfl:fn=Tryz.f3 := (Option.some.inj (Tryz.func3.symm.trans hfn)).symm
   exact ⟨by kernel_rfl,fun j t ht=>by
    have hall:(Tryz.f3.params.toList.all fun t => !Tryz.prog.wantsStandIn t)=true := by kernel_rfl
    have hm:t ∈ Tryz.f3.params.toList := by
     rw [Array.mem_toList_iff]
     exact Array.mem_of_getElem? ht
    have h3 := List.all_eq_true.1 hall t hm
    have h4:Tryz.prog.wantsStandIn t=false := by simpa using h3
    exact h4⟩)
  (by kernel_rfl)
#print axioms partfsmDoes_card
end Go.Proofs.YtdkdhcakoccpfaaGreatDoor
