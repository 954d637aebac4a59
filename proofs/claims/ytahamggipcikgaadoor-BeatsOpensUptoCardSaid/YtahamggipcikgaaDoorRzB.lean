/-
  Proved here: BeatsOpens returns true for any packet: Open tells the document's messages, or its error, and what is told may be written over: the packet stays, and what lies behind it; its argument reads afterwards as before. Conditions: what it is given is of small bulk (2^20 at most in all); a variable holds the handle that the program laid there.
-/
import Derived.Test.YtahamggipcikgaaDoorUp
import Derived.Test.YtahamggipcikgaaDoorLaw
import Derived.Test.YtahamggipcikgaaDoorTie
import Derived.Test.YtahamggipcikgaaDoorCards
import Derived.LaidLaws
import Derived.LaidHandle
import Derived.OpenShut
import Derived.SevenTiedAt
import Derived.Test.YtahamggipcikgaaDoorRzA
import Derived.Test.YtahamggipcikgaaDoorDaM
import Derived.JoinedCond
namespace Go.Proofs.YtahamggipcikgaaDoor
open Go.ChangeShapes Go.WideShapes Go.ChangeAt Go.RowKit
def laidBoth : List (String × DataW Unit) := [("errors.errorType", Rows.laid_errors_errorType)]
theorem glErr : Tryd.prog.globalNamed "errors.errorType" = some 0 := by kernel_rfl
theorem glRt : (Tryd.prog.cutTypes.find? (·.1 == "internal/reflectlite.rtype")).map (·.2) = some 132 := by kernel_rfl
theorem glRow:((List.range 177).filter fun t=>Tryd.prog.rowNamed t [101,114,114,111,114])=[77] := by kernel_rfl
theorem glSize:Tryd.prog.types.size=177 := by kernel_rfl
theorem glHandle:typeHandle Tryd.prog 77 = .pointer (some ⟨1,77,none⟩) := by kernel_rfl
theorem err_of_laid {W : World} (h : handlesMet Tryd.prog [("errors.errorType", Rows.laid_errors_errorType)] W) : W.cell? ⟨0, 0, none⟩ = some (.iface 132 (.agg #[.pointer (some ⟨1, 77, none⟩)])) := by
 obtain ⟨name,u,ty,e1,e2,e3,e4,e5⟩ := h _ (List.mem_singleton.2 rfl)
 have en:name=[101,114,114,111,114] := (Option.some.inj e1).symm
 subst en
 obtain rfl := Option.some.inj (glRt.symm.trans e2)
 have hm:ty ∈ (List.range 177).filter fun t=>Tryd.prog.rowNamed t [101,114,114,111,114] := List.mem_filter.2 ⟨List.mem_range.2 (by rw [← glSize]; exact e3),e4⟩
 rw [glRow] at hm
 obtain rfl := List.mem_singleton.1 hm
 rw [glHandle] at e5
 simpa using World.var?_cell glErr e5 0
theorem glw_of_laid {W:World} (h:laidMetH Tryd.prog laidBoth W):GlW W := by
 have h' : laidMet Tryd.prog [] W ∧ handlesMet Tryd.prog [("errors.errorType", Rows.laid_errors_errorType)] W := h
 refine ⟨fun p hp k v hv => ?_,fun p hp=>by cases hp⟩
 obtain rfl := List.mem_singleton.1 hp
 match k,hv with
 | 0,hv =>
  rw [err_of_laid h'.2,← hv]
  rfl
 | k+1,hv=>cases hv
/-- A world that meets the condition. -/
noncomputable def laidWorld (os:Os):World :=
 let w0 := World.holding Tryd.prog os ⟨#[],#[],[]⟩
 { w0 with heap := w0.heap.modify 0 fun
   | .cells _ t frozen => .cells #[.iface 132 (.agg #[.pointer (some ⟨1,77,none⟩)])] t frozen
   | o=>o }
theorem laidWorld_met (os:Os) (args:Array Value):laidMetH Tryd.prog laidBoth ((laidWorld os).forCall (fun _ _=>0) ⟨#[],args,[]⟩).memory :=
 laidMetH_of_parts (laidMet_of_run' 8 (by kernel_rfl) (by kernel_rfl)) (by kernel_rfl)
section
variable {H:Type} {enc:TypeId×Value→H}
theorem witnessL {C:Checked} {os:Os} {f:FuncId} {fn:Func} {s:OpenSpec} {k:(H:Type)→List (DataW H)→Bool} (hk:s.cond=some k) {conds:List PathCond} {apart:Bool} {X:World→Prop} (modest:Bool) (w0:World) (args:Array Value) (fuel:Nat) (hos:w0.os=os)
  (hv:(w0.forCall (fun _ _=>0) ⟨#[],args,[]⟩).variablesB C.prog=true)
  (hr:((w0.forCall (fun _ _=>0) ⟨#[],args,[]⟩).heap.toList.drop C.prog.globals.size).take ((begin C.prog (fun _ _=>0) default).world.heap.size-C.prog.globals.size) =
   (begin C.prog (fun _ _=>0) default).world.heap.toList.drop C.prog.globals.size)
  (hok:Input.okWideB C.prog (w0.forCall (fun _ _=>0) ⟨#[],args,[]⟩) f ⟨#[],args,[]⟩=true)
  (hb:(match DataW.whole enc C.prog (w0.forCall (fun _ _=>0) ⟨#[],args,[]⟩).memory fn.params.toList s.vars apart args.toList fuel with
   | some x=>conds.all (PathCond.test C.prog ⟨fn.params.toList,x.1,s.bare.plain.varTypes C.prog,x.2.1⟩) && k H (x.1 ++ x.2.1)
   | none=>false)=true)
  (hsz:s.bare.sizedB enc C.prog fn apart (w0.forCall (fun _ _=>0) ⟨#[],args,[]⟩).memory args fuel=true)
  (hx:X (w0.forCall (fun _ _=>0) ⟨#[],args,[]⟩).memory) :
  ∃ (w:World) (tape:Tape) (i:Input),w.os=os∧(w.forCall tape i).Shaped C.prog∧i.vars=[]∧Input.okWide C.prog (w.forCall tape i) .any w.heap.size f i ∧
   ((s.pre enc C.prog fn conds apart (w.forCall tape i).memory i.args∧X (w.forCall tape i).memory)∧sizedMet enc C.prog fn s apart (w.forCall tape i).memory i.args)∧({ modest := modest }:Assume).holds C.prog (lone (Frame.enter C.prog f i.args .normal) [] (w.forCall tape i)) := by
 cases hx':DataW.whole enc C.prog (w0.forCall (fun _ _=>0) ⟨#[],args,[]⟩).memory fn.params.toList s.vars apart args.toList fuel with
 | none=>rw [hx'] at hb; cases hb
 | some x =>
  rw [hx'] at hb
  simp only [Bool.and_eq_true] at hb
  refine ⟨w0,fun _ _=>0,⟨#[],args,[]⟩,hos,World.shaped_of_B hv hr,(Input.okWide_of_okWideB (base := 0) hok).1,(Input.okWide_of_okWideB hok).2,⟨⟨(OpenSpec.pre_some hk conds apart _ _).2 ⟨x.1,x.2.1,x.2.2,DataW.Whole_of_whole hx',hb.1,hb.2⟩,hx⟩,sizedMet_of_sizedB hsz⟩,?_⟩
  simp only [Assume.holds]
  exact ⟨by simp,by simp,fun _=>Modest.zero,by simp,by simp⟩
/-- A law, where what it is given is of small bulk, and variables hold what the text says. -/
theorem law_liftedL {C:Checked} (hown:ownKnob C.prog.godebug=none) (hlo:laidOutB C.prog=true) {os:Os} (started:os.Started) {f:FuncId} {fn:Func} {s:ChangeSpec} {conds:List PathCond} {apart fresh handsOn again:Bool} {tb:TypeId} {X:World→Prop}
  (hX:∀ {W W':World},W.heap=W'.heap→X W→X W') (hgl:∀ {W:World},X W→GlW W)
  (noInit:C.prog.inits.idxOf? f=none) (hfn:C.prog.funcs[f]? = some fn)
  (witness:∃ (w:World) (tape:Tape) (i:Input),w.os=os∧(w.forCall tape i).Shaped C.prog∧i.vars=[]∧Input.okWide C.prog (w.forCall tape i) .any w.heap.size f i ∧
   (((Rows.OpenSpec.upto s).pre enc C.prog fn conds apart (w.forCall tape i).memory i.args∧X (w.forCall tape i).memory)∧sizedMet enc C.prog fn (Rows.OpenSpec.upto s) apart (w.forCall tape i).memory i.args)∧({}:Assume).holds C.prog (lone (Frame.enter C.prog f i.args .normal) [] (w.forCall tape i)))
  (hvars:s.vars=[]) (hr:fn.resultTypes = #[tb]) (htb:C.prog.underlying tb=some .bool)
  (hp:∀ t ∈ fn.params.toList,C.prog.readableRec t=true∧t<C.prog.types.size)
  (hfnl:∀ l:List (DataW H),l.length=fn.params.toList.length→s.fn H l = { results := [.lit (.bool true)],args := l })
  (tys:List Ty) (hlen:tys.length=fn.params.size) (hsl:tys.all Ty.slim=true) (hc:(tys.zip fn.params.toList).all (fun p=>p.1.chk C.prog (.inl p.2))=true)
  (h:Ty.alls (tys.map Ty.up) fun xs=>FC C.prog f [] xs ⟨[],[],.im (.val (.bool true))⟩) (F:Stop.Interp) :
  ReturnsInHanded {} C os f .any (fun w args=>((Rows.OpenSpec.upto s).pre enc C.prog fn conds apart w args∧X w)∧sizedMet enc C.prog fn (Rows.OpenSpec.upto s) apart w args) (((Rows.OpenSpec.upto s).at F).post enc C.prog fn apart fresh handsOn again) := by
 refine returnsInHanded_of_calls hown started noInit witness ?_
 intro w tape i _ _ _ hok hpre _
 obtain ⟨_,_,_,fn',hfn',_,_,_,_,hval⟩ := hok
 have e:fn' = fn := Option.some.inj (hfn'.symm.trans hfn)
 subst e
 obtain ⟨ds,gs,before,hw0,_,hk⟩ := (OpenSpec.pre_some (s := Rows.OpenSpec.upto s) (k := Rows.uptoSmall) rfl conds apart _ _).1 hpre.1.1
 have hW0:DataW.Whole enc C.prog fn'.params.toList s.vars apart (w.forCall tape i) i.args.toList ds gs before := DataW.Whole.of_heap (w' := w.forCall tape i) (by rfl) hw0
 have hXW:X (w.forCall tape i) := hX (by rfl) hpre.1.2
 have hW' := hW0
 obtain ⟨p,q,hA,hV,rfl,_,_⟩ := hW0
 have hg:gs=[] := by rw [hvars] at hV; exact (trodVars_none hV).1
 subst hg
 have hw:∀ d ∈ ds,Rows.uptoBulk d≤bulkTop := fun d hd=>by
  have h1:Rows.uptoBulkAll (ds ++ [])≤1048576 := of_decide_eq_true hk
  rw [List.append_nil] at h1
  exact Nat.le_trans (bulkAll_mem hd) h1
 obtain ⟨xs,a1,a2,a3⟩ := alls_ofU (b0 := w.heap.size) (pre := []) (by simpa using h) (by simpa using hlen) hsl (fun j ty t e1 e2=>by
   refine List.all_eq_true.1 hc (ty,t) ?_
   rw [List.mem_iff_getElem?]
   exact ⟨j,by rw [List.getElem?_zip_eq_some]; exact ⟨e1,e2⟩⟩)
  (fun j t v e1 e2=>hval j t v (by simpa using e1) (by simpa using e2)) hw hA
 refine (yes_of_fc (by simpa using a1) (w.forCall tape i) (hgl hXW) i.args (by simpa using a2.symm) fun j v hj => ?_).mono fun e W' ⟨he,hb⟩ => ?_
 ·have hj':j<i.args.size := by
   have := (List.getElem?_eq_some_iff.1 hj).1
   simpa [a2] using this
  have := a3 j v i.args[j] hj (by simp [hj'])
  simpa [Array.getD_eq_getD_getElem?,hj'] using this
 ·subst he
  exact ChangeSpec.post_blind (post_true (s := s) hlo hvars hr htb hp hfnl hW' hb)
end
end Go.Proofs.YtahamggipcikgaaDoor
namespace Go.Proofs.YtahamggipcikgaaDoor
open Go.ChangeShapes Go.WideShapes Go.ChangeAt Go.RowKit
abbrev FU:Nat := 8388608
set_option maxRecDepth 100000 in
theorem p6_is:p6 FU ()=some ((),true) := by decide +kernel
theorem beatsOpensAll:Ty.alls [.st (.pair (.int .i64) (.pair (.int .i64) (.pair (.int .i64) (.pair (.sl 134217727 (.int .u8)) (.unit)))))] fun xs=>FC Tryd.prog 3 [] xs ⟨[],[],.im (.val (.bool true))⟩ := by
 exact law_of (by rfl) (g3 FU) (fun x hx=>by
  obtain ⟨(fr:Int),(to:Int),(kd:Int),(a:List Int)⟩ := x
  obtain ⟨_,_,_,h4⟩ := hx
  have h1:a.length * 134217727≤140737488351232 := h4.1
  have h2:a.length≤1048576 := by omega
  have h3:a.length≤140737488355328 := by omega
  exact p3_is p6_is ⟨fun y hy=>h4.2.2 y hy,h3,by decide⟩ h2 (by decide) fr to kd)
set_option maxRecDepth 100000 in
theorem beatsOpens_liftedU (os:Os) (started:os.Started) (H:Type) (enc:TypeId×Value→H) (F:Stop.Interp) :
  ReturnsInHanded {} Tryd.checked os 3 .any (Rows.beatsOpensUptoRow.pre enc Tryd.prog Tryd.f3 (Rows.OpenSpec.upto Rows.beatsOpensSpec)) (((Rows.OpenSpec.upto Rows.beatsOpensSpec).at F).post enc Tryd.prog Tryd.f3 false true false false) :=
 law_liftedL (C := Tryd.checked) (X := laidMetH Tryd.prog laidBoth) ownK laidOut started (fun hh h=>h.of_heap hh) glw_of_laid (by kernel_rfl) Tryd.func3
  (witnessL (s := Rows.OpenSpec.upto Rows.beatsOpensSpec) (k := Rows.uptoSmall) (enc := enc) (C := Tryd.checked) rfl false (laidWorld os) #[.agg #[.int .i64 0,.int .i64 0,.int .i64 0,.slice none 0 0]] 8 rfl (by kernel_rfl) (by kernel_rfl) (by kernel_rfl) (by kernel_rfl) (by kernel_rfl) (laidWorld_met os _))
  rfl rfl Tryd.underlying4 (of_decide_eq_true (by kernel_rfl)) (fun l hl=>by match l,hl with | [_],_=>rfl)
  [.st (.pair (.int .i64) (.pair (.int .i64) (.pair (.int .i64) (.pair (.sl 1 (.int .u8)) (.unit)))))] rfl (by kernel_rfl) (by kernel_rfl) beatsOpensAll F
theorem beatsOpens_holdsU:Rows.BeatsOpensUptoSaid :=
 OpenClaim.holds_of_cond 3 Tryd.f3 rfl rfl rfl rfl rfl rfl rfl ⟨rfl,rfl,rfl,rfl,rfl⟩ rfl rfl rfl rfl rfl (by kernel_rfl) Tryd.func3 (by kernel_rfl)
  (of_decide_eq_true (by kernel_rfl)) (by unfold Func.isWrapper; first | (rw [if_pos (by decide +kernel)]; kernel_rfl) | (rw [if_neg (by decide +kernel)]; exact ⟨rfl,rfl⟩))
  (fun os started H enc _ F=>beatsOpens_liftedU os started H enc F)
theorem beatsOpens_card:Rows.BeatsOpensUptoCardSaid :=
 Claim7.holds_tied_plain_at .later [] [.handle] true (true, "bc6bb4e820196c152fe9dd0e2ce3cc1c3ce1d44ce70518cd6ae39a955cc46f87") true
  beatsOpens_holdsU (fun _ h=>by cases h) (by kernel_rfl) (fun _ h=>by cases h) beatsOpensUpto_row_tie rfl ⟨rfl,rfl⟩ (by kernel_rfl) rfl
  (fun f fn hf hfn=>by
   obtain rfl : f = 3 := Option.some.inj ((show Tryd.prog.funcNamed "gazette/gazettelaw11.BeatsOpens" = some 3 by kernel_rfl).symm.trans hf) |>.symm
   obtain rfl:fn=Tryd.f3 := (Option.some.inj (Tryd.func3.symm.trans hfn)).symm
   exact ⟨by kernel_rfl,fun j t ht=>by
    have hall:(Tryd.f3.params.toList.all fun t => !Tryd.prog.wantsStandIn t)=true := by kernel_rfl
    have hm:t ∈ Tryd.f3.params.toList := by
     rw [Array.mem_toList_iff]
     exact Array.mem_of_getElem? ht
    have h3 := List.all_eq_true.1 hall t hm
    have h4:Tryd.prog.wantsStandIn t=false := by simpa using h3
    exact h4⟩)
  (by kernel_rfl)
#print axioms beatsOpens_card
end Go.Proofs.YtahamggipcikgaaDoor
