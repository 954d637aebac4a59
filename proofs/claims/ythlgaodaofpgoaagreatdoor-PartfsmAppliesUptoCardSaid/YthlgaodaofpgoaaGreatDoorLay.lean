/-
  A law, where variables hold what the program's text says, and what comes in is of small bulk: the handle of the type of errors; the error that says that it was done.
-/
import Derived.Test.YthlgaodaofpgoaaGreatDoorUp
import Derived.Test.YthlgaodaofpgoaaGreatDoorLaw
import Derived.Test.YthlgaodaofpgoaaGreatDoorTie
import Derived.Test.YthlgaodaofpgoaaGreatDoorCards
import Derived.LaidLaws
import Derived.LaidHandle
import Derived.OpenShut
import Derived.SevenTiedAt
import Derived.Stop.LaidErr
namespace Go.Proofs.YthlgaodaofpgoaaGreatDoor
open Go.ChangeShapes Go.WideShapes Go.ChangeAt Go.RowKit
def laidDone : List (String × DataW Unit) := [("gazette/partfsm.errDone", Rows.laid_gazette_partfsm_errDone)]
def laidBoth : List (String × DataW Unit) := ("errors.errorType", Rows.laid_errors_errorType) :: laidDone
theorem X5m : Tryz.prog.globalNamed "gazette/partfsm.errDone" = some 0 := by kernel_rfl
theorem K8r : Tryz.prog.globalNamed "errors.errorType" = some 1 := by kernel_rfl
theorem K8s:(Tryz.prog.globals[0]?).map (·.type)=some 99 := by kernel_rfl
theorem glRt : (Tryz.prog.cutTypes.find? (·.1 == "internal/reflectlite.rtype")).map (·.2) = some 190 := by kernel_rfl
theorem K8t:((List.range 260).filter fun t=>Tryz.prog.rowNamed t [101,114,114,111,114])=[99] := by kernel_rfl
theorem K8u:Tryz.prog.types.size=260 := by kernel_rfl
theorem K8v:typeHandle Tryz.prog 99 = .pointer (some ⟨3,99,none⟩) := by kernel_rfl
theorem X5n : "*" ++ "errors.errorString" = "*errors.errorString" := by decide
theorem K8w (u : TypeId) (h : Tryz.prog.typeName? 3 u = some "*errors.errorString") : u = 227 :=
 typeName_ptr_named (nm := "errors.errorString") (by rw [X5n]; kernel_rfl) (by kernel_rfl) (by decide) u (by rw [X5n]; exact h)
theorem K8x {W:World} (h:laidMet Tryz.prog laidDone W):∃ a,W.cell? ⟨0,0,none⟩=some (.iface 227 (.pointer (some a))) := by
 obtain ⟨a,s,h1,_⟩ := laid_sentinel (r := []) h X5m K8s Tryz.underlying99 K8w Tryz.underlying227 Tryz.underlying248 rfl rfl Tryz.underlying9 (by kernel_rfl) (by kernel_rfl)
 exact ⟨a,by simpa using World.var?_cell X5m h1 0⟩
theorem K8y {W : World} (h : handlesMet Tryz.prog [("errors.errorType", Rows.laid_errors_errorType)] W) : W.cell? ⟨1, 0, none⟩ = some (.iface 190 (.agg #[.pointer (some ⟨3, 99, none⟩)])) := by
 obtain ⟨name,u,ty,e1,e2,e3,e4,e5⟩ := h _ (List.mem_singleton.2 rfl)
 have en:name=[101,114,114,111,114] := (Option.some.inj e1).symm
 subst en
 obtain rfl := Option.some.inj (glRt.symm.trans e2)
 have hm:ty ∈ (List.range 260).filter fun t=>Tryz.prog.rowNamed t [101,114,114,111,114] := List.mem_filter.2 ⟨List.mem_range.2 (by rw [← K8u]; exact e3),e4⟩
 rw [K8t] at hm
 obtain rfl := List.mem_singleton.1 hm
 rw [K8v] at e5
 simpa using World.var?_cell K8r e5 0
theorem K8z {W:World} (h:laidMetH Tryz.prog laidBoth W):GlW W := by
 have h' : laidMet Tryz.prog laidDone W ∧ handlesMet Tryz.prog [("errors.errorType", Rows.laid_errors_errorType)] W := h
 refine ⟨fun p hp k v hv => ?_,fun p hp => ?_⟩
 ·obtain rfl := List.mem_singleton.1 hp
  match k,hv with
  | 0,hv =>
   rw [K8y h'.2,← hv]
   rfl
  | k+1,hv=>cases hv
 ·obtain rfl := List.mem_singleton.1 hp
  exact K8x h'.1
noncomputable def laidWorld (os:Os):World :=
 let w0 := World.holding Tryz.prog os ⟨#[],#[],[]⟩
 { w0 with heap := ((w0.heap.modify 0 fun
   | .cells _ t frozen => .cells #[.iface 227 (.pointer (some ⟨w0.heap.size,0,none⟩))] t frozen
   | o=>o).modify 1 fun
   | .cells _ t frozen => .cells #[.iface 190 (.agg #[.pointer (some ⟨3,99,none⟩)])] t frozen
   | o=>o).push (.cells #[.string ⟨#[105,116,32,119,97,115,32,100,111,110,101]⟩] 248 (0,0)) }
theorem K9a (os:Os) (args:Array Value):laidMetH Tryz.prog laidBoth ((laidWorld os).forCall (fun _ _=>0) ⟨#[],args,[]⟩).memory :=
 laidMetH_of_parts (laidMet_of_run' 8 (by kernel_rfl) (by kernel_rfl)) (by kernel_rfl)
section
variable {H:Type} {enc:TypeId×Value→H}
theorem K9b {C:Checked} {os:Os} {f:FuncId} {fn:Func} {s:OpenSpec} {k:(H:Type)→List (DataW H)→Bool} (hk:s.cond=some k) {conds:List PathCond} {apart:Bool} {X:World→Prop} (modest:Bool) (w0:World) (args:Array Value) (fuel:Nat) (hos:w0.os=os)
  (hv:(w0.forCall (fun _ _=>0) ⟨#[],args,[]⟩).variablesB C.prog=true)
  (hr:((w0.forCall (fun _ _=>0) ⟨#[],args,[]⟩).heap.toList.drop C.prog.globals.size).take ((begin C.prog (fun _ _=>0) default).world.heap.size-C.prog.globals.size) =
   (begin C.prog (fun _ _=>0) default).world.heap.toList.drop C.prog.globals.size)
  (hok:Input.okWideB C.prog (w0.forCall (fun _ _=>0) ⟨#[],args,[]⟩) f ⟨#[],args,[]⟩=true)
  (hb:(match DataW.whole enc C.prog (w0.forCall (fun _ _=>0) ⟨#[],args,[]⟩).memory fn.params.toList s.vars apart args.toList fuel with
   | some x=>conds.all (PathCond.test C.prog ⟨fn.params.toList,x.1,s.bare.plain.varTypes C.prog,x.2.1⟩) && k H (x.1 ++ x.2.1)
   | none=>false)=true)
  (hsz:s.bare.sizedB enc C.prog fn apart (w0.forCall (fun _ _=>0) ⟨#[],args,[]⟩).memory args fuel=true)
  (hx:X (w0.forCall (fun _ _=>0) ⟨#[],args,[]⟩).memory) :
  ∃ (w:World) (tape:Tape) (i:Input),w.os=os∧(w.forCall tape i).Shaped C.prog∧i.vars=[]∧Input.okWide C.prog (w.forCall tape i) .any w.heap.size f i ∧
   ((s.pre enc C.prog fn conds apart (w.forCall tape i).memory i.args∧X (w.forCall tape i).memory)∧sizedMet enc C.prog fn s apart (w.forCall tape i).memory i.args)∧({ modest := modest }:Assume).holds C.prog (lone (Frame.enter C.prog f i.args .normal) [] (w.forCall tape i)) := by
 cases hx':DataW.whole enc C.prog (w0.forCall (fun _ _=>0) ⟨#[],args,[]⟩).memory fn.params.toList s.vars apart args.toList fuel with
 | none=>rw [hx'] at hb; cases hb
 | some x =>
  rw [hx'] at hb
  simp only [Bool.and_eq_true] at hb
  refine ⟨w0,fun _ _=>0,⟨#[],args,[]⟩,hos,World.shaped_of_B hv hr,(Input.okWide_of_okWideB (base := 0) hok).1,(Input.okWide_of_okWideB hok).2,⟨⟨(OpenSpec.pre_some hk conds apart _ _).2 ⟨x.1,x.2.1,x.2.2,DataW.Whole_of_whole hx',hb.1,hb.2⟩,hx⟩,sizedMet_of_sizedB hsz⟩,?_⟩
  simp only [Assume.holds]
  exact ⟨by simp,by simp,fun _=>Modest.zero,by simp,by simp⟩
theorem K9c {C:Checked} (hown:ownKnob C.prog.godebug=none) (hlo:laidOutB C.prog=true) {os:Os} (started:os.Started) {f:FuncId} {fn:Func} {s:ChangeSpec} {conds:List PathCond} {apart fresh handsOn again:Bool} {tb:TypeId} {X:World→Prop}
  (hX:∀ {W W':World},W.heap=W'.heap→X W→X W') (hgl:∀ {W:World},X W→GlW W)
  (noInit:C.prog.inits.idxOf? f=none) (hfn:C.prog.funcs[f]? = some fn)
  (witness:∃ (w:World) (tape:Tape) (i:Input),w.os=os∧(w.forCall tape i).Shaped C.prog∧i.vars=[]∧Input.okWide C.prog (w.forCall tape i) .any w.heap.size f i ∧
   (((Rows.OpenSpec.upto s).pre enc C.prog fn conds apart (w.forCall tape i).memory i.args∧X (w.forCall tape i).memory)∧sizedMet enc C.prog fn (Rows.OpenSpec.upto s) apart (w.forCall tape i).memory i.args)∧({}:Assume).holds C.prog (lone (Frame.enter C.prog f i.args .normal) [] (w.forCall tape i)))
  (hvars:s.vars=[]) (hr:fn.resultTypes = #[tb]) (htb:C.prog.underlying tb=some .bool)
  (hp:∀ t ∈ fn.params.toList,C.prog.readableRec t=true∧t<C.prog.types.size)
  (hfnl:∀ l:List (DataW H),l.length=fn.params.toList.length→s.fn H l = { results := [.lit (.bool true)],args := l })
  (tys:List Ty) (hlen:tys.length=fn.params.size) (hsl:tys.all Ty.slim=true) (hc:(tys.zip fn.params.toList).all (fun p=>p.1.chk C.prog (.inl p.2))=true)
  (h:Ty.alls (tys.map Ty.up) fun xs=>FC C.prog f [] xs ⟨[],[],.im (.val (.bool true))⟩) (F:Stop.Interp) :
  ReturnsInHanded {} C os f .any (fun w args=>((Rows.OpenSpec.upto s).pre enc C.prog fn conds apart w args∧X w)∧sizedMet enc C.prog fn (Rows.OpenSpec.upto s) apart w args) (((Rows.OpenSpec.upto s).at F).post enc C.prog fn apart fresh handsOn again) := by
 refine returnsInHanded_of_calls hown started noInit witness ?_
 intro w tape i _ _ _ hok hpre _
 obtain ⟨_,_,_,fn',hfn',_,_,_,_,hval⟩ := hok
 have e:fn' = fn := Option.some.inj (hfn'.symm.trans hfn)
 subst e
 obtain ⟨ds,gs,before,hw0,_,hk⟩ := (OpenSpec.pre_some (s := Rows.OpenSpec.upto s) (k := Rows.uptoSmall) rfl conds apart _ _).1 hpre.1.1
 have hW0:DataW.Whole enc C.prog fn'.params.toList s.vars apart (w.forCall tape i) i.args.toList ds gs before := DataW.Whole.of_heap (w' := w.forCall tape i) (by rfl) hw0
 have hXW:X (w.forCall tape i) := hX (by rfl) hpre.1.2
 have hW' := hW0
 obtain ⟨p,q,hA,hV,rfl,_,_⟩ := hW0
 have hg:gs=[] := by rw [hvars] at hV; exact (trodVars_none hV).1
 subst hg
 have hw:∀ d ∈ ds,Rows.uptoBulk d≤bulkTop := fun d hd=>by
  have h1:Rows.uptoBulkAll (ds ++ [])≤1048576 := of_decide_eq_true hk
  rw [List.append_nil] at h1
  exact Nat.le_trans (Q7j hd) h1
 obtain ⟨xs,a1,a2,a3⟩ := X8j (b0 := w.heap.size) (pre := []) (by simpa using h) (by simpa using hlen) hsl (fun j ty t e1 e2=>by
   refine List.all_eq_true.1 hc (ty,t) ?_
   rw [List.mem_iff_getElem?]
   exact ⟨j,by rw [List.getElem?_zip_eq_some]; exact ⟨e1,e2⟩⟩)
  (fun j t v e1 e2=>hval j t v (by simpa using e1) (by simpa using e2)) hw hA
 refine (J2m (by simpa using a1) (w.forCall tape i) (hgl hXW) i.args (by simpa using a2.symm) fun j v hj => ?_).mono fun e W' ⟨he,hb⟩ => ?_
 ·have hj':j<i.args.size := by
   have := (List.getElem?_eq_some_iff.1 hj).1
   simpa [a2] using this
  have := a3 j v i.args[j] hj (by simp [hj'])
  simpa [Array.getD_eq_getD_getElem?,hj'] using this
 ·subst he
  exact ChangeSpec.post_blind (X5l (s := s) hlo hvars hr htb hp hfnl hW' hb)
end
end Go.Proofs.YthlgaodaofpgoaaGreatDoor
