/-
  Proved here: PartfsmApplies returns true for any part, any commands and any bytes: a command as it is written does and answers what the command does, and bytes that are no command change nothing. Conditions: what it is given is of small bulk (2^20 at most in all); a variable holds the error of errors.New that the program laid there.
-/
import Derived.Test.YthlgaodaofpgoaaGreatDoorBrV
import Derived.Test.YthlgaodaofpgoaaGreatDoorLay
import Derived.Test.YthlgaodaofpgoaaGreatDoorDaM
import Derived.JoinedCond
namespace Go.Proofs.YthlgaodaofpgoaaGreatDoor
open Go.ChangeShapes Go.WideShapes Go.ChangeAt Go.RowKit
theorem X8k {lo up:ByteArray} {e z:Int} {r:List Rd} {ps:List Pr} {cs:List Cn} (h:(Ty.up (.st (.pair (.st (.pair (.str) (.pair (.str) (.unit)))) (.pair (.int .u64) (.pair (.int .u64) (.pair (.sl 64 (.st (.pair (.int .u64) (.pair (.str) (.pair (.sl 1 (.int .u8)) (.pair (.int .u64) (.pair (.int .u64) (.unit)))))))) (.pair (.sl 32 (.st (.pair (.int .u64) (.pair (.int .u64) (.pair (.bool) (.pair (.int .u64) (.unit))))))) (.pair (.sl 24 (.st (.pair (.str) (.pair (.int .u64) (.unit))))) (.unit))))))))).okD ((lo,up),e,z,r,ps,cs)):bndS (lo,up,e,z,r,ps,cs,()) := by
 obtain ⟨_,_,_,h1,h2,h3⟩ := h
 have a1:r.length * 134217727≤140737488351232 := h1.1
 have a2:ps.length * 134217727≤140737488351232 := h2.1
 have a3:cs.length * 134217727≤140737488351232 := h3.1
 exact ⟨by omega,by omega,⟨by omega,fun y hy=>⟨Nat.le_trans (h3.2.2 y hy).1 (by decide),(h3.2.2 y hy).2.1,Int.lt_of_le_of_lt (h3.2.2 y hy).2.2 (by decide)⟩⟩,fun y hy=>(h2.2.2 y hy).2.2.2.1⟩
theorem X8l {lo up:ByteArray} {e z:Int} {r:List Rd} {ps:List Pr} {cs:List Cn} (h:(Ty.up (.st (.pair (.st (.pair (.str) (.pair (.str) (.unit)))) (.pair (.int .u64) (.pair (.int .u64) (.pair (.sl 64 (.st (.pair (.int .u64) (.pair (.str) (.pair (.sl 1 (.int .u8)) (.pair (.int .u64) (.pair (.int .u64) (.unit)))))))) (.pair (.sl 32 (.st (.pair (.int .u64) (.pair (.int .u64) (.pair (.bool) (.pair (.int .u64) (.unit))))))) (.pair (.sl 24 (.st (.pair (.str) (.pair (.int .u64) (.unit))))) (.unit))))))))).okD ((lo,up),e,z,r,ps,cs)):inW (lo,up,e,z,r,ps,cs,()) := by
 obtain ⟨_,h1,h2,h3,h4,h5⟩ := h
 exact ⟨h1,h2,fun x hx=>⟨(h3.2.2 x hx).1,fun y hy=>(h3.2.2 x hx).2.2.1.2.2 y hy,(h3.2.2 x hx).2.2.2.1,(h3.2.2 x hx).2.2.2.2⟩,fun x hx=>⟨(h4.2.2 x hx).1,(h4.2.2 x hx).2.1,(h4.2.2 x hx).2.2.2⟩,fun x hx=>(h5.2.2 x hx).2⟩
theorem X8m {k ep pr sq:Int} {key:ByteArray} {v:List Int} {off most:Int} {name:ByteArray} {plan:Int} (h:(Ty.up (.st (.pair (.int .i64) (.pair (.int .u64) (.pair (.int .u64) (.pair (.int .u64) (.pair (.str) (.pair (.sl 1 (.int .u8)) (.pair (.int .u64) (.pair (.int .i64) (.pair (.str) (.pair (.int .u64) (.unit))))))))))))).okD (k,ep,pr,sq,key,v,off,most,name,plan)):cmdW (k,ep,pr,sq,key,v,off,most,name,plan,()) := by
 obtain ⟨h0,h1,h2,h3,h4,h5,h6,h7,h8,h9⟩ := h
 have a1:v.length * 134217727≤140737488351232 := h5.1
 exact ⟨h0,h1,h2,h3,h4,⟨by dsimp only; omega,fun y hy=>h5.2.2 y hy⟩,h6,h7,h8,h9⟩
theorem partfsmAppliesAll:Ty.alls [.st (.pair (.st (.pair (.txt) (.pair (.txt) (.unit)))) (.pair (.int .u64) (.pair (.int .u64) (.pair (.sl 134217727 (.st (.pair (.int .u64) (.pair (.txt) (.pair (.sl 134217727 (.int .u8)) (.pair (.int .u64) (.pair (.int .u64) (.unit)))))))) (.pair (.sl 134217727 (.st (.pair (.int .u64) (.pair (.int .u64) (.pair (.bool) (.pair (.int .u64) (.unit))))))) (.pair (.sl 134217727 (.st (.pair (.txt) (.pair (.int .u64) (.unit))))) (.unit))))))),.sl 134217727 (.st (.pair (.int .i64) (.pair (.int .u64) (.pair (.int .u64) (.pair (.int .u64) (.pair (.txt) (.pair (.sl 134217727 (.int .u8)) (.pair (.int .u64) (.pair (.int .i64) (.pair (.txt) (.pair (.int .u64) (.unit)))))))))))),.sl 134217727 (.int .u8)] fun xs=>FC Tryz.prog 8 [] xs ⟨[],[],.im (.val (.bool true))⟩ := by
 exact K7k (by rfl) (g8 8388608) (fun x hx (l:List D_api_PartCommand) hl (y:List Int) hy=>by
  obtain ⟨⟨(lo:ByteArray),(up:ByteArray)⟩,(e:Int),(z:Int),(r:List Rd),(ps:List Pr),(cs:List Cn)⟩ := x
  have h1:y.length * 134217727≤140737488351232 := hy.1
  have h2:l.length * 134217727≤140737488351232 := hl.1
  exact K3l p9_b (by decide) (lo,up,e,z,r,ps,cs,()) (X8k hx) (X8l hx) l (by omega) (fun w hw=>by
   obtain ⟨(k:Int),(ep:Int),(pr:Int),(sq:Int),(key:ByteArray),(v:List Int),(off:Int),(most:Int),(name:ByteArray),(plan:Int)⟩ := w
   exact X8m (hl.2.2 _ hw)) y ⟨fun a ha=>hy.2.2 a ha,by omega,by decide⟩)
set_option maxRecDepth 100000 in
theorem partfsmApplies_liftedU (os:Os) (started:os.Started) (H:Type) (enc:TypeId×Value→H) (F:Stop.Interp) :
  ReturnsInHanded {} Tryz.checked os 8 .any (Rows.partfsmAppliesUptoRow.pre enc Tryz.prog Tryz.f8 (Rows.OpenSpec.upto Rows.partfsmAppliesSpec)) (((Rows.OpenSpec.upto Rows.partfsmAppliesSpec).at F).post enc Tryz.prog Tryz.f8 false true false false) :=
 K9c (C := Tryz.checked) (X := laidMetH Tryz.prog laidBoth) ownK K8p started (fun hh h=>h.of_heap hh) K8z (by kernel_rfl) Tryz.func8
  (K9b (s := Rows.OpenSpec.upto Rows.partfsmAppliesSpec) (k := Rows.uptoSmall) (enc := enc) (C := Tryz.checked) rfl false (laidWorld os) #[.agg #[.string ⟨#[]⟩,.string ⟨#[]⟩,.int .u64 0,.int .u64 0,.slice none 0 0,.slice none 0 0,.slice none 0 0],.slice none 0 0,.slice none 0 0] 8 rfl (by kernel_rfl) (by kernel_rfl) (by kernel_rfl) (by kernel_rfl) (by kernel_rfl) (K9a os _))
  rfl rfl Tryz.underlying4 (of_decide_eq_true (by kernel_rfl)) (fun l hl=>by match l,hl with | [_,_,_],_=>rfl)
  [.st (.pair (.st (.pair (.str) (.pair (.str) (.unit)))) (.pair (.int .u64) (.pair (.int .u64) (.pair (.sl 64 (.st (.pair (.int .u64) (.pair (.str) (.pair (.sl 1 (.int .u8)) (.pair (.int .u64) (.pair (.int .u64) (.unit)))))))) (.pair (.sl 32 (.st (.pair (.int .u64) (.pair (.int .u64) (.pair (.bool) (.pair (.int .u64) (.unit))))))) (.pair (.sl 24 (.st (.pair (.str) (.pair (.int .u64) (.unit))))) (.unit))))))),.sl 112 (.st (.pair (.int .i64) (.pair (.int .u64) (.pair (.int .u64) (.pair (.int .u64) (.pair (.str) (.pair (.sl 1 (.int .u8)) (.pair (.int .u64) (.pair (.int .i64) (.pair (.str) (.pair (.int .u64) (.unit)))))))))))),.sl 1 (.int .u8)] rfl (by kernel_rfl) (by kernel_rfl) partfsmAppliesAll F
theorem partfsmApplies_holdsU:Rows.PartfsmAppliesUptoSaid :=
 OpenClaim.holds_of_cond 8 Tryz.f8 rfl rfl rfl rfl rfl rfl rfl ⟨rfl,rfl,rfl,rfl,rfl⟩ rfl rfl rfl rfl rfl (by kernel_rfl) Tryz.func8 (by kernel_rfl)
  (of_decide_eq_true (by kernel_rfl)) (by unfold Func.isWrapper; first | (rw [if_pos (by decide +kernel)]; kernel_rfl) | (rw [if_neg (by decide +kernel)]; exact ⟨rfl,rfl⟩))
  (fun os started H enc _ F=>partfsmApplies_liftedU os started H enc F)
theorem partfsmApplies_card:Rows.PartfsmAppliesUptoCardSaid :=
 Claim7.holds_tied_plain_at .later [] [.handle, .sentinel] true (true, "1564d9232a8b52f6b5e77993be48f1639f5d26f7a25a3c2d8d9b29a7a8f05ace") true
  partfsmApplies_holdsU (fun _ h=>by cases h) (by kernel_rfl) (fun _ h=>by cases h) partfsmAppliesUpto_row_tie rfl ⟨rfl,rfl⟩ (by kernel_rfl) rfl
  (fun f fn hf hfn=>by
   obtain rfl : f = 8 := Option.some.inj ((show Tryz.prog.funcNamed "gazette/gazettelaw16.PartfsmApplies" = some 8 by kernel_rfl).symm.trans hf) |>.symm
   obtain rfl:fn=Tryz.f8 := (Option.some.inj (Tryz.func8.symm.trans hfn)).symm
   exact ⟨by kernel_rfl,fun j t ht=>by
    have hall:(Tryz.f8.params.toList.all fun t => !Tryz.prog.wantsStandIn t)=true := by kernel_rfl
    have hm:t ∈ Tryz.f8.params.toList := by
     rw [Array.mem_toList_iff]
     exact Array.mem_of_getElem? ht
    have h3 := List.all_eq_true.1 hall t hm
    have h4:Tryz.prog.wantsStandIn t=false := by simpa using h3
    exact h4⟩)
  (by kernel_rfl)
#print axioms partfsmApplies_card
end Go.Proofs.YthlgaodaofpgoaaGreatDoor
