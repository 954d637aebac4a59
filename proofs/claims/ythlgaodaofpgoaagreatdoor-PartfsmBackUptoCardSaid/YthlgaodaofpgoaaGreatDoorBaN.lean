/-
  Proved here: PartfsmBack returns true for any part, any command and any bytes: a state that may be and a command that is well formed are written and read again as they were, and whatever bytes are read as one are just those that it is written with. Conditions: what it is given is of small bulk (2^20 at most in all); a variable holds the error of errors.New that the program laid there.
-/
import Derived.Test.YthlgaodaofpgoaaGreatDoorBaV
import Derived.Test.YthlgaodaofpgoaaGreatDoorLay
import Derived.Test.YthlgaodaofpgoaaGreatDoorDaM
import Derived.JoinedCond
namespace Go.Proofs.YthlgaodaofpgoaaGreatDoor
open Go.ChangeShapes Go.WideShapes Go.ChangeAt Go.RowKit
theorem bnd_of {lo up:ByteArray} {e z:Int} {r:List Rd} {ps:List Pr} {cs:List Cn} (h:(Ty.up (.st (.pair (.st (.pair (.str) (.pair (.str) (.unit)))) (.pair (.int .u64) (.pair (.int .u64) (.pair (.sl 64 (.st (.pair (.int .u64) (.pair (.str) (.pair (.sl 1 (.int .u8)) (.pair (.int .u64) (.pair (.int .u64) (.unit)))))))) (.pair (.sl 32 (.st (.pair (.int .u64) (.pair (.int .u64) (.pair (.bool) (.pair (.int .u64) (.unit))))))) (.pair (.sl 24 (.st (.pair (.str) (.pair (.int .u64) (.unit))))) (.unit))))))))).okD ((lo,up),e,z,r,ps,cs)):bndS (lo,up,e,z,r,ps,cs,()) := by
 obtain ⟨_,_,_,h1,h2,h3⟩ := h
 have a1:r.length * 134217727≤140737488351232 := h1.1
 have a2:ps.length * 134217727≤140737488351232 := h2.1
 have a3:cs.length * 134217727≤140737488351232 := h3.1
 exact ⟨by omega,by omega,⟨by omega,fun y hy=>⟨Nat.le_trans (h3.2.2 y hy).1 (by decide),(h3.2.2 y hy).2.1,Int.lt_of_le_of_lt (h3.2.2 y hy).2.2 (by decide)⟩⟩,fun y hy=>(h2.2.2 y hy).2.2.2.1⟩
theorem in_of {lo up:ByteArray} {e z:Int} {r:List Rd} {ps:List Pr} {cs:List Cn} (h:(Ty.up (.st (.pair (.st (.pair (.str) (.pair (.str) (.unit)))) (.pair (.int .u64) (.pair (.int .u64) (.pair (.sl 64 (.st (.pair (.int .u64) (.pair (.str) (.pair (.sl 1 (.int .u8)) (.pair (.int .u64) (.pair (.int .u64) (.unit)))))))) (.pair (.sl 32 (.st (.pair (.int .u64) (.pair (.int .u64) (.pair (.bool) (.pair (.int .u64) (.unit))))))) (.pair (.sl 24 (.st (.pair (.str) (.pair (.int .u64) (.unit))))) (.unit))))))))).okD ((lo,up),e,z,r,ps,cs)):inW (lo,up,e,z,r,ps,cs,()) := by
 obtain ⟨_,h1,h2,h3,h4,h5⟩ := h
 exact ⟨h1,h2,fun x hx=>⟨(h3.2.2 x hx).1,fun y hy=>(h3.2.2 x hx).2.2.1.2.2 y hy,(h3.2.2 x hx).2.2.2.1,(h3.2.2 x hx).2.2.2.2⟩,fun x hx=>⟨(h4.2.2 x hx).1,(h4.2.2 x hx).2.1,(h4.2.2 x hx).2.2.2⟩,fun x hx=>(h5.2.2 x hx).2⟩
theorem cmd_of {k ep pr sq:Int} {key:ByteArray} {v:List Int} {off most:Int} {name:ByteArray} {plan:Int} (h:(Ty.up (.st (.pair (.int .i64) (.pair (.int .u64) (.pair (.int .u64) (.pair (.int .u64) (.pair (.str) (.pair (.sl 1 (.int .u8)) (.pair (.int .u64) (.pair (.int .i64) (.pair (.str) (.pair (.int .u64) (.unit))))))))))))).okD (k,ep,pr,sq,key,v,off,most,name,plan)):cmdW (k,ep,pr,sq,key,v,off,most,name,plan,()) := by
 obtain ⟨h0,h1,h2,h3,h4,h5,h6,h7,h8,h9⟩ := h
 have a1:v.length * 134217727≤140737488351232 := h5.1
 exact ⟨h0,h1,h2,h3,h4,⟨by dsimp only; omega,fun y hy=>h5.2.2 y hy⟩,h6,h7,h8,h9⟩
theorem partfsmBackAll:Ty.alls [.st (.pair (.st (.pair (.txt) (.pair (.txt) (.unit)))) (.pair (.int .u64) (.pair (.int .u64) (.pair (.sl 134217727 (.st (.pair (.int .u64) (.pair (.txt) (.pair (.sl 134217727 (.int .u8)) (.pair (.int .u64) (.pair (.int .u64) (.unit)))))))) (.pair (.sl 134217727 (.st (.pair (.int .u64) (.pair (.int .u64) (.pair (.bool) (.pair (.int .u64) (.unit))))))) (.pair (.sl 134217727 (.st (.pair (.txt) (.pair (.int .u64) (.unit))))) (.unit))))))),.st (.pair (.int .i64) (.pair (.int .u64) (.pair (.int .u64) (.pair (.int .u64) (.pair (.txt) (.pair (.sl 134217727 (.int .u8)) (.pair (.int .u64) (.pair (.int .i64) (.pair (.txt) (.pair (.int .u64) (.unit))))))))))),.sl 134217727 (.int .u8)] fun xs=>FC Tryz.prog 7 [] xs ⟨[],[],.im (.val (.bool true))⟩ := by
 exact law_of (by rfl) (g7 8388608) (fun x hx c hc (y:List Int) hy=>by
  obtain ⟨⟨(lo:ByteArray),(up:ByteArray)⟩,(e:Int),(z:Int),(r:List Rd),(ps:List Pr),(cs:List Cn)⟩ := x
  obtain ⟨(k:Int),(ep:Int),(pr:Int),(sq:Int),(key:ByteArray),(v:List Int),(off:Int),(most:Int),(name:ByteArray),(plan:Int)⟩ := c
  have h1:y.length * 134217727≤140737488351232 := hy.1
  exact p7_is p9_b (by decide) (lo,up,e,z,r,ps,cs,()) (bnd_of hx) (in_of hx) (k,ep,pr,sq,key,v,off,most,name,plan,()) (cmd_of hc) y (fun a ha=>hy.2.2 a ha) (by omega))
set_option maxRecDepth 100000 in
theorem partfsmBack_liftedU (os:Os) (started:os.Started) (H:Type) (enc:TypeId×Value→H) (F:Stop.Interp) :
  ReturnsInHanded {} Tryz.checked os 7 .any (Rows.partfsmBackUptoRow.pre enc Tryz.prog Tryz.f7 (Rows.OpenSpec.upto Rows.partfsmBackSpec)) (((Rows.OpenSpec.upto Rows.partfsmBackSpec).at F).post enc Tryz.prog Tryz.f7 false true false false) :=
 law_liftedL (C := Tryz.checked) (X := laidMetH Tryz.prog laidBoth) ownK laidOut started (fun hh h=>h.of_heap hh) glw_of_laid (by kernel_rfl) Tryz.func7
  (witnessL (s := Rows.OpenSpec.upto Rows.partfsmBackSpec) (k := Rows.uptoSmall) (enc := enc) (C := Tryz.checked) rfl false (laidWorld os) #[.agg #[.string ⟨#[]⟩,.string ⟨#[]⟩,.int .u64 0,.int .u64 0,.slice none 0 0,.slice none 0 0,.slice none 0 0],.agg #[.int .i64 0,.int .u64 0,.int .u64 0,.int .u64 0,.string ⟨#[]⟩,.slice none 0 0,.int .u64 0,.int .i64 0,.string ⟨#[]⟩,.int .u64 0],.slice none 0 0] 8 rfl (by kernel_rfl) (by kernel_rfl) (by kernel_rfl) (by kernel_rfl) (by kernel_rfl) (laidWorld_met os _))
  rfl rfl Tryz.underlying4 (of_decide_eq_true (by kernel_rfl)) (fun l hl=>by match l,hl with | [_,_,_],_=>rfl)
  [.st (.pair (.st (.pair (.str) (.pair (.str) (.unit)))) (.pair (.int .u64) (.pair (.int .u64) (.pair (.sl 64 (.st (.pair (.int .u64) (.pair (.str) (.pair (.sl 1 (.int .u8)) (.pair (.int .u64) (.pair (.int .u64) (.unit)))))))) (.pair (.sl 32 (.st (.pair (.int .u64) (.pair (.int .u64) (.pair (.bool) (.pair (.int .u64) (.unit))))))) (.pair (.sl 24 (.st (.pair (.str) (.pair (.int .u64) (.unit))))) (.unit))))))),.st (.pair (.int .i64) (.pair (.int .u64) (.pair (.int .u64) (.pair (.int .u64) (.pair (.str) (.pair (.sl 1 (.int .u8)) (.pair (.int .u64) (.pair (.int .i64) (.pair (.str) (.pair (.int .u64) (.unit))))))))))),.sl 1 (.int .u8)] rfl (by kernel_rfl) (by kernel_rfl) partfsmBackAll F
theorem partfsmBack_holdsU:Rows.PartfsmBackUptoSaid :=
 OpenClaim.holds_of_cond 7 Tryz.f7 rfl rfl rfl rfl rfl rfl rfl ⟨rfl,rfl,rfl,rfl,rfl⟩ rfl rfl rfl rfl rfl (by kernel_rfl) Tryz.func7 (by kernel_rfl)
  (of_decide_eq_true (by kernel_rfl)) (by unfold Func.isWrapper; first | (rw [if_pos (by decide +kernel)]; kernel_rfl) | (rw [if_neg (by decide +kernel)]; exact ⟨rfl,rfl⟩))
  (fun os started H enc _ F=>partfsmBack_liftedU os started H enc F)
theorem partfsmBack_card:Rows.PartfsmBackUptoCardSaid :=
 Claim7.holds_tied_plain_at .later [] [.handle, .sentinel] true (true, "1564d9232a8b52f6b5e77993be48f1639f5d26f7a25a3c2d8d9b29a7a8f05ace") true
  partfsmBack_holdsU (fun _ h=>by cases h) (by kernel_rfl) (fun _ h=>by cases h) partfsmBackUpto_row_tie rfl ⟨rfl,rfl⟩ (by kernel_rfl) rfl
  (fun f fn hf hfn=>by
   obtain rfl : f = 7 := Option.some.inj ((show Tryz.prog.funcNamed "gazette/gazettelaw16.PartfsmBack" = some 7 by kernel_rfl).symm.trans hf) |>.symm
   obtain rfl:fn=Tryz.f7 := (Option.some.inj (Tryz.func7.symm.trans hfn)).symm
   exact ⟨by kernel_rfl,fun j t ht=>by
    have hall:(Tryz.f7.params.toList.all fun t => !Tryz.prog.wantsStandIn t)=true := by kernel_rfl
    have hm:t ∈ Tryz.f7.params.toList := by
     rw [Array.mem_toList_iff]
     exact Array.mem_of_getElem? ht
    have h3 := List.all_eq_true.1 hall t hm
    have h4:Tryz.prog.wantsStandIn t=false := by simpa using h3
    exact h4⟩)
  (by kernel_rfl)
#print axioms partfsmBack_card
end Go.Proofs.YthlgaodaofpgoaaGreatDoor
