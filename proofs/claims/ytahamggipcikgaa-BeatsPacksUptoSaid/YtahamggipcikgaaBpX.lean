/-
  Proved here: BeatsPacks returns true for any node and any messages: the packets are those that the document makes; its arguments read afterwards as before. Conditions: what it is given is of small bulk (2^20 at most in all).
-/
import Derived.Test.YtahamggipcikgaaUp
import Derived.Test.YtahamggipcikgaaBpM
import Derived.Test.YtahamggipcikgaaDaM
import Derived.Test.YtahamggipcikgaaLaw
namespace Go.Proofs.Ytahamggipcikgaa
open Go.ChangeShapes Go.WideShapes Go.ChangeAt Go.RowKit
theorem sl20 {α : Type} {l : List α} (h : l.length * 134217727 ≤ 140737488351232) : l.length ≤ 1048576 := by omega
theorem confOk_of {v l : List Int} (h : (Ty.up (.st (.pair (.sl 8 (.int .i64)) (.pair (.sl 8 (.int .i64)) (.unit))))).okD (v, l)) : confOk FU v l := by
  obtain ⟨h1, h2⟩ := h
  have a1 := sl20 h1.1
  have a2 := sl20 h2.1
  exact ⟨fun x hx => h1.2.2 x hx, fun x hx => h2.2.2 x hx, a1, a2, Nat.lt_of_le_of_lt a1 (by decide), Nat.lt_of_le_of_lt a2 (by decide)⟩
theorem entOk_of {y : EN} (h : (Ty.up (.st (.pair (.int .u64) (.pair (.int .u64) (.pair (.int .i64) (.pair (.sl 1 (.int .u8)) (.pair (.st (.pair (.sl 8 (.int .i64)) (.pair (.sl 8 (.int .i64)) (.unit)))) (.unit)))))))).okD y) : Bq.EntOk FU y := by
  obtain ⟨i, t, k, d, v, c⟩ := y
  obtain ⟨h1, h2, h3, h4, h5⟩ := h
  exact ⟨h1, h2, h3, confOk_of h5⟩
theorem wrOk_of {x : WR} (h : (Ty.up (.st (.pair (.int .u64) (.pair (.st (.pair (.int .i64) (.pair (.int .i64) (.pair (.int .i64) (.pair (.int .u64) (.pair (.int .u64) (.pair (.int .u64) (.pair (.sl 96 (.st (.pair (.int .u64) (.pair (.int .u64) (.pair (.int .i64) (.pair (.sl 1 (.int .u8)) (.pair (.st (.pair (.sl 8 (.int .i64)) (.pair (.sl 8 (.int .i64)) (.unit)))) (.unit)))))))) (.pair (.int .u64) (.pair (.bool) (.pair (.int .u64) (.pair (.st (.pair (.sl 8 (.int .i64)) (.pair (.sl 8 (.int .i64)) (.unit)))) (.pair (.sl 1 (.int .u8)) (.pair (.bool) (.unit))))))))))))))) (.unit))))).okD x) : Bq.WrOk FU x := by
  obtain ⟨g, kd, fr, to, t, i, lt, l, c, rj, hn, ⟨cv, cl⟩, dt, dn⟩ := x
  obtain ⟨hg, hk, hfr, hto, ht, hi, hlt, hl, hc, hrj, hhn, hcf, hdt, hdn⟩ := h
  have a1 : List.length l ≤ 1048576 := sl20 hl.1
  exact ⟨hg, hk, ht, hi, hlt, fun y hy => entOk_of (hl.2.2 y hy), Nat.lt_of_le_of_lt a1 (by decide), a1, hc, hhn, confOk_of hcf⟩
theorem dtOk_of {x : WR} (h : (Ty.up (.st (.pair (.int .u64) (.pair (.st (.pair (.int .i64) (.pair (.int .i64) (.pair (.int .i64) (.pair (.int .u64) (.pair (.int .u64) (.pair (.int .u64) (.pair (.sl 96 (.st (.pair (.int .u64) (.pair (.int .u64) (.pair (.int .i64) (.pair (.sl 1 (.int .u8)) (.pair (.st (.pair (.sl 8 (.int .i64)) (.pair (.sl 8 (.int .i64)) (.unit)))) (.unit)))))))) (.pair (.int .u64) (.pair (.bool) (.pair (.int .u64) (.pair (.st (.pair (.sl 8 (.int .i64)) (.pair (.sl 8 (.int .i64)) (.unit)))) (.pair (.sl 1 (.int .u8)) (.pair (.bool) (.unit))))))))))))))) (.unit))))).okD x) : List.length x.2.2.2.2.2.2.2.2.2.2.2.2.1 ≤ 1048576 := by
  obtain ⟨g, kd, fr, to, t, i, lt, l, c, rj, hn, ⟨cv, cl⟩, dt, dn⟩ := x
  obtain ⟨hg, hk, hfr, hto, ht, hi, hlt, hl, hc, hrj, hhn, hcf, hdt, hdn⟩ := h
  exact sl20 hdt.1
theorem beatsPacksAll : Ty.alls [.int .i64, .sl 134217727 (.st (.pair (.int .u64) (.pair (.st (.pair (.int .i64) (.pair (.int .i64) (.pair (.int .i64) (.pair (.int .u64) (.pair (.int .u64) (.pair (.int .u64) (.pair (.sl 134217727 (.st (.pair (.int .u64) (.pair (.int .u64) (.pair (.int .i64) (.pair (.sl 134217727 (.int .u8)) (.pair (.st (.pair (.sl 134217727 (.int .i64)) (.pair (.sl 134217727 (.int .i64)) (.unit)))) (.unit)))))))) (.pair (.int .u64) (.pair (.bool) (.pair (.int .u64) (.pair (.st (.pair (.sl 134217727 (.int .i64)) (.pair (.sl 134217727 (.int .i64)) (.unit)))) (.pair (.sl 134217727 (.int .u8)) (.pair (.bool) (.unit))))))))))))))) (.unit))))] fun xs => FC Try.prog 3 [] xs ⟨[], [], .im (.val (.bool true))⟩ := by
  exact law_of (by rfl) (g3 FU) (fun (fr : Int) _ (l : List WR) hl => p3_is fr l (sl20 hl.1) (fun x hx => wrOk_of (hl.2.2 x hx)) (fun x hx => dtOk_of (hl.2.2 x hx)) p5_is (by decide))

set_option maxRecDepth 100000 in
theorem beatsPacks_liftedU (os : Os) (started : os.Started) (H : Type) (enc : TypeId × Value → H) (F : Stop.Interp) :
    ReturnsInHanded {} Try.checked os 3 .any ((Rows.OpenSpec.upto Rows.beatsPacksSpec).pre6 enc Try.prog Try.f3 Rows.beatsPacksUptoRow.domain false) (((Rows.OpenSpec.upto Rows.beatsPacksSpec).at F).post enc Try.prog Try.f3 false true false false) :=
  law_liftedU (C := Try.checked) ownK laidOut started (by kernel_rfl) Try.func3
    (witnessU (s := Rows.OpenSpec.upto Rows.beatsPacksSpec) (k := Rows.uptoSmall) (enc := enc) (C := Try.checked) rfl false ⟨#[], #[.int .i64 0, .slice none 0 0], []⟩ 8 (by kernel_rfl) (by kernel_rfl) (by kernel_rfl) (by kernel_rfl) (by kernel_rfl))
    rfl rfl Try.underlying4 (of_decide_eq_true (by kernel_rfl)) (fun l hl => by match l, hl with | [_, _], _ => rfl)
    [.int .i64, .sl 184 (.st (.pair (.int .u64) (.pair (.st (.pair (.int .i64) (.pair (.int .i64) (.pair (.int .i64) (.pair (.int .u64) (.pair (.int .u64) (.pair (.int .u64) (.pair (.sl 96 (.st (.pair (.int .u64) (.pair (.int .u64) (.pair (.int .i64) (.pair (.sl 1 (.int .u8)) (.pair (.st (.pair (.sl 8 (.int .i64)) (.pair (.sl 8 (.int .i64)) (.unit)))) (.unit)))))))) (.pair (.int .u64) (.pair (.bool) (.pair (.int .u64) (.pair (.st (.pair (.sl 8 (.int .i64)) (.pair (.sl 8 (.int .i64)) (.unit)))) (.pair (.sl 1 (.int .u8)) (.pair (.bool) (.unit))))))))))))))) (.unit))))] rfl (by kernel_rfl) (by kernel_rfl) beatsPacksAll F

theorem beatsPacks_holdsU : Rows.BeatsPacksUptoSaid :=
  OpenClaim.holds_of_cond 3 Try.f3 rfl rfl rfl rfl rfl rfl rfl ⟨rfl, rfl, rfl, rfl, rfl⟩ rfl rfl rfl rfl rfl (by kernel_rfl) Try.func3 (by kernel_rfl)
    (of_decide_eq_true (by kernel_rfl)) (by unfold Func.isWrapper; first | (rw [if_pos (by decide +kernel)]; kernel_rfl) | (rw [if_neg (by decide +kernel)]; exact ⟨rfl, rfl⟩))
    (fun os started H enc _ F => beatsPacks_liftedU os started H enc F)
#print axioms beatsPacks_holdsU
end Go.Proofs.Ytahamggipcikgaa
