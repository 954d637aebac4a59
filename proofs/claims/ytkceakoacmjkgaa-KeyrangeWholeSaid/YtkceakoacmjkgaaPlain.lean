/-
  Plain words on ranges: the error of a merge, what a meeting is.
-/
import Derived.Test.YtkceakoacmjkgaaWalkA
import Derived.Lib.MinMaxS
namespace Go.Proofs.Ytkceakoacmjkgaa
open Go.RowKit

def noRange : Value := .agg #[.string ⟨#[]⟩, .string ⟨#[]⟩]

theorem room1 {w1 w2 : World} {o : Obj} (hb : Below (w1.alloc o).heap.size (w1.alloc o) w2) : w1.heap.size < w2.heap.size := by
  have := hb.size
  simp at this
  omega

theorem keep4 {W0 w : World} {p q r s : Addr} {a b c d : Value} (hp : p.block < W0.heap.size) (hq : q.block < W0.heap.size) (hr : r.block < W0.heap.size) (hs : s.block < W0.heap.size)
    (ep : W0.cell? p = some a) (eq : W0.cell? q = some b) (er : W0.cell? r = some c) (es : W0.cell? s = some d) (h : Below W0.heap.size W0 w) :
    w.cell? p = some a ∧ w.cell? q = some b ∧ w.cell? r = some c ∧ w.cell? s = some d ∧ Below W0.heap.size W0 w :=
  ⟨(h.cell hp).trans ep, (h.cell hq).trans eq, (h.cell hr).trans er, (h.cell hs).trans es, h⟩

theorem meet_facts {w w1 w2 : World} {t : TypeId} {a b c d : Value} (hb1 : Below (((w.alloc (.cells #[a, b] t)).alloc (.cells #[c, d] t)).alloc (.cells #[.string ⟨#[]⟩, .string ⟨#[]⟩] t)).heap.size (((w.alloc (.cells #[a, b] t)).alloc (.cells #[c, d] t)).alloc (.cells #[.string ⟨#[]⟩, .string ⟨#[]⟩] t)) w1)
    (hb2 : Below w1.heap.size w1 w2) :
    w.heap.size < w2.heap.size ∧ w.heap.size + 1 < w2.heap.size ∧ w.heap.size + 1 + 1 < w2.heap.size ∧ w2.cell? ⟨w.heap.size, 0, none⟩ = some a ∧ w2.cell? ⟨w.heap.size, 1, none⟩ = some b ∧
      w2.cell? ⟨w.heap.size + 1, 0, none⟩ = some c ∧ w2.cell? ⟨w.heap.size + 1, 1, none⟩ = some d ∧ w2.cell? ⟨w.heap.size + 1 + 1, 0, none⟩ = some (.string ⟨#[]⟩) ∧ w2.cell? ⟨w.heap.size + 1 + 1, 1, none⟩ = some (.string ⟨#[]⟩) ∧
      w2.frozen? ⟨w.heap.size + 1 + 1, 0, none⟩ = false ∧ w2.frozen? ⟨w.heap.size + 1 + 1, 1, none⟩ = false := by
  obtain ⟨z0, z1, z2⟩ := room3 hb1
  obtain ⟨hc1, hf1⟩ := bcell hb1
  obtain ⟨hc2, hf2⟩ := bcell hb2
  have := hb2.size
  refine ⟨by omega, by omega, by omega, ?_, ?_, ?_, ?_, ?_, ?_, ?_, ?_⟩
  all_goals simp [hc2, hc1, hf2, hf1, z0, z1, z2, go_sem]

/-- The upper end that two ranges have in common. -/
def meetHi (b d : ByteArray) : ByteArray := if b.toList.isEmpty || (!d.toList.isEmpty && Op.bytesLess d.toList b.toList) then d else b
end Go.Proofs.Ytkceakoacmjkgaa
