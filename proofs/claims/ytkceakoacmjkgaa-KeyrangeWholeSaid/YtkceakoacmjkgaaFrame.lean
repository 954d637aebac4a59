/-
  Words on cells that stand while calls make memory.
-/
import Derived.Test.YtkceakoacmjkgaaLaw
import Derived.BigQuiet
namespace Go.Proofs.Ytkceakoacmjkgaa
open Go.RowKit

/-- What stood below stands. -/
def Stays (W w1 : World) : Prop := ∀ b o v, b < W.heap.size → W.cell? ⟨b, o, none⟩ = some v → w1.cell? ⟨b, o, none⟩ = some v ∧ b < w1.heap.size
theorem Stays.two {W w1 : World} (h : Stays W w1) {b : Nat} {u v : Value} (z : b < W.heap.size) (e : W.cell? ⟨b, 0, none⟩ = some u) (f : W.cell? ⟨b, 1, none⟩ = some v) :
    w1.cell? ⟨b, 0, none⟩ = some u ∧ w1.cell? ⟨b, 1, none⟩ = some v ∧ b < w1.heap.size := ⟨(h _ _ _ z e).1, (h _ _ _ z f).1, (h _ _ _ z e).2⟩
theorem adv0 {W w1 : World} (hb : Below W.heap.size W w1) : Stays W w1 :=
  fun b o _ h e => ⟨(hb.cell (p := ⟨b, o, none⟩) h).trans e, Nat.lt_of_lt_of_le h hb.size⟩
theorem adva (w : World) (t : TypeId) (x0 x1 : Value) : Stays w (w.alloc (.cells #[x0, x1] t)) ∧ (w.alloc (.cells #[x0, x1] t)).cell? ⟨w.heap.size, 0, none⟩ = some x0 ∧ (w.alloc (.cells #[x0, x1] t)).cell? ⟨w.heap.size, 1, none⟩ = some x1 ∧ w.heap.size < (w.alloc (.cells #[x0, x1] t)).heap.size := by
  refine ⟨fun b o _ h e => ⟨?_, by simp; omega⟩, ?_, ?_, by simp⟩
  · rw [World.cell?_alloc_lt _ _ _ (by simpa using h), e]
  · simp [go_sem]
  · simp [go_sem]
theorem adv1 {w1 w2 : World} {t : TypeId} {x0 x1 : Value} (hb : Below (w1.alloc (.cells #[x0, x1] t)).heap.size (w1.alloc (.cells #[x0, x1] t)) w2) :
    Stays w1 w2 ∧ w2.cell? ⟨w1.heap.size, 0, none⟩ = some x0 ∧ w2.cell? ⟨w1.heap.size, 1, none⟩ = some x1 ∧ w1.heap.size < w2.heap.size := by
  obtain ⟨hs, h0, h1, hz⟩ := adva w1 t x0 x1
  have k := adv0 hb
  exact ⟨fun _ _ _ h e => k _ _ _ (hs _ _ _ h e).2 (hs _ _ _ h e).1, (k.two hz h0 h1).1, (k.two hz h0 h1).2.1, (k.two hz h0 h1).2.2⟩
theorem adv2 {w1 w2 : World} {t : TypeId} {x0 x1 y0 y1 : Value} (hb : Below ((w1.alloc (.cells #[x0, x1] t)).alloc (.cells #[y0, y1] t)).heap.size ((w1.alloc (.cells #[x0, x1] t)).alloc (.cells #[y0, y1] t)) w2) :
    Stays w1 w2 ∧ w2.cell? ⟨w1.heap.size, 0, none⟩ = some x0 ∧ w2.cell? ⟨w1.heap.size, 1, none⟩ = some x1 ∧ w1.heap.size < w2.heap.size ∧
      w2.cell? ⟨w1.heap.size + 1, 0, none⟩ = some y0 ∧ w2.cell? ⟨w1.heap.size + 1, 1, none⟩ = some y1 ∧ w1.heap.size + 1 < w2.heap.size := by
  obtain ⟨hs, h0, h1, hz⟩ := adva w1 t x0 x1
  obtain ⟨k, k0, k1, kz⟩ := adv1 hb
  have e : (w1.alloc (.cells #[x0, x1] t)).heap.size = w1.heap.size + 1 := by simp
  rw [e] at k0 k1 kz
  exact ⟨fun _ _ _ h e => k _ _ _ (hs _ _ _ h e).2 (hs _ _ _ h e).1, (k.two hz h0 h1).1, (k.two hz h0 h1).2.1, (k.two hz h0 h1).2.2, k0, k1, kz⟩


/-- A region that draws its order, walked once in the order of the text, in a class of worlds. -/
theorem wp_region_in {P : Program} {id : Nat} {Q : Exit → Act → World → Prop} {a : Act} {w : World} {l : List Oper} (C : World → Prop) (hm : P.follows .mixedOrders = true) (hB : Region.lexB .any l.toArray = true) (hC : C w.drew)
    (h : wpQuiet P l.toArray C (fun a' => ∀ w', C w' → Q .normal a' w') l a) : (Code.region id l.toArray true).wp P Q a w :=
  wp_region_quiet hm hB hC (by simpa using h)
end Go.Proofs.Ytkceakoacmjkgaa
