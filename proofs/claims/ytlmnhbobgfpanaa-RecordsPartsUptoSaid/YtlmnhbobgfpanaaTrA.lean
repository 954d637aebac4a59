/-
  Trees: what a value reads as, what a call owns, and what stays of it when the world goes on. General; nothing of this program.
-/
import Derived.WalkKit
import Derived.Below
import Derived.Orders
import Derived.KernelRfl
import Derived.Lib.Hide
import Derived.Maps.AppendAt
import Derived.OwnWalk
import Derived.Test.YtlmnhbobgfpanaaGl
namespace Go.Proofs.Ytlmnhbobgfpanaa
open Go.RowKit

inductive Qc where
  | any | new | old | mid | saf
abbrev Sees := Qc → Nat → Nat → Prop
def Qc.young : Qc → Bool
  | .any | .new | .saf => true
  | .old | .mid => false
def Qc.wr : Qc → Bool
  | .new | .mid => true
  | .any | .old | .saf => false
def Mono (b : Sees) : Prop := (∀ q g k, b q g k → b .any g k) ∧ ∀ q g k, q = .new ∨ q = .old → b q g k → b .saf g k
def look (w : World) (g k : Nat) : Option Value × Bool := (w.cell? ⟨g, k, none⟩, w.frozen? ⟨g, k, none⟩)
theorem look_of_block {w w' : World} {g k : Nat} (h : w'.heap[g]? = w.heap[g]?) : look w' g k = look w g k := by
  unfold look
  rw [World.cell?_of_block h]
  congr 1
  simp only [World.frozen?, h]
theorem look_cell {w w' : World} {g k : Nat} (h : look w' g k = look w g k) : w'.cell? ⟨g, k, none⟩ = w.cell? ⟨g, k, none⟩ := congrArg Prod.fst h
theorem look_frozen {w w' : World} {g k : Nat} (h : look w' g k = look w g k) : w'.frozen? ⟨g, k, none⟩ = w.frozen? ⟨g, k, none⟩ := congrArg Prod.snd h
theorem frozen_row {w : World} {g k : Nat} {cs : Array Value} {e : TypeId} (h : w.heap[g]? = some (.cells cs e (0, 0))) : w.frozen? ⟨g, k, none⟩ = false := by
  simp only [World.frozen?, h]
  simp
def Okw (ok : Sees) (w : World) (q : Qc) (g k : Nat) : Prop := ok q g k ∧ (q.wr = true → w.frozen? ⟨g, k, none⟩ = false)
inductive Nk where
  | int (k : IntKind)
  | str
def Nk.has : Nk → Value → Prop
  | .int k, x => ∃ n : Int, x = .int k n
  | .str, x => ∃ s : ByteArray, x = .string s
inductive T where
  | val (v : Value)
  | agg (n : Nat) (f : Nat → T)
  | sl (q : Qc) (size n : Nat) (f : Nat → Nat → T)
  | slr (q : Qc) (size n m : Nat) (f : Nat → Nat → T)
  | ifc (t : TypeId) (v : T)
  | anyb
  | opq
  | anyn (κ : Nk)
  | glo (g : Nat) (t : TypeId)

inductive V where
  | dead
  | im (t : T)
  | agg (n : Nat) (f : Nat → V)
  | tup (n : Nat) (f : Nat → V)
  | buf (id ver off len : Nat)
  | ptr (id ver i j : Nat)
  | elem (q : Qc) (size n : Nat) (f : Nat → Nat → T) (i j : Nat)
  | ifc (t : TypeId) (v : V)
  | clo (fn : FuncId) (n : Nat) (fst : Nat → V) (m : Nat) (cap : Nat → V)
  | mp (id : Nat)
  | vsl (id len : Nat)

inductive Zc where
  | int (k : IntKind) | bool | str | sl | ptr
  deriving DecidableEq
def Zc.val : Zc → Value
  | .int k => .int k 0
  | .bool => .bool false
  | .str => .string ⟨#[]⟩
  | .sl => .slice none 0 0
  | .ptr => .pointer none
def Zc.of : Value → Option Zc
  | .int k 0 => some (.int k)
  | .bool false => some .bool
  | .slice none 0 0 => some .sl
  | .pointer none => some .ptr
  | .string s => if s = ⟨#[]⟩ then some .str else none
  | _ => none
theorem Zc.of_val : ∀ {v : Value} {z : Zc}, Zc.of v = some z → z.val = v := by
  intro v z h
  unfold Zc.of at h
  split at h
  · cases h; rfl
  · cases h; rfl
  · cases h; rfl
  · cases h; rfl
  · split at h
    · rename_i hs; cases h; rw [hs]; rfl
    · cases h
  · cases h
def rmOf : List Value → Option (List Zc)
  | [] => some []
  | v :: l => match Zc.of v, rmOf l with
    | some z, some zs => some (z :: zs)
    | _, _ => none
theorem rmOf_some : ∀ {l : List Value} {zs : List Zc}, rmOf l = some zs → zs.length = l.length ∧ ∀ j, j < l.length → (zs.getD j .ptr).val = l.getD j undef
  | [], zs, h => by cases h; exact ⟨rfl, fun j hj => absurd hj (Nat.not_lt_zero _)⟩
  | v :: l, zs, h => by
    unfold rmOf at h
    split at h
    · rename_i z zs' h1 h2
      cases h
      obtain ⟨a, b⟩ := rmOf_some h2
      refine ⟨by simp [a], fun j hj => ?_⟩
      cases j with
      | zero => exact Zc.of_val h1
      | succ j => exact b j (Nat.lt_of_succ_lt_succ hj)
    · cases h
inductive Zz where
  | own (rm : Option (List Zc)) | app | sh

inductive Ob where
  | var (e : TypeId) (size : Nat) (f : Nat → V)
  | arr (z : Zz) (e : TypeId) (size ver n : Nat) (f : Nat → Nat → T)
  | map (agg : Bool) (sz n : Nat) (key : Nat → Value) (f : Nat → Nat → T)
  | gone (ver : Nat)

def Ob.ver : Ob → Nat
  | .var .. => 0
  | .arr _ _ _ v _ _ => v
  | .map .. => 0
  | .gone v => v
def Ob.live : Ob → Bool
  | .gone _ => false
  | .arr .sh _ _ _ _ _ => false
  | _ => true
def Ob.held : Ob → Bool
  | .gone _ => false
  | _ => true
def Ob.isMap : Ob → Bool
  | .map .. => true
  | _ => false
def Ob.isVar : Ob → Bool
  | .var .. => true
  | _ => false
def Ob.size : Ob → Nat
  | .var _ s _ => s
  | .arr _ _ s _ _ _ => s
  | .map .. => 0
  | .gone _ => 0

def Ob.lo : Ob → Nat
  | .arr .app _ s _ n _ => n * s
  | _ => 0

abbrev Ow := Nat → Option Ob
abbrev Pl := Nat → Option Nat

def own (ρ : Pl) (O : Ow) (g : Nat) : Prop := ∃ id o, O id = some o ∧ o.live = true ∧ ρ id = some g

def ownc (ρ : Pl) (O : Ow) (g k : Nat) : Prop := ∃ id o, O id = some o ∧ o.live = true ∧ ρ id = some g ∧ o.lo ≤ k

def T.rel (ok : Sees) (w : World) : T → Value → Prop
  | .val v, x => x = v
  | .agg n f, x => ∃ cs : Array Value, x = .agg cs ∧ cs.size = n ∧ ∀ j, j < n → (cs.getD j undef).oneCell' = true ∧ (f j).rel ok w (cs.getD j undef)
  | .sl q size n f, x => ∃ A c, x = .slice A n c ∧ n ≤ c ∧ ∀ i j, i < n → j < size →
      ∃ ad u, A = some ad ∧ Okw ok w q ad.block (ad.off + (i * size + j)) ∧ w.cell? (ad.add (i * size + j)) = some u ∧ u.oneCell' = true ∧ (f i j).rel ok w u
  | .slr q size n m f, x => ∃ A c, x = .slice A n c ∧ (n ≤ m ∧ m ≤ c) ∧ ∀ i j, i < m → j < size →
      ∃ ad u, A = some ad ∧ Okw ok w q ad.block (ad.off + (i * size + j)) ∧ w.cell? (ad.add (i * size + j)) = some u ∧ u.oneCell' = true ∧ (f i j).rel ok w u
  | .ifc t v, x => ∃ u, x = .iface t u ∧ v.rel ok w u
  | .anyb, x => ∃ q : Bool, x = .bool q
  | .opq, x => x.oneCell' = true ∧ x.cells = #[x]
  | .anyn κ, x => κ.has x
  | .glo g t, x => ok .old g 0 ∧ w.cell? ⟨g, 0, none⟩ = some x ∧ ∃ a, x = .iface t (.pointer (some a))

def okb (b : Sees) (ρ : Pl) (O : Ow) (q : Qc) (g k : Nat) : Prop := b q g k ∧ ¬ ownc ρ O g k

def V.rel (b : Sees) (ρ : Pl) (O : Ow) (w : World) : V → Value → Prop
  | .dead, _ => True
  | .im t, x => t.rel (okb b ρ O) w x
  | .agg n f, x => ∃ cs : Array Value, x = .agg cs ∧ cs.size = n ∧ ∀ j, j < n → (cs.getD j undef).oneCell' = true ∧ (f j).rel b ρ O w (cs.getD j undef)
  | .tup n f, x => ∃ cs : Array Value, x = .tuple cs ∧ cs.size = n ∧ ∀ j, j < n → (f j).rel b ρ O w (cs.getD j undef)
  | .buf id ver off len, x => ∃ A c o, x = .slice A len c ∧ len ≤ c ∧ O id = some o ∧ ver ≤ o.ver ∧ (o.ver = ver → ∃ zz e size n f, o = .arr zz e size ver n f ∧ off + len ≤ n ∧
      ((ρ id = none ∧ A = none ∧ c = 0 ∧ off = 0) ∨ ∃ g cs, ρ id = some g ∧ (0 < c ∨ off = 0 → A = some ⟨g, off * size, none⟩) ∧ w.heap[g]? = some (.cells cs e (0, 0)) ∧ (off + c) * size = cs.size))
  | .ptr id ver i j, x => ∃ (a : Addr) (o : Ob), x = .pointer (some a) ∧ O id = some o ∧ ver ≤ o.ver ∧ (o.ver = ver → o.held = true → ∃ g, ρ id = some g ∧ a = ⟨g, i * o.size + j, none⟩)
  | .elem q size n f i j, x => ∃ ad : Addr, x = .pointer (some (ad.add (i * size + j))) ∧ i < n ∧ ad.spot = none ∧ ∀ k, k < size →
      Okw (okb b ρ O) w q ad.block (ad.off + (i * size + k)) ∧ ∃ u, w.cell? (ad.add (i * size + k)) = some u ∧ u.oneCell' = true ∧ (f i k).rel (okb b ρ O) w u
  | .ifc t v, x => ∃ u, x = .iface t u ∧ v.rel b ρ O w u
  | .clo fn n fst m cap, x => ∃ a d : Array Value, x = .func (.func fn) a d ∧ a.size = n ∧ d.size = m ∧
      (∀ j, j < n → (fst j).rel b ρ O w (a.getD j undef)) ∧ ∀ j, j < m → (cap j).rel b ρ O w (d.getD j undef)
  | .mp id, x => ∃ (g : Nat) (o : Ob), x = .map (some g) ∧ O id = some o ∧ (o.isMap = true → ρ id = some g)
  | .vsl id len, x => ∃ (g c : Nat) (o : Ob), x = .slice (some ⟨g, 0, none⟩) len c ∧ len ≤ c ∧ O id = some o ∧ (o.isVar = true → ρ id = some g)

def mapT (agg : Bool) (sz : Nat) (f : Nat → T) : T := cond agg (.agg sz f) (f 0)
def Room (zz : Zz) (cs : Array Value) (size n cap : Nat) : Prop := ∀ z, zz = .own (some z) → z.length = size ∧ ∀ k, n * size ≤ k → k < cap * size → cs.getD k undef = (z.getD (k % size) .ptr).val
def Zz.nr : Zz → Zz
  | .own _ => .own none
  | z => z
theorem Room.none {zz : Zz} {cs : Array Value} {size n cap : Nat} (h : ∀ z, zz ≠ .own (some z)) : Room zz cs size n cap := fun z e => absurd e (h z)
theorem Zz.nr_ne (zz : Zz) (z : List Zc) : zz.nr ≠ .own (some z) := by cases zz <;> nofun
theorem Zz.nr_sh {zz : Zz} (h : zz ≠ .sh) : zz.nr ≠ .sh := by
  cases zz with
  | own => exact nofun
  | app => exact nofun
  | sh => exact absurd rfl h
def Zz.gr (rm : Option (List Zc)) : Zz → Zz
  | .own r => .own (if r = rm then r else none)
  | z => z
theorem Zz.gr_sh {rm : Option (List Zc)} {zz : Zz} (h : zz ≠ .sh) : zz.gr rm ≠ .sh := by
  cases zz with
  | own => exact nofun
  | app => exact nofun
  | sh => exact absurd rfl h
theorem Zz.gr_own {rm : Option (List Zc)} {zz : Zz} {z : List Zc} (h : zz.gr rm = .own (some z)) : zz = .own (some z) ∧ rm = some z := by
  cases zz with
  | own r =>
    simp only [Zz.gr, Zz.own.injEq] at h
    split at h
    · rename_i e; subst e; subst h; exact ⟨rfl, rfl⟩
    · cases h
  | app => cases h
  | sh => cases h
def RoomW (w : World) (v : Value) (e : TypeId) (sz n : Nat) (z : List Zc) : Prop :=
  ∀ g cs, v.ownBlock = some g → w.heap[g]? = some (.cells cs e (0, 0)) → ∀ k, n * sz ≤ k → k < cs.size → cs.getD k undef = (z.getD (k % sz) .ptr).val
theorem Room.nr {zz : Zz} {cs : Array Value} {size n cap : Nat} : Room zz.nr cs size n cap := Room.none zz.nr_ne
theorem Room.same {zz : Zz} {cs cs' : Array Value} {size n cap : Nat} (h : Room zz cs size n cap) (h2 : ∀ k, n * size ≤ k → k < cap * size → cs'.getD k undef = cs.getD k undef) : Room zz cs' size n cap :=
  fun z e => ⟨(h z e).1, fun k h3 h4 => (h2 k h3 h4).trans ((h z e).2 k h3 h4)⟩
def Ob.rel (b : Sees) (ρ : Pl) (O : Ow) (w : World) (p : Option Nat) : Ob → Prop
  | .var e size f => ∃ g cs, p = some g ∧ w.heap[g]? = some (.cells cs e (0, 0)) ∧ cs.size = size ∧ ∀ j, j < size → (cs.getD j undef).oneCell' = true ∧ (f j).rel b ρ O w (cs.getD j undef)
  | .arr zz e size _ n f => (p = none ∧ n = 0) ∨ ∃ g cs cap, p = some g ∧ w.heap[g]? = some (.cells cs e (0, 0)) ∧ cs.size = cap * size ∧ n ≤ cap ∧ (cap ≤ maxLen ∧ (zz = .sh → ¬ own ρ O g ∧ ∀ q k, q.young = true → b q g k) ∧ Room zz cs size n cap) ∧
      ∀ i j, i < n → j < size → (cs.getD (i * size + j) undef).oneCell' = true ∧ (f i j).rel (okb b ρ O) w (cs.getD (i * size + j) undef)
  | .map agg sz n key f => ∃ g es, p = some g ∧ w.heap[g]? = some (.map es n) ∧ es.size = n ∧ ∀ i e, es[i]? = some e → e.key = key i ∧ e.born = i ∧ (mapT agg sz (f i)).rel (okb b ρ O) w e.val
  | .gone _ => True

def Ob.fits : Ob → Ob → Prop
  | .var e s _, .var e' s' _ => e' = e ∧ s' = s
  | .arr _ e s _ n _, .arr _ e' s' _ n' _ => e' = e ∧ s' = s ∧ n ≤ n'
  | .map .., .map .. => True
  | .gone _, .gone _ => True
  | .var e s _, .arr _ e' s' _ n' _ => e' = e ∧ s' = s ∧ 1 ≤ n'
  | _, _ => False

structure Ext (ρ : Pl) (O : Ow) (w : World) (ρ' : Pl) (O' : Ow) (w' : World) : Prop where
  keep : ∀ g, g < w.heap.size → ¬ own ρ O g → w'.heap[g]? = w.heap[g]? ∧ ¬ own ρ' O' g
  cell : ∀ g k, g < w.heap.size → ¬ ownc ρ O g k → look w' g k = look w g k ∧ ¬ ownc ρ' O' g k
  same : ∀ id o, O id = some o → ∃ o', O' id = some o' ∧ o.ver ≤ o'.ver ∧ (o'.ver = o.ver → ρ' id = ρ id ∧ o.fits o' ∧
    ∀ g cs e, o.held = true → ρ id = some g → w.heap[g]? = some (.cells cs e (0, 0)) → ∃ cs' : Array Value, w'.heap[g]? = some (.cells cs' e (0, 0)) ∧ cs'.size = cs.size)

section
variable {ρ ρ' ρ'' : Pl} {O O' O'' : Ow} {w w' w'' : World}

theorem Ob.fits_held {o o' : Ob} (h : o.fits o') : o'.held = o.held := by cases o <;> cases o' <;> simp_all [Ob.fits, Ob.held]
theorem Ob.fits_isMap {o o' : Ob} (h : o.fits o') : o'.isMap = o.isMap := by cases o <;> cases o' <;> simp_all [Ob.fits, Ob.isMap]
theorem Ob.ver_isMap {o : Ob} (h : o.isMap = true) : o.ver = 0 := by cases o <;> first | rfl | cases h
theorem Ob.held_of_live {o : Ob} (h : o.live = true) : o.held = true := by cases o <;> first | rfl | cases h
theorem Ob.fits_size {o o' : Ob} (h : o.fits o') : o'.size = o.size := by cases o <;> cases o' <;> simp_all [Ob.fits, Ob.size]
theorem Ob.fits_refl (o : Ob) : o.fits o := by cases o <;> simp [Ob.fits]
theorem Ob.fits_trans {o o' o'' : Ob} (h : o.fits o') (k : o'.fits o'') : o.fits o'' := by
  cases o <;> cases o' <;> cases o'' <;> simp_all [Ob.fits] <;> omega

theorem block_add (ad : Addr) (n : Nat) : (ad.add n).block = ad.block := by unfold Addr.add; split <;> rfl
theorem off_add (ad : Addr) (n : Nat) : (ad.add n).off = ad.off + n := by unfold Addr.add; split <;> simp_all
theorem cell_addr {a : Addr} {u : Value} (h : w.cell? a = some u) : a = ⟨a.block, a.off, none⟩ := by
  obtain ⟨g, k, s⟩ := a
  cases s with
  | none => rfl
  | some s =>
    simp only [World.cell?] at h
    split at h <;> simp_all
theorem own_of_ownc {g k : Nat} (h : ownc ρ O g k) : own ρ O g := let ⟨id, o, h1, h2, h3, _⟩ := h; ⟨id, o, h1, h2, h3⟩
theorem ownc_of_own {g : Nat} (h : own ρ O g) : ∃ k, ownc ρ O g k := let ⟨id, o, h1, h2, h3⟩ := h; ⟨o.lo, id, o, h1, h2, h3, Nat.le_refl _⟩
theorem cell_mono {ad : Addr} {n : Nat} {u : Value} (hc : w.cell? (ad.add n) = some u) (h : w'.cell? ⟨ad.block, ad.off + n, none⟩ = w.cell? ⟨ad.block, ad.off + n, none⟩) : w'.cell? (ad.add n) = some u := by
  have e := cell_addr hc
  rw [block_add, off_add] at e
  rw [e] at hc ⊢
  exact h.trans hc
theorem T.rel_mono {ok ok' : Sees} (h : ∀ q g k, g < w.heap.size → ok q g k → look w' g k = look w g k ∧ ok' q g k) : ∀ {t : T} {x : Value}, t.rel ok w x → t.rel ok' w' x
  | .val _, _, hx => hx
  | .agg _ _, _, ⟨cs, e, hn, hf⟩ => ⟨cs, e, hn, fun j hj => ⟨(hf j hj).1, T.rel_mono h (hf j hj).2⟩⟩
  | .sl q _ _ _, _, ⟨A, c, e, hn, hf⟩ => ⟨A, c, e, hn, fun i j hi hj => by
      obtain ⟨ad, u, ha, ho, hc, h1, hr⟩ := hf i j hi hj
      have hlt := World.block_lt_of_cell? w _ hc
      rw [block_add] at hlt
      obtain ⟨hs, ho'⟩ := h q ad.block _ hlt ho.1
      exact ⟨ad, u, ha, ⟨ho', fun hq => (look_frozen hs).trans (ho.2 hq)⟩, cell_mono hc (look_cell hs), h1, T.rel_mono h hr⟩⟩
  | .slr q _ _ _ _, _, ⟨A, c, e, hn, hf⟩ => ⟨A, c, e, hn, fun i j hi hj => by
      obtain ⟨ad, u, ha, ho, hc, h1, hr⟩ := hf i j hi hj
      have hlt := World.block_lt_of_cell? w _ hc
      rw [block_add] at hlt
      obtain ⟨hs, ho'⟩ := h q ad.block _ hlt ho.1
      exact ⟨ad, u, ha, ⟨ho', fun hq => (look_frozen hs).trans (ho.2 hq)⟩, cell_mono hc (look_cell hs), h1, T.rel_mono h hr⟩⟩
  | .ifc _ _, _, ⟨u, e, hr⟩ => ⟨u, e, T.rel_mono h hr⟩
  | .anyb, _, hx => hx
  | .opq, _, hx => hx
  | .anyn _, _, hx => hx
  | .glo g _, _, ⟨h1, h2, h3⟩ => by
      obtain ⟨c1, c2⟩ := h .old g 0 (World.block_lt_of_cell? w _ h2) h1
      exact ⟨c2, (look_cell c1).trans h2, h3⟩

theorem Ext.okb {b : Sees} (h : Ext ρ O w ρ' O' w') (q : Qc) (g c : Nat) (hg : g < w.heap.size) (k : okb b ρ O q g c) : look w' g c = look w g c ∧ okb b ρ' O' q g c :=
  let ⟨h1, h2⟩ := h.cell g c hg k.2
  ⟨h1, k.1, h2⟩

theorem V.rel_ext {b : Sees} (h : Ext ρ O w ρ' O' w') : ∀ {v : V} {x : Value}, v.rel b ρ O w x → v.rel b ρ' O' w' x
  | .dead, _, _ => trivial
  | .im _, _, hx => T.rel_mono h.okb hx
  | .agg _ _, _, ⟨cs, e, hn, hf⟩ => ⟨cs, e, hn, fun j hj => ⟨(hf j hj).1, V.rel_ext h (hf j hj).2⟩⟩
  | .tup _ _, _, ⟨cs, e, hn, hf⟩ => ⟨cs, e, hn, fun j hj => V.rel_ext h (hf j hj)⟩
  | .buf id ver off len, _, ⟨A, c, o, e, hl, ho, hv, hk⟩ => by
      obtain ⟨o', ho', hle, hs⟩ := h.same id o ho
      refine ⟨A, c, o', e, hl, ho', Nat.le_trans hv hle, fun hv' => ?_⟩
      have hvo : o.ver = ver := by omega
      obtain ⟨hρ, hf, hw⟩ := hs (by omega)
      obtain ⟨zz, el, size, n, f, rfl, hn, hp⟩ := hk hvo
      cases o' with
      | var => exact hf.elim
      | gone => exact hf.elim
      | map => exact hf.elim
      | arr zz' e' s' v' n' f' =>
        obtain ⟨rfl, rfl, hnn⟩ := hf
        simp only [Ob.ver] at hv'
        subst hv'
        refine ⟨_, _, _, _, _, rfl, by omega, ?_⟩
        rcases hp with ⟨h1, h2⟩ | ⟨g, cs, hg, hA, hh, hc⟩
        · exact .inl ⟨by rw [hρ]; exact h1, h2⟩
        · obtain ⟨cs', hh', hsz⟩ := hw g cs _ rfl hg hh
          exact .inr ⟨g, cs', by rw [hρ]; exact hg, hA, hh', by rw [hsz]; exact hc⟩
  | .ptr id ver i j, _, ⟨a, o, e, ho, hv, hk⟩ => by
      obtain ⟨o', ho', hle, hs⟩ := h.same id o ho
      refine ⟨a, o', e, ho', Nat.le_trans hv hle, fun hv' hl' => ?_⟩
      obtain ⟨hρ, hf, hw⟩ := hs (by omega)
      obtain ⟨g, hg, ha⟩ := hk (by omega) (by rw [← Ob.fits_held hf]; exact hl')
      exact ⟨g, by rw [hρ]; exact hg, by rw [Ob.fits_size hf]; exact ha⟩
  | .elem q _ _ _ _ _, _, ⟨ad, e, hi, hs, hk⟩ => ⟨ad, e, hi, hs, fun k hk' => by
      obtain ⟨ho, u, hc, h1, hr⟩ := hk k hk'
      have hlt := World.block_lt_of_cell? w _ hc
      rw [block_add] at hlt
      obtain ⟨hs, ho'⟩ := h.okb q ad.block _ hlt ho.1
      exact ⟨⟨ho', fun hq => (look_frozen hs).trans (ho.2 hq)⟩, u, cell_mono hc (look_cell hs), h1, T.rel_mono h.okb hr⟩⟩
  | .ifc _ _, _, ⟨u, e, hr⟩ => ⟨u, e, V.rel_ext h hr⟩
  | .clo _ _ _ _ _, _, ⟨a, b, e, hn, hm, hf, hg⟩ => ⟨a, b, e, hn, hm, fun j hj => V.rel_ext h (hf j hj), fun j hj => V.rel_ext h (hg j hj)⟩
  | .mp id, _, hx => by
      obtain ⟨g, o, e, ho, hk⟩ := hx
      obtain ⟨o', ho', hle, hs⟩ := h.same id o ho
      refine ⟨g, o', e, ho', fun hl' => ?_⟩
      obtain ⟨hρ, hf, hw⟩ := hs (by have := Ob.ver_isMap hl'; omega)
      rw [hρ]
      exact hk (by rw [← Ob.fits_isMap hf]; exact hl')
  | .vsl id len, _, hx => by
      obtain ⟨g, c, o, e, hc, ho, hk⟩ := hx
      obtain ⟨o', ho', hle, hs⟩ := h.same id o ho
      refine ⟨g, c, o', e, hc, ho', fun hv' => ?_⟩
      have hz : o'.ver = 0 := by cases o' <;> first | rfl | cases hv'
      obtain ⟨hρ, hf, hw⟩ := hs (by omega)
      rw [hρ]
      refine hk ?_
      cases o' <;> first | (cases hv'; done) | skip
      cases o <;> first | rfl | exact hf.elim

def Glb (b : Sees) (ρ : Pl) (O : Ow) (w : World) : Prop := (∀ p ∈ gtab, ∀ (k : Nat) (v : Value), p.2[k]? = some v → okb b ρ O .old p.1 k ∧ w.cell? ⟨p.1, k, none⟩ = some v) ∧ ∀ p ∈ gptr, ∃ a, okb b ρ O .old p.1 0 ∧ w.cell? ⟨p.1, 0, none⟩ = some (.iface p.2 (.pointer (some a)))
theorem Glb.ext {b : Sees} (h : Ext ρ O w ρ' O' w') (g : Glb b ρ O w) : Glb b ρ' O' w' := by
  refine ⟨fun p hp k n hn => ?_, fun p hp => ?_⟩
  · obtain ⟨h1, h2⟩ := g.1 p hp k n hn
    obtain ⟨h3, h4⟩ := h.okb .old p.1 k (World.block_lt_of_cell? w _ h2) h1
    exact ⟨h4, (look_cell h3).trans h2⟩
  · obtain ⟨a, h1, h2⟩ := g.2 p hp
    obtain ⟨h3, h4⟩ := h.okb .old p.1 0 (World.block_lt_of_cell? w _ h2) h1
    exact ⟨a, h4, (look_cell h3).trans h2⟩
theorem Glb.mono {b b' : Sees} (hb : ∀ q g k, g < w.heap.size → Go.Proofs.Ytlmnhbobgfpanaa.okb b ρ O q g k → Go.Proofs.Ytlmnhbobgfpanaa.okb b' ρ' O' q g k) (g : Glb b ρ O w) : Glb b' ρ' O' w := by
  refine ⟨fun p hp k n hn => ?_, fun p hp => ?_⟩
  · obtain ⟨h1, h2⟩ := g.1 p hp k n hn
    exact ⟨hb .old p.1 k (World.block_lt_of_cell? w _ h2) h1, h2⟩
  · obtain ⟨a, h1, h2⟩ := g.2 p hp
    exact ⟨a, hb .old p.1 0 (World.block_lt_of_cell? w _ h2) h1, h2⟩
theorem Ext.refl : Ext ρ O w ρ O w := ⟨fun _ _ h => ⟨rfl, h⟩, fun _ _ _ h => ⟨rfl, h⟩, fun _ o h => ⟨o, h, Nat.le_refl _, fun _ => ⟨rfl, Ob.fits_refl o, fun _ cs _ _ _ hh => ⟨cs, hh, rfl⟩⟩⟩⟩
theorem Ext.trans (hz : w.heap.size ≤ w'.heap.size) (h : Ext ρ O w ρ' O' w') (k : Ext ρ' O' w' ρ'' O'' w'') : Ext ρ O w ρ'' O'' w'' where
  keep g hg ho := by
    obtain ⟨h1, h2⟩ := h.keep g hg ho
    obtain ⟨k1, k2⟩ := k.keep g (by omega) h2
    exact ⟨k1.trans h1, k2⟩
  cell g c hg ho := by
    obtain ⟨h1, h2⟩ := h.cell g c hg ho
    obtain ⟨k1, k2⟩ := k.cell g c (by omega) h2
    exact ⟨k1.trans h1, k2⟩
  same id o ho := by
    obtain ⟨o', ho', hv, hs⟩ := h.same id o ho
    obtain ⟨o'', ho'', hv', hs'⟩ := k.same id o' ho'
    refine ⟨o'', ho'', by omega, fun e => ?_⟩
    obtain ⟨r1, f1, c1⟩ := hs (by omega)
    obtain ⟨r2, f2, c2⟩ := hs' (by omega)
    refine ⟨r2.trans r1, Ob.fits_trans f1 f2, fun g cs e hl hg hh => ?_⟩
    obtain ⟨cs', hh', e1⟩ := c1 g cs e hl hg hh
    obtain ⟨cs'', hh'', e2⟩ := c2 g cs' e (by rw [Ob.fits_held f1]; exact hl) (by rw [r1]; exact hg) hh'
    exact ⟨cs'', hh'', e2.trans e1⟩
end
end Go.Proofs.Ytlmnhbobgfpanaa
