/-
  That the program's operations do what the states say: what makes a value of values alone. General; nothing of this program.
-/
import Derived.Test.YtlmnhbobgfpanaaTrF
import Derived.Lib.ConvBytes
import Derived.Laws.Pointers
namespace Go.Proofs.Ytlmnhbobgfpanaa
open Go.RowKit

section
variable {P : Program} {E : Env} {ρ ρ' : Pl} {σ : St} {a : Act} {w : World} {o : Oper} {fr : Nat}

theorem nilc_ok (h : Rel E ρ σ a w) (hd : ∀ t, o.dst = some t → t < σ.N) (x : Operand) (ho : o.op = .nilCheck x) {rd v ups}
    (k : (asem σ fr (.pure .nilc [x])).wp P σ.O fr fun a b c => a = rd ∧ b = v ∧ c = ups) : Comes' P E (σ.upd o.dst v ups) o a w := by
  have hx := aev_rel h x
  simp only [asem, List.map_cons, List.map_nil, PO.ev] at k
  split at k
  · rename_i c v' e
    unfold nilcV at e
    split at e <;> simp only [Option.some.injEq, Prod.mk.injEq, reduceCtorEq] at e
    · rename_i e2
      obtain ⟨rfl, rfl⟩ := e
      obtain ⟨-, -, rfl, rfl⟩ := k
      rw [e2] at hx
      obtain ⟨ad, o', e1, hx2⟩ := hx
      refine comes_value h hd (x := .pointer (some ad)) ?_ ⟨ad, o', rfl, hx2⟩
      simp only [execOp, ho, e1, Sem.run_pure]
    · rename_i e2
      obtain ⟨rfl, rfl⟩ := e
      obtain ⟨-, -, rfl, rfl⟩ := k
      rw [e2] at hx
      obtain ⟨ad, e1, hx2⟩ := hx
      refine comes_value h hd ?_ ⟨ad, rfl, hx2⟩
      simp only [execOp, ho, e1, Sem.run_pure]
    · rename_i e2
      obtain ⟨rfl, rfl⟩ := e
      obtain ⟨-, -, rfl, rfl⟩ := k
      rw [e2] at hx
      obtain ⟨A, D, e1, hx2⟩ := hx
      refine comes_value h hd ?_ ⟨A, D, rfl, hx2⟩
      simp only [execOp, ho, e1, Sem.run_pure]
  · exact k.1.elim

theorem sidx_ok (h : Rel E ρ σ a w) (hd : ∀ t, o.dst = some t → t < σ.N) (t : TypeId) (x i : Operand) (ho : o.op = .index t x i) (hu : P.underlying t = some .string) {rd v ups}
    (k : (asem σ fr (.pure .sidx [x, i])).wp P σ.O fr fun a b c => a = rd ∧ b = v ∧ c = ups) : Comes' P E (σ.upd o.dst v ups) o a w := by
  have hx := aev_rel h x
  have hi := aev_rel h i
  simp only [asem, List.map_cons, List.map_nil, PO.ev] at k
  split at k
  · rename_i c v' e
    unfold sidxV at e
    split at e <;> simp only [Option.some.injEq, Prod.mk.injEq, reduceCtorEq] at e
    rename_i s q n e3 e4
    obtain ⟨rfl, rfl⟩ := e
    rw [e3] at hx
    rw [e4] at hi
    have hx' : a.eval x = .string s := hx
    have hi' : a.eval i = .int q n := hi
    obtain ⟨⟨h0, hl⟩, -, rfl, rfl⟩ := k
    have hlt : n.toNat < s.size := by omega
    have hb : s[n.toNat]? = some s[n.toNat] := getElem?_pos s n.toNat hlt
    have hb2 : ((s[n.toNat]).toNat : Int) = bAt s n.toNat := by
      unfold bAt
      rw [List.getD_eq_getElem?_getD, List.getElem?_eq_getElem (by simpa using hlt)]
      rfl
    refine comes_value h hd (x := .int .u8 (bAt s n.toNat)) ?_ rfl
    simp [execOp, ho, hx', hi', Instr.index, run_underlying hu, h0, hb, hb2, asIntOf, Result.andThen]
  · exact k.1.elim

theorem neg_ok (h : Rel E ρ σ a w) (hd : ∀ t, o.dst = some t → t < σ.N) (t : TypeId) (x : Operand) (ho : o.op = .unOp .neg t x) {rd v ups}
    (k : (asem σ fr (.pure .neg [x])).wp P σ.O fr fun a b c => a = rd ∧ b = v ∧ c = ups) : Comes' P E (σ.upd o.dst v ups) o a w := by
  have hx := aev_rel h x
  simp only [asem, List.map_cons, List.map_nil, PO.ev] at k
  split at k
  · rename_i c v' e
    unfold negV at e
    split at e <;> simp only [Option.some.injEq, Prod.mk.injEq, reduceCtorEq] at e
    rename_i q n e2
    obtain ⟨rfl, rfl⟩ := e
    rw [e2] at hx
    have hx' : a.eval x = .int q n := hx
    obtain ⟨h0, -, rfl, rfl⟩ := k
    refine comes_value h hd (x := .int q (q.wrap (0 - n))) ?_ rfl
    simp [execOp, ho, hx', Op.unary, Op.intArith]
  · exact k.1.elim
theorem com_ok (h : Rel E ρ σ a w) (hd : ∀ t, o.dst = some t → t < σ.N) (t : TypeId) (x : Operand) (ho : o.op = .unOp .xor t x) {rd v ups}
    (k : (asem σ fr (.pure .com [x])).wp P σ.O fr fun a b c => a = rd ∧ b = v ∧ c = ups) : Comes' P E (σ.upd o.dst v ups) o a w := by
  have hx := aev_rel h x
  simp only [asem, List.map_cons, List.map_nil, PO.ev] at k
  split at k
  · rename_i c v' e
    unfold comV at e
    split at e <;> simp only [Option.some.injEq, Prod.mk.injEq, reduceCtorEq] at e
    rename_i q n e2
    obtain ⟨rfl, rfl⟩ := e
    rw [e2] at hx
    have hx' : a.eval x = .int q n := hx
    obtain ⟨h0, -, rfl, rfl⟩ := k
    refine comes_value h hd (x := (aint .xor q (if q.signed then -1 else q.max) n).2) ?_ rfl
    have := aint_ok (P := P) (t := 0) w (by simp : BinOp.xor ≠ .shl) (by simp : BinOp.xor ≠ .shr) h0
    simp only [binOp, ne_eq, not_true_eq_false, if_false] at this
    simp only [execOp, ho, hx', Op.unary, Sem.run_bind, this, Result.andThen, Sem.run_pure]
  · exact k.1.elim

def numV : Value → Bool
  | .int .. | .string .. | .float .. | .complex .. => true
  | _ => false
theorem run_nilq {op : BinOp} {t : TypeId} {u nl : Value} {neg r : Bool} (hn : op = if neg then .neq else .eql) (hb : (Op.equal t u nl).run P w = .ok r w) (hs : numV u = false) :
    (binOp op t u nl).run P w = .ok (.bool (if neg then !r else r)) w := by
  subst hn
  cases neg <;> cases u <;> simp_all [binOp, Result.andThen, numV]
theorem isConst_eq {x : Operand} {nl : Value} (h : isConst x nl = true) : x = .const nl := by
  unfold isConst at h
  split at h <;> first | rfl | cases h
theorem nilOf_cases {t : TypeId} {kd : Nat} {nl : Value} (h : nilOf P t = some (kd, nl)) : (kd = 0 ∧ nl = .pointer none ∧ ∃ u, P.underlying t = some (.pointer u)) ∨ (kd = 1 ∧ nl = .nilIface ∧ ∃ u, P.underlying t = some (.interface u)) ∨ (kd = 2 ∧ nl = .nilFunc ∧ ∃ a b c, P.underlying t = some (.func a b c)) ∨ (kd = 3 ∧ nl = .slice none 0 0 ∧ ∃ u, P.underlying t = some (.slice u)) := by
  unfold nilOf at h
  split at h <;> simp only [Option.some.injEq, Prod.mk.injEq, reduceCtorEq] at h <;> obtain ⟨rfl, rfl⟩ := h
  · rename_i u hu; exact .inl ⟨rfl, rfl, u, hu⟩
  · rename_i u hu; exact .inr (.inl ⟨rfl, rfl, u, hu⟩)
  · rename_i u v q hu; exact .inr (.inr (.inl ⟨rfl, rfl, u, v, q, hu⟩))
  · rename_i u hu; exact .inr (.inr (.inr ⟨rfl, rfl, u, hu⟩))
section
variable {t : TypeId}
theorem eq_ptr {u : TypeId} (hu : P.underlying t = some (.pointer u)) (ad : Addr) : (Op.equal t (.pointer (some ad)) (.pointer none)).run P w = .ok false w ∧ (Op.equal t (.pointer none) (.pointer (some ad))).run P w = .ok false w := by
  have : ∀ d, (Op.equalIn (d + 1) t (.pointer (some ad)) (.pointer none)).run P w = .ok false w ∧ (Op.equalIn (d + 1) t (.pointer none) (.pointer (some ad))).run P w = .ok false w := fun d => by
    constructor <;> simp [Op.equalIn, run_underlying hu]
  exact this 9999
theorem eq_nilp {u : TypeId} (hu : P.underlying t = some (.pointer u)) : (Op.equal t (.pointer none) (.pointer none)).run P w = .ok true w := by
  have : ∀ d, (Op.equalIn (d + 1) t (.pointer none) (.pointer none)).run P w = .ok true w := fun d => by simp [Op.equalIn, run_underlying hu]
  exact this 9999
theorem eq_sl {u : TypeId} (hu : P.underlying t = some (.slice u)) (A : Option Addr) (n c : Nat) : (Op.equal t (.slice A n c) (.slice none 0 0)).run P w = .ok A.isNone w ∧ (Op.equal t (.slice none 0 0) (.slice A n c)).run P w = .ok A.isNone w := by
  have : ∀ d, (Op.equalIn (d + 1) t (.slice A n c) (.slice none 0 0)).run P w = .ok A.isNone w ∧ (Op.equalIn (d + 1) t (.slice none 0 0) (.slice A n c)).run P w = .ok A.isNone w := fun d => by
    cases A <;> constructor <;> simp [Op.equalIn, run_underlying hu]
  exact this 9999
theorem eq_ifc {u} (hu : P.underlying t = some (.interface u)) (q : TypeId) (v : Value) : (Op.equal t (.iface q v) .nilIface).run P w = .ok false w ∧ (Op.equal t .nilIface (.iface q v)).run P w = .ok false w := by
  have : ∀ d, (Op.equalIn (d + 1) t (.iface q v) .nilIface).run P w = .ok false w ∧ (Op.equalIn (d + 1) t .nilIface (.iface q v)).run P w = .ok false w := fun d => by
    constructor <;> simp [Op.equalIn, run_underlying hu]
  exact this 9999
theorem eq_nili {u} (hu : P.underlying t = some (.interface u)) : (Op.equal t .nilIface .nilIface).run P w = .ok true w := by
  have : ∀ d, (Op.equalIn (d + 1) t .nilIface .nilIface).run P w = .ok true w := fun d => by simp [Op.equalIn, run_underlying hu]
  exact this 9999
theorem eq_fun {u1 u2 u3} (hu : P.underlying t = some (.func u1 u2 u3)) (f : Fn) (A D : Array Value) : (Op.equal t (.func f A D) .nilFunc).run P w = .ok false w ∧ (Op.equal t .nilFunc (.func f A D)).run P w = .ok false w := by
  have : ∀ d, (Op.equalIn (d + 1) t (.func f A D) .nilFunc).run P w = .ok false w ∧ (Op.equalIn (d + 1) t .nilFunc (.func f A D)).run P w = .ok false w := fun d => by
    constructor <;> simp [Op.equalIn, run_underlying hu]
  exact this 9999
theorem eq_nilf {u1 u2 u3} (hu : P.underlying t = some (.func u1 u2 u3)) : (Op.equal t .nilFunc .nilFunc).run P w = .ok true w := by
  have : ∀ d, (Op.equalIn (d + 1) t .nilFunc .nilFunc).run P w = .ok true w := fun d => by simp [Op.equalIn, run_underlying hu]
  exact this 9999
end
theorem nilq_val {ng : Bool} {t : TypeId} {kd : Nat} {nl : Value} (hk : nilOf P t = some (kd, nl)) {op : BinOp} (hn : op = if ng then .neq else .eql) {vx : V} {ux : Value} {b : Sees} {O : Ow} (hx : vx.rel b ρ O w ux) {c : Prop} {v : V} (hev : nilqV ng kd vx = some (c, v)) :
    ∃ r : Bool, (v = .im (.val (.bool r)) ∨ v = .im .anyb) ∧ (binOp op t ux nl).run P w = .ok (.bool r) w ∧ (binOp op t nl ux).run P w = .ok (.bool r) w := by
  have fin : ∀ r0 : Bool, (Op.equal t ux nl).run P w = .ok r0 w → (Op.equal t nl ux).run P w = .ok r0 w → numV ux = false → (v = .im (.val (.bool (if ng then !r0 else r0))) ∨ v = .im .anyb) →
      ∃ r : Bool, (v = .im (.val (.bool r)) ∨ v = .im .anyb) ∧ (binOp op t ux nl).run P w = .ok (.bool r) w ∧ (binOp op t nl ux).run P w = .ok (.bool r) w := fun r0 h1 h2 h3 h4 => by
    refine ⟨_, h4, run_nilq hn h1 h3, run_nilq hn h2 ?_⟩
    rcases nilOf_cases hk with ⟨_, rfl, _⟩ | ⟨_, rfl, _⟩ | ⟨_, rfl, _⟩ | ⟨_, rfl, _⟩ <;> rfl
  rcases nilOf_cases hk with ⟨rfl, rfl, u, hu⟩ | ⟨rfl, rfl, u, hu⟩ | ⟨rfl, rfl, u1, u2, u3, hu⟩ | ⟨rfl, rfl, u, hu⟩
  · cases vx with
    | ptr id ver i j =>
      simp only [nilqV, Option.some.injEq, Prod.mk.injEq] at hev
      obtain ⟨ad, _, rfl, _⟩ := hx
      exact fin false (eq_ptr hu ad).1 (eq_ptr hu ad).2 rfl (.inl (by rw [← hev.2]; cases ng <;> rfl))
    | elem s n f i j =>
      simp only [nilqV, Option.some.injEq, Prod.mk.injEq] at hev
      obtain ⟨ad, rfl, _⟩ := hx
      exact fin false (eq_ptr hu _).1 (eq_ptr hu _).2 rfl (.inl (by rw [← hev.2]; cases ng <;> rfl))
    | im t =>
      unfold nilqV at hev
      split at hev <;> simp only [Option.some.injEq, Prod.mk.injEq, reduceCtorEq, V.im.injEq, Nat.zero_ne_one] at *
      rename_i e1
      subst e1
      obtain rfl : ux = .pointer none := hx
      exact fin true (eq_nilp hu) (eq_nilp hu) rfl (.inl (by rw [← hev.2]; cases ng <;> rfl))
    | _ => simp [nilqV] at hev
  · cases vx with
    | ifc t' v' =>
      simp only [nilqV, Option.some.injEq, Prod.mk.injEq] at hev
      obtain ⟨u', rfl, _⟩ := hx
      exact fin false (eq_ifc hu _ _).1 (eq_ifc hu _ _).2 rfl (.inl (by rw [← hev.2]; cases ng <;> rfl))
    | im t =>
      cases t with
      | ifc t' v' =>
        simp only [nilqV, Option.some.injEq, Prod.mk.injEq] at hev
        obtain ⟨u', rfl, _⟩ := hx
        exact fin false (eq_ifc hu _ _).1 (eq_ifc hu _ _).2 rfl (.inl (by rw [← hev.2]; cases ng <;> rfl))
      | val q =>
        cases q with
        | nilIface =>
          simp only [nilqV, Option.some.injEq, Prod.mk.injEq] at hev
          obtain rfl : ux = .nilIface := hx
          exact fin true (eq_nili hu) (eq_nili hu) rfl (.inl (by rw [← hev.2]; cases ng <;> rfl))
        | _ => simp [nilqV] at hev
      | glo g2 t2 =>
        simp only [nilqV, Option.some.injEq, Prod.mk.injEq] at hev
        obtain ⟨-, -, q, rfl⟩ := hx
        exact fin false (eq_ifc hu _ _).1 (eq_ifc hu _ _).2 rfl (.inl (by rw [← hev.2]; cases ng <;> rfl))
      | _ => simp [nilqV] at hev
    | _ => simp [nilqV] at hev
  · cases vx with
    | clo fn n f m g =>
      simp only [nilqV, Option.some.injEq, Prod.mk.injEq] at hev
      obtain ⟨A, D, rfl, _⟩ := hx
      exact fin false (eq_fun hu _ _ _).1 (eq_fun hu _ _ _).2 rfl (.inl (by rw [← hev.2]; cases ng <;> rfl))
    | im t =>
      cases t with
      | val q =>
        cases q with
        | nilFunc =>
          simp only [nilqV, Option.some.injEq, Prod.mk.injEq] at hev
          obtain rfl : ux = .nilFunc := hx
          exact fin true (eq_nilf hu) (eq_nilf hu) rfl (.inl (by rw [← hev.2]; cases ng <;> rfl))
        | _ => simp [nilqV] at hev
      | _ => simp [nilqV] at hev
    | _ => simp [nilqV] at hev
  · cases vx with
    | buf id ver off len =>
      simp only [nilqV, Option.some.injEq, Prod.mk.injEq] at hev
      obtain ⟨A, c, _, rfl, _⟩ := hx
      exact fin A.isNone (eq_sl hu _ _ _).1 (eq_sl hu _ _ _).2 rfl (.inr hev.2.symm)
    | im t =>
      cases t with
      | sl qc sz n f =>
        simp only [nilqV, Option.some.injEq, Prod.mk.injEq] at hev
        obtain ⟨A, c, rfl, _, hf⟩ := hx
        refine fin A.isNone (eq_sl hu _ _ _).1 (eq_sl hu _ _ _).2 rfl ?_
        by_cases hq : 0 < n ∧ 0 < sz
        · obtain ⟨ad, _, rfl, _⟩ := hf 0 0 hq.1 hq.2
          rw [if_pos hq] at hev
          exact .inl (by rw [← hev.2]; cases ng <;> rfl)
        · rw [if_neg hq] at hev
          exact .inr hev.2.symm
      | val q =>
        have hq : q = .slice none 0 0 ∧ v = .im (.val (.bool !ng)) := by
          unfold nilqV at hev
          split at hev <;> simp_all
        obtain ⟨rfl, rfl⟩ := hq
        obtain rfl : ux = .slice none 0 0 := hx
        exact fin true (eq_sl hu none 0 0).1 (eq_sl hu none 0 0).2 rfl (.inl (by cases ng <;> rfl))
      | _ => simp [nilqV] at hev
    | _ => simp [nilqV] at hev
theorem guard_nil {op : BinOp} {t : TypeId} {x y : Operand} {u nl : Value} (hc : (isConst y nl = true) ∨ isConst x u = true) : (eqGuard op t x y u nl).run P w = .ok () w := by
  have key : ∀ v : Value, (v = .pointer none ∨ v = .nilIface ∨ v = .nilFunc ∨ v = .slice none 0 0) → (∀ z : Value, (eqGuard op t x (.const v) z v).run P w = .ok () w) ∧ ∀ z : Value, (eqGuard op t (.const v) y v z).run P w = .ok () w := fun v hv => by
    rcases hv with rfl | rfl | rfl | rfl
    all_goals
      constructor
      all_goals
        intro z
        unfold eqGuard
        cases z <;> cases op <;> simp
  have cst : ∀ {q : Operand} {v : Value}, isConst q v = true → q = .const v ∧ (v = .pointer none ∨ v = .nilIface ∨ v = .nilFunc ∨ v = .slice none 0 0) := fun {q v} h => by
    refine ⟨isConst_eq h, ?_⟩
    unfold isConst at h
    split at h <;> first | exact .inl rfl | exact .inr (.inl rfl) | exact .inr (.inr (.inl rfl)) | exact .inr (.inr (.inr rfl)) | cases h
  rcases hc with hc | hc
  · obtain ⟨rfl, hv⟩ := cst hc
    exact (key nl hv).1 u
  · obtain ⟨rfl, hv⟩ := cst hc
    exact (key u hv).2 nl
theorem nilq_ok (h : Rel E ρ σ a w) (hd : ∀ t, o.dst = some t → t < σ.N) (op : BinOp) (t t' : TypeId) (x y : Operand) (ng : Bool) (hn : op = if ng then .neq else .eql) (ho : o.op = .binOp op t x y t') {ao : AOp} (hq : nilQ P ng t x y = some ao) {rd v ups}
    (k : (asem σ fr ao).wp P σ.O fr fun a b c => a = rd ∧ b = v ∧ c = ups) : Comes' P E (σ.upd o.dst v ups) o a w := by
  unfold nilQ at hq
  split at hq
  · rename_i kd nl hk
    split at hq
    · rename_i hy
      cases hq
      have hx := aev_rel h x
      have hy' := isConst_eq hy
      simp only [asem, List.map_cons, List.map_nil, PO.ev] at k
      split at k
      · rename_i c v' e
        obtain ⟨r, e1, e2, _⟩ := nilq_val (P := P) hk hn hx e
        obtain ⟨-, -, rfl, rfl⟩ := k
        refine comes_value h hd (x := .bool r) ?_ (by rcases e1 with rfl | rfl <;> first | rfl | exact ⟨r, rfl⟩)
        have g := guard_nil (P := P) (w := w) (op := op) (t := t) (x := x) (u := a.eval x) (.inl hy)
        have ey : a.eval y = nl := by rw [hy']; rfl
        simp only [execOp, ho, Sem.run_bind, ey, g, e2, Result.andThen, Sem.run_pure]
      · exact k.1.elim
    · split at hq
      · rename_i hx
        cases hq
        have hy := aev_rel h y
        have hx' := isConst_eq hx
        simp only [asem, List.map_cons, List.map_nil, PO.ev] at k
        split at k
        · rename_i c v' e
          obtain ⟨r, e1, _, e2⟩ := nilq_val (P := P) hk hn hy e
          obtain ⟨-, -, rfl, rfl⟩ := k
          refine comes_value h hd (x := .bool r) ?_ (by rcases e1 with rfl | rfl <;> first | rfl | exact ⟨r, rfl⟩)
          have g := guard_nil (P := P) (w := w) (op := op) (t := t) (y := y) (nl := a.eval y) (.inr hx)
          have ex : a.eval x = nl := by rw [hx']; rfl
          simp only [execOp, ho, Sem.run_bind, ex, g, e2, Result.andThen, Sem.run_pure]
        · exact k.1.elim
      · cases hq
  · cases hq
theorem capn_ok (h : Rel E ρ σ a w) (hd : ∀ t, o.dst = some t → t < σ.N) (x : Operand) (c : Call) (t e : TypeId) (hcb : c.callee = .builtin .cap) (hca : c.args.toList = [x]) (hct : c.argTypes.toList = [t]) (hu : P.underlying t = some (.slice e)) (ho : o.op = .call c) {rd v ups}
    (k : (asem σ fr (.pure .capn [x])).wp P σ.O fr fun a b c => a = rd ∧ b = v ∧ c = ups) : Comes' P E (σ.upd o.dst v ups) o a w := by
  have hx := aev_rel h x
  obtain ⟨callee, args, argTypes⟩ := c
  obtain ⟨args⟩ := args
  obtain ⟨argTypes⟩ := argTypes
  simp only at hcb hca hct
  subst hcb hca hct
  simp only [asem, List.map_cons, List.map_nil, PO.ev] at k
  split at k
  · rename_i c v' e0
    unfold capV at e0
    split at e0 <;> simp only [Option.some.injEq, Prod.mk.injEq, reduceCtorEq] at e0
    rename_i e1
    obtain ⟨rfl, rfl⟩ := e0
    rw [e1] at hx
    have hx' : a.eval x = .slice none 0 0 := hx
    obtain ⟨-, -, rfl, rfl⟩ := k
    refine comes_value h hd (x := .int .i64 0) ?_ (v := .im (.val _)) rfl
    simp [execOp, ho, resolve, invoke, builtin, hx', Builtin.cap_, run_underlying hu, goInt]
  · exact k.1.elim
theorem mm3_ok (h : Rel E ρ σ a w) (hd : ∀ t, o.dst = some t → t < σ.N) (big : Bool) (x y z : Operand) (c : Call) (hcb : (c.callee = .builtin .min ∧ big = false) ∨ (c.callee = .builtin .max ∧ big = true)) (ha : c.args.toList = [x, y, z]) (ho : o.op = .call c) {rd v ups}
    (k : (asem σ fr (.pure (.mm3 big) [x, y, z])).wp P σ.O fr fun a b c => a = rd ∧ b = v ∧ c = ups) : Comes' P E (σ.upd o.dst v ups) o a w := by
  have hx := aev_rel h x
  have hy := aev_rel h y
  have hz := aev_rel h z
  obtain ⟨callee, args, argTypes⟩ := c
  obtain ⟨args⟩ := args
  simp only at ha hcb
  subst ha
  simp only [asem, List.map_cons, List.map_nil, PO.ev] at k
  split at k
  · rename_i c v' e
    unfold mm3V at e
    split at e <;> simp only [Option.some.injEq, Prod.mk.injEq, reduceCtorEq] at e
    rename_i q n q1 n1 q2 n2 e1 e2 e3
    obtain ⟨rfl, rfl⟩ := e
    rw [e1] at hx
    rw [e2] at hy
    rw [e3] at hz
    have hx' : a.eval x = .int q n := hx
    have hy' : a.eval y = .int q1 n1 := hy
    have hz' : a.eval z = .int q2 n2 := hz
    obtain ⟨-, -, rfl, rfl⟩ := k
    refine comes_value h hd ?_ (v := .im (.val _)) rfl
    rcases hcb with ⟨rfl, rfl⟩ | ⟨rfl, rfl⟩
    · simp [execOp, ho, resolve, invoke, builtin, hx', hy', hz', Builtin.min_, Builtin.min2]
    · simp [execOp, ho, resolve, invoke, builtin, hx', hy', hz', Builtin.max_, Builtin.max2]
  · exact k.1.elim
theorem part_one {e : TypeId} {cs : Array Value} {j : Nat} {v : Value} (ha : aggT P e = some false) (hg : cs[j]? = some v) : (part e cs j).run P w = .ok v w := by
  have hag : (isAgg e).run P w = .ok false w := by
    unfold aggT at ha
    cases hu : P.underlying e with
    | none => rw [hu] at ha; cases ha
    | some d =>
      rw [hu] at ha
      cases d <;> first | (cases ha; done) | simp [isAgg, run_underlying hu]
  simp [part, hag, hg, Result.andThen]
theorem aidx_ok (h : Rel E ρ σ a w) (hd : ∀ t, o.dst = some t → t < σ.N) (t : TypeId) (x i : Operand) (n : Nat) (e : TypeId) (j : TypeInfo) (ho : o.op = .index t x i) (hu : P.underlying t = some (.array n e)) (ha : aggT P e = some false) (hj : P.info? e = some j) (hj1 : j.size = 1) {rd v ups}
    (k : (asem σ fr (.pure (.aidx false 1 n) [x, i])).wp P σ.O fr fun a b c => a = rd ∧ b = v ∧ c = ups) : Comes' P E (σ.upd o.dst v ups) o a w := by
  have hx := aev_rel h x
  have hi := aev_rel h i
  simp only [asem, List.map_cons, List.map_nil, PO.ev] at k
  split at k
  · rename_i c v' e0
    have hsz : ∀ w, (sizeOf e).run P w = .ok 1 w := fun w => by simp [sizeOf, typeInfo, hj, hj1, Result.andThen]
    unfold aidxV at e0
    split at e0 <;> simp only [Option.some.injEq, Prod.mk.injEq, reduceCtorEq] at e0
    · rename_i m f q z e3 e4
      obtain ⟨rfl, rfl⟩ := e0
      rw [e3] at hx
      rw [e4] at hi
      obtain ⟨cs, e5, e6, e7⟩ := hx
      have hi' : a.eval i = .int q z := hi
      obtain ⟨⟨h0, hl, rfl⟩, -, rfl, rfl⟩ := k
      have hlt : z.toNat < n * 1 := by omega
      obtain ⟨g1, g2⟩ := e7 _ hlt
      refine comes_value h hd (x := cs.getD z.toNat undef) ?_ (by simp only [Nat.mul_one]; exact g2)
      have hp := part_one (P := P) (w := w) ha (getD_some (show z.toNat < cs.size by omega))
      simp [execOp, ho, e5, hi', Instr.index, run_underlying hu, h0, hl, hsz, hp, asIntOf, Result.andThen]
    · rename_i m f q z e3 e4
      obtain ⟨rfl, rfl⟩ := e0
      rw [e3] at hx
      rw [e4] at hi
      obtain ⟨cs, e5, e6, e7⟩ := hx
      have hi' : a.eval i = .int q z := hi
      obtain ⟨⟨h0, hl, rfl⟩, -, rfl, rfl⟩ := k
      have hlt : z.toNat < n * 1 := by omega
      obtain ⟨g1, g2⟩ := e7 _ hlt
      refine comes_value h hd (x := cs.getD z.toNat undef) ?_ (by simp only [Nat.mul_one]; exact g2)
      have hp := part_one (P := P) (w := w) ha (getD_some (show z.toNat < cs.size by omega))
      simp [execOp, ho, e5, hi', Instr.index, run_underlying hu, h0, hl, hsz, hp, asIntOf, Result.andThen]
  · exact k.1.elim
theorem part_agg {e : TypeId} {cs : Array Value} {j : Nat} {i : TypeInfo} (ha : aggT P e = some true) (hi : P.info? e = some i) : (part e cs j).run P w = .ok (.agg (cs.extract j (j + i.size))) w := by
  have hag : (isAgg e).run P w = .ok true w := by
    unfold aggT at ha
    cases hu : P.underlying e with
    | none => rw [hu] at ha; cases ha
    | some d =>
      rw [hu] at ha
      cases d <;> first | (cases ha; done) | simp [isAgg, run_underlying hu]
  have hsz : (sizeOf e).run P w = .ok i.size w := by simp [sizeOf, typeInfo, hi, Result.andThen]
  simp [part, hag, hsz]
theorem ext_getD {cs : Array Value} {a n k : Nat} (h : a + n ≤ cs.size) (hk : k < n) : (cs.extract a (a + n)).getD k undef = cs.getD (a + k) undef := by
  rw [Array.getD_eq_getD_getElem?, Array.getD_eq_getD_getElem?, Array.getElem?_extract, if_pos (by omega)]
theorem aidxA_ok (h : Rel E ρ σ a w) (hd : ∀ t, o.dst = some t → t < σ.N) (t : TypeId) (x i : Operand) (n : Nat) (e : TypeId) (j : TypeInfo) (ho : o.op = .index t x i) (hu : P.underlying t = some (.array n e)) (ha : aggT P e = some true) (hj : P.info? e = some j) {rd v ups}
    (k : (asem σ fr (.pure (.aidx true j.size n) [x, i])).wp P σ.O fr fun a b c => a = rd ∧ b = v ∧ c = ups) : Comes' P E (σ.upd o.dst v ups) o a w := by
  have hx := aev_rel h x
  have hi := aev_rel h i
  simp only [asem, List.map_cons, List.map_nil, PO.ev] at k
  split at k
  · rename_i c v' e0
    have hsz : ∀ w, (sizeOf e).run P w = .ok j.size w := fun w => by simp [sizeOf, typeInfo, hj, Result.andThen]
    unfold aidxV at e0
    split at e0 <;> simp only [Option.some.injEq, Prod.mk.injEq, reduceCtorEq] at e0
    · rename_i m f q z e3 e4
      obtain ⟨rfl, rfl⟩ := e0
      rw [e3] at hx
      rw [e4] at hi
      obtain ⟨cs, e5, e6, e7⟩ := hx
      have hi' : a.eval i = .int q z := hi
      obtain ⟨⟨h0, hl, rfl⟩, -, rfl, rfl⟩ := k
      have hlt : z.toNat < n := by omega
      have hle : z.toNat * j.size + j.size ≤ n * j.size := by
        have := Nat.mul_le_mul_right j.size (show z.toNat + 1 ≤ n from hlt)
        rw [Nat.add_mul, Nat.one_mul] at this; exact this
      have hp := part_agg (P := P) (w := w) (cs := cs) (j := z.toNat * j.size) ha hj
      refine comes_value h hd (x := .agg (cs.extract (z.toNat * j.size) (z.toNat * j.size + j.size))) ?_ ?_
      · simp [execOp, ho, e5, hi', Instr.index, run_underlying hu, h0, hl, hsz, hp, asIntOf, Result.andThen]
      · refine ⟨_, rfl, by rw [Array.size_extract]; omega, fun k hk => ?_⟩
        rw [ext_getD (by omega) hk]
        exact e7 _ (by omega)
    · rename_i m f q z e3 e4
      obtain ⟨rfl, rfl⟩ := e0
      rw [e3] at hx
      rw [e4] at hi
      obtain ⟨cs, e5, e6, e7⟩ := hx
      have hi' : a.eval i = .int q z := hi
      obtain ⟨⟨h0, hl, rfl⟩, -, rfl, rfl⟩ := k
      have hlt : z.toNat < n := by omega
      have hle : z.toNat * j.size + j.size ≤ n * j.size := by
        have := Nat.mul_le_mul_right j.size (show z.toNat + 1 ≤ n from hlt)
        rw [Nat.add_mul, Nat.one_mul] at this; exact this
      have hp := part_agg (P := P) (w := w) (cs := cs) (j := z.toNat * j.size) ha hj
      refine comes_value h hd (x := .agg (cs.extract (z.toNat * j.size) (z.toNat * j.size + j.size))) ?_ ?_
      · simp [execOp, ho, e5, hi', Instr.index, run_underlying hu, h0, hl, hsz, hp, asIntOf, Result.andThen]
      · refine ⟨_, rfl, by rw [Array.size_extract]; omega, fun k hk => ?_⟩
        rw [ext_getD (by omega) hk]
        exact e7 _ (by omega)
  · exact k.1.elim
theorem gidx_ok (h : Rel E ρ σ a w) (hd : ∀ t, o.dst = some t → t < σ.N) (t : TypeId) (x i : Operand) (n : Nat) (e : TypeId) (j : TypeInfo) (ho : o.op = .indexAddr t x i) (hu : P.underlying t = some (.array n e)) (hj : P.info? e = some j) (hsz : j.size = 1) {rd v ups}
    (k : (asem σ fr (.pure (.gidx n) [x, i])).wp P σ.O fr fun a b c => a = rd ∧ b = v ∧ c = ups) : Comes' P E (σ.upd o.dst v ups) o a w := by
  have hx := aev_rel h x
  have hi := aev_rel h i
  simp only [asem, List.map_cons, List.map_nil, PO.ev] at k
  split at k
  · rename_i c v' e0
    unfold gidxV at e0
    split at e0 <;> try (simp at e0; done)
    rename_i g q z e3 e4
    split at e0 <;> simp only [Option.some.injEq, Prod.mk.injEq, reduceCtorEq] at e0
    rename_i kd cs hg
    obtain ⟨rfl, rfl⟩ := e0
    rw [e3] at hx
    rw [e4] at hi
    have hx' : a.eval x = .pointer (some ⟨g, 0, none⟩) := hx
    have hi' : a.eval i = .int q z := hi
    obtain ⟨⟨h0, hl, hlen⟩, -, rfl, rfl⟩ := k
    have hlt : z.toNat < cs.length := by omega
    obtain ⟨g1, g2⟩ := h.gl.1 _ (gnum_ok (g, kd, cs) (glk_mem hg)) z.toNat (.int kd cs[z.toNat]) (by simp [List.getElem?_eq_getElem hlt])
    refine comes_value h hd (x := .pointer (some ((⟨g, 0, none⟩ : Addr).add (z.toNat * 1)))) ?_ ⟨⟨g, 0, none⟩, by simp, by omega, rfl, fun m hm => ?_⟩
    · simp [execOp, ho, Instr.indexAt, run_underlying hu, hx', hi', asIntOf, Instr.sureAddr, sizeOf, typeInfo, hj, hsz, h0, hl, Result.andThen]
    · obtain rfl : m = 0 := by omega
      refine ⟨⟨by simpa using g1, nofun⟩, .int kd cs[z.toNat], ?_, rfl, ?_⟩
      · rw [add_mk]; simpa using g2
      · show _ = _
        rw [List.getD_eq_getElem?_getD, List.getElem?_eq_getElem hlt]; rfl
  · exact k.1.elim
theorem Rel.more (h : Rel E ρ σ a w) {w' : World} (hz : w.heap.size ≤ w'.heap.size) (hh : ∀ g, g < w.heap.size → w'.heap[g]? = w.heap[g]?) (h1 : w'.os = w.os) (h2 : w'.tape = w.tape) (h3 : w'.output = w.output) : Rel E ρ σ a w' := by
  have ext : Ext ρ σ.O w ρ σ.O w' := ⟨fun g hg ho => ⟨hh g hg, ho⟩, fun g c hg ho => ⟨look_of_block (hh g hg), ho⟩, fun id o ho => ⟨o, ho, Nat.le_refl _, fun _ => ⟨rfl, Ob.fits_refl o, fun g cs e hl hg hc => ⟨cs, by rw [hh g (h.inside ho hl hg)]; exact hc, rfl⟩⟩⟩⟩
  refine ⟨fun t => V.rel_ext ext (h.tm t), h.N, fun id o ho => ?_, fun id o g ho hl hg => ?_, h.inj, h.nx, h.ext.trans h.bs ext, Nat.le_trans h.bs hz, h1.trans h.os, h2.trans h.tape, h3.trans h.output, h.df, h.gl.ext ext, h.le⟩
  · cases hl : o.held with
    | true => exact Ob.rel_ext ext rfl (fun g hg => hh g (h.inside ho hl hg)) (h.ob id o ho)
    | false => cases o <;> first | trivial | cases hl
  · obtain ⟨g1, g2⟩ := h.hi id o g ho hl hg
    exact ⟨g1, by omega⟩
theorem s2b_ok (h : Rel E ρ σ a w) (hd : ∀ t, o.dst = some t → t < σ.N) (s t e : TypeId) (x : Operand) (_ : TypeInfo) (ho : o.op = .convert s t x) (hs : P.underlying s = some .string) (ht : P.underlying t = some (.slice e)) (he : P.underlying e = some (.int .u8)) {rd v ups}
    (k : (asem σ fr (.s2b e x)).wp P σ.O fr fun a b c => a = rd ∧ b = v ∧ c = ups) : Comes' P E (σ.upd o.dst v ups) o a w := by
  have hx := aev_rel h x
  simp only [asem] at k
  split at k
  · rename_i b e1
    rw [e1] at hx
    have hx' : a.eval x = .string b := hx
    obtain ⟨-, rfl, rfl⟩ := k
    have hrun := Lib.run_convert_string_bytes (P := P) w s t e b hs ht he
    have hsize := Lib.bytesWorld_size w e b
    have hold := fun g hg => Lib.bytesWorld_at_old w e b g hg
    have hr : Rel E ρ σ a (Lib.bytesWorld w e b) := h.more (by omega) hold rfl rfl rfl
    have hcell : ∀ q, q < b.size → (Lib.bytesWorld w e b).cell? ⟨w.heap.size, q, none⟩ = some (.int .u8 (bAt b q)) := fun q hq => Lib.bytesWorld_cell w e b q hq
    have hno : ¬ own ρ σ.O w.heap.size := fun ⟨id, o', q1, q2, q3⟩ => by
      have := (h.hi id o' _ q1 q2 q3).2
      omega
    have hcap : b.size ≤ grownCap w b.size 0 e := by
      exact grownCap_ge w b.size 0 e
    refine ⟨_, _, ρ, by simp only [execOp, ho, hx', Sem.run_bind, hrun, Result.andThen, Sem.run_pure], .inl ⟨_, rfl, hr.putO hd (v := .im _) ⟨some ⟨w.heap.size, 0, none⟩, _, rfl, hcap, fun q r hq hr' => ?_⟩⟩⟩
    obtain rfl : r = 0 := by omega
    refine ⟨⟨w.heap.size, 0, none⟩, .int .u8 (bAt b q), rfl, ⟨⟨.inr ⟨rfl, .inl h.bs⟩, fun q => hno (own_of_ownc q)⟩, nofun⟩, ?_, rfl, rfl⟩
    rw [add_mk, Nat.mul_one, Nat.add_zero, Nat.zero_add]
    exact hcell q hq
  · exact k.1.elim
end
end Go.Proofs.Ytlmnhbobgfpanaa
