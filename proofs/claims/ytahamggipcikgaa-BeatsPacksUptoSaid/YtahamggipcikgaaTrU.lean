/-
  How a body is walked: rules for 'simp only', and what they stand still at.
-/
import Derived.Test.YtahamggipcikgaaTrT
namespace Go.Proofs.Ytahamggipcikgaa
open Go.RowKit

/-- A function's body, looked up and understood. -/
def Body (P : Program) (f : FuncId) (N : Nat) (c : AC) (rs : List RVx) : Prop :=
  ∃ fn code jn, P.funcs[f]? = some fn ∧ (fn.name == "runtime.NumGoroutine") = false ∧ fn.body = some code ∧ fn.ntmps = N ∧ compC P jn N code = some c ∧ compRes P fn.results.toList = some rs

theorem body_mk (jn : Bool) {P : Program} {f : FuncId} {fn : Func} {N : Nat} {c : AC} {rs : List RVx} (h1 : P.funcs[f]? = some fn) (h2 : (fn.name == "runtime.NumGoroutine") = false) (h3 : fn.ntmps = N) (h4 : (fn.body.bind fun code => compC P jn N code) = some c) (h5 : compRes P fn.results.toList = some rs) : Body P f N c rs := by
  cases hb : fn.body with
  | none => rw [hb] at h4; cases h4
  | some code => rw [hb] at h4; exact ⟨fn, code, jn, h1, h2, hb, h3, h4, h5⟩

/-- What is asked where a function ends. -/
def endWp (m : Nat) (rs : List RVx) (r : Ret) (σ : St) : Prop := ∃ v nl, resV σ rs = some v ∧ Gives m nl σ v r
def postWp (m : Nat) (rs : List RVx) (r : Ret) : AX → St → Prop
  | .exit _, _ => False
  | _, σ => endWp m rs r σ

theorem fc_body {P : Program} (hm : P.follows .mixedOrders = true) {f : FuncId} {N : Nat} {c : AC} {rs : List RVx} (hb : Body P f N c rs) {os : List Ob} {args : List V} {r : Ret} (ha : args.length ≤ N) (h : awp P os.length c (postWp os.length rs r) (st0 os args N)) : FC P f os args r := by
  obtain ⟨fn, code, jn, h1, h2, h3, rfl, h5, h6⟩ := hb
  refine fc_of hm h1 h2 h3 h5 h6 ha (awp_mono ?_ h)
  intro e σ hq
  cases e <;> exact hq

/-- What comes behind: the rest of a sequence, the end of a block. -/
inductive Kf where
  | seq (y : AC)
  | block (id : Nat)

def contK (P : Program) (m : Nat) (post : AX → St → Prop) : List Kf → AX → St → Prop
  | [], e, σ => post e σ
  | .seq y :: ks, .normal, σ => awp P m y (contK P m post ks) σ
  | .seq _ :: ks, e, σ => contK P m post ks e σ
  | .block id :: ks, .exit i, σ => if i = id then contK P m post ks .normal σ else contK P m post ks (.exit i) σ
  | .block _ :: ks, e, σ => contK P m post ks e σ

def freeWp (d : Bool) (deps : List (List Nat)) (efs : List Ef) (A : Prop) : Prop := (d = true → free deps efs = true) ∧ A

/-- A code, then what comes behind. -/
def awpS (P : Program) (m : Nat) (c : AC) (ks : List Kf) (post : AX → St → Prop) (σ : St) : Prop := awp P m c (contK P m post ks) σ
def popS (P : Program) (m : Nat) (e : AX) (ks : List Kf) (post : AX → St → Prop) (σ : St) : Prop := contK P m post ks e σ
/-- The rest of a region. -/
def regS (P : Program) (m base : Nat) (rs : List RO) (i : Nat) (σ : St) (d : Bool) (deps : List (List Nat)) (efs : List Ef) (ks : List Kf) (post : AX → St → Prop) : Prop :=
  regWp P base rs i σ fun σ' es => freeWp d deps (efs.reverse ++ es) (popS P m .normal ks post σ')
/-- An operation, then the rest of its region. -/
def opS (P : Program) (m base : Nat) (a : AM) (rdl : List Nat) (r : RO) (rs : List RO) (i : Nat) (σ : St) (d : Bool) (deps : List (List Nat)) (efs : List Ef) (ks : List Kf) (post : AX → St → Prop) : Prop :=
  a.wp P σ.O (base + 16 * i) fun rd v ups => regS P m base rs (i + 1) (σ.upd r.dst v ups) d deps (⟨base + 16 * i, r.rdT ++ (rdl ++ rd).map (fun k => 2 * k + 1), r.dst, v, ups⟩ :: efs) ks post
def getS (P : Program) (m base : Nat) (o : Option Ob) (id : Nat) (k : Ob → AM) (rdl : List Nat) (r : RO) (rs : List RO) (i : Nat) (σ : St) (d : Bool) (deps : List (List Nat)) (efs : List Ef) (ks : List Kf) (post : AX → St → Prop) : Prop :=
  match o with
  | some o => opS P m base (k o) (rdl ++ [id]) r rs i σ d deps efs ks post
  | none => False
def iteS (P : Program) (m base : Nat) (b : Bool) (x y : AM) (rdl : List Nat) (r : RO) (rs : List RO) (i : Nat) (σ : St) (d : Bool) (deps : List (List Nat)) (efs : List Ef) (ks : List Kf) (post : AX → St → Prop) : Prop :=
  (b = true → opS P m base x rdl r rs i σ d deps efs ks post) ∧ (b = false → opS P m base y rdl r rs i σ d deps efs ks post)
/-- A call. -/
def callS (P : Program) (m base : Nat) (f : FuncId) (evs : List V) (rdl : List Nat) (r : RO) (rs : List RO) (i : Nat) (σ : St) (d : Bool) (deps : List (List Nat)) (efs : List Ef) (ks : List Kf) (post : AX → St → Prop) : Prop :=
  opS P m base (.call f evs) rdl r rs i σ d deps efs ks post
def condS (P : Program) (m : Nat) (v : V) (x y : AC) (ks : List Kf) (post : AX → St → Prop) (σ : St) : Prop :=
  match v with
  | .im (.val (.bool b)) => (b = true → awpS P m x ks post σ) ∧ (b = false → awpS P m y ks post σ)
  | _ => False
def loopS (P : Program) (m : Nat) (x : AC) (ks : List Kf) (post : AX → St → Prop) (σ : St) : Prop := awpS P m (.loop x) ks post σ

section
variable {P : Program} {m base : Nat} {post : AX → St → Prop} {ks : List Kf} {σ : St} {e : AX} {rdl : List Nat} {r : RO} {rs : List RO} {i : Nat} {d : Bool} {deps : List (List Nat)} {efs : List Ef}

theorem fc_body' {f : FuncId} {N : Nat} {c : AC} {rs : List RVx} (hm : P.follows .mixedOrders = true) (hb : Body P f N c rs) {os : List Ob} {args : List V} {r : Ret} (ha : args.length ≤ N) (h : awpS P os.length c [] (postWp os.length rs r) (st0 os args N)) : FC P f os args r :=
  fc_body hm hb ha (awp_mono (fun _ _ h => h) h)

theorem awpS_skip : awpS P m .skip ks post σ = popS P m .normal ks post σ := rfl
theorem awpS_ret : awpS P m .ret ks post σ = popS P m .ret ks post σ := rfl
/-- Where several ways meet. -/
def joinS (P : Program) (m : Nat) (x : AC) (ks : List Kf) (post : AX → St → Prop) (σ : St) : Prop := awpS P m (.join x) ks post σ
theorem awpS_join {x : AC} : awpS P m (.join x) ks post σ = joinS P m x ks post σ := rfl
theorem awpS_exit {id : Nat} : awpS P m (.exit id) ks post σ = popS P m (.exit id) ks post σ := rfl
theorem awpS_seq {x y : AC} : awpS P m (.seq x y) ks post σ = awpS P m x (.seq y :: ks) post σ := by
  unfold awpS
  simp only [awp]
  congr 1
  funext e σ'
  cases e <;> rfl
theorem awpS_block {id : Nat} {x : AC} : awpS P m (.block id x) ks post σ = awpS P m x (.block id :: ks) post σ := by
  unfold awpS
  simp only [awp]
  congr 1
  funext e σ'
  cases e <;> rfl
theorem awpS_loop {x : AC} : awpS P m (.loop x) ks post σ = loopS P m x ks post σ := rfl
theorem awpS_cond {c : Operand} {x y : AC} : awpS P m (.cond c x y) ks post σ = condS P m (aev σ c) x y ks post σ := rfl
theorem awpS_region {ros : List RO} {draw : Bool} {tm : List (Nat × V)} {ob : List (Nat × Ob)} {n N : Nat} : awpS P m (.region ros deps draw) ks post ⟨tm, ob, n, N⟩ = regS P m n ros 0 ⟨tm, ob, n + 16 * ros.length, N⟩ draw deps [] ks post := rfl
theorem popS_nil : popS P m e [] post σ = post e σ := by cases e <;> rfl
theorem popS_seq {y : AC} : popS P m .normal (.seq y :: ks) post σ = awpS P m y ks post σ := rfl
theorem popS_seq_ret {y : AC} : popS P m .ret (.seq y :: ks) post σ = popS P m .ret ks post σ := rfl
theorem popS_seq_exit {y : AC} {id : Nat} : popS P m (.exit id) (.seq y :: ks) post σ = popS P m (.exit id) ks post σ := rfl
theorem popS_block {id : Nat} : popS P m .normal (.block id :: ks) post σ = popS P m .normal ks post σ := rfl
theorem popS_block_ret {id : Nat} : popS P m .ret (.block id :: ks) post σ = popS P m .ret ks post σ := rfl
theorem popS_block_exit {id i : Nat} : popS P m (.exit i) (.block id :: ks) post σ = if i = id then popS P m .normal ks post σ else popS P m (.exit i) ks post σ := rfl
theorem regS_nil {d : Bool} : regS P m base [] i σ d deps efs ks post = freeWp d deps efs.reverse (popS P m .normal ks post σ) := by
  simp [regS, regWp]
theorem regS_cons : regS P m base (r :: rs) i σ d deps efs ks post = opS P m base (gsem σ (base + 16 * i) r) [] r rs i σ d deps efs ks post := by
  unfold regS opS
  simp only [regWp]
  congr 1
  funext rd v ups
  simp [regS]
theorem opS_done {v : V} {ups : List (Nat × Ob)} : opS P m base (.done v ups) rdl r rs i σ d deps efs ks post = regS P m base rs (i + 1) (σ.upd r.dst v ups) d deps (⟨base + 16 * i, r.rdT ++ rdl.map (fun k => 2 * k + 1), r.dst, v, ups⟩ :: efs) ks post := by
  simp [opS, AM.wp]
theorem opS_get {id : Nat} {k : Ob → AM} : opS P m base (.get id k) rdl r rs i σ d deps efs ks post = getS P m base (σ.O id) id k rdl r rs i σ d deps efs ks post := by
  unfold getS
  cases h : σ.O id with
  | none => simp [opS, AM.wp, h]
  | some o =>
    simp only [opS, AM.wp, h, Option.some.injEq, exists_eq_left']
    congr 1
    funext rd v ups
    simp
theorem getS_some {o : Ob} {id : Nat} {k : Ob → AM} : getS P m base (some o) id k rdl r rs i σ d deps efs ks post = opS P m base (k o) (rdl ++ [id]) r rs i σ d deps efs ks post := rfl
theorem opS_req {p : Prop} {a : AM} : opS P m base (.req p a) rdl r rs i σ d deps efs ks post = (p ∧ opS P m base a rdl r rs i σ d deps efs ks post) := rfl
theorem opS_ite {b : Bool} {x y : AM} : opS P m base (.ite b x y) rdl r rs i σ d deps efs ks post = iteS P m base b x y rdl r rs i σ d deps efs ks post := rfl
theorem iteS_true {x y : AM} : iteS P m base true x y rdl r rs i σ d deps efs ks post = opS P m base x rdl r rs i σ d deps efs ks post := by simp [iteS]
theorem iteS_false {x y : AM} : iteS P m base false x y rdl r rs i σ d deps efs ks post = opS P m base y rdl r rs i σ d deps efs ks post := by simp [iteS]
theorem opS_call {f : FuncId} {evs : List V} : opS P m base (.call f evs) rdl r rs i σ d deps efs ks post = callS P m base f evs rdl r rs i σ d deps efs ks post := rfl
theorem condS_true {x y : AC} : condS P m (.im (.val (.bool true))) x y ks post σ = awpS P m x ks post σ := by simp [condS]
theorem condS_false {x y : AC} : condS P m (.im (.val (.bool false))) x y ks post σ = awpS P m y ks post σ := by simp [condS]
theorem condS_intro {b : Bool} {x y : AC} (h1 : b = true → awpS P m x ks post σ) (h2 : b = false → awpS P m y ks post σ) : condS P m (.im (.val (.bool b))) x y ks post σ := ⟨h1, h2⟩
theorem iteS_intro {b : Bool} {x y : AM} (h1 : b = true → opS P m base x rdl r rs i σ d deps efs ks post) (h2 : b = false → opS P m base y rdl r rs i σ d deps efs ks post) : iteS P m base b x y rdl r rs i σ d deps efs ks post := ⟨h1, h2⟩
theorem freeWp_false {A : Prop} : freeWp false deps efs A = A := by simp [freeWp]
theorem freeWp_intro {A : Prop} (h : free deps efs = true) (k : A) : freeWp true deps efs A := ⟨fun _ => h, k⟩

/-- A call met by a contract. -/
theorem callS_intro {f : FuncId} {evs : List V} (c : CallInfo) (h : CallOK P σ.O (base + 16 * i) f evs c)
    (k : regS P m base rs (i + 1) (σ.upd r.dst (c.r.v.ren (rn c.ids (base + 16 * i))) (c.ups σ.O (base + 16 * i))) d deps (⟨base + 16 * i, r.rdT ++ (rdl ++ (c.ids ++ c.vw)).map (fun k => 2 * k + 1), r.dst, c.r.v.ren (rn c.ids (base + 16 * i)), c.ups σ.O (base + 16 * i)⟩ :: efs) ks post) :
    callS P m base f evs rdl r rs i σ d deps efs ks post := ⟨c, ⟨_, fun _ => PLe.refl _, fun _ _ => rfl, h⟩, k⟩

/-- A loop: what holds at each round's head, and what falls. -/
theorem loopS_intro {x : AC} {ι : Type} (S : ι → St) (μ : ι → Nat) (i0 : ι) (h0 : WeakP m σ (S i0))
    (h : ∀ i, awpS P m x [] (fun e σ' => match e with | .normal => ∃ j, μ j < μ i ∧ WeakP m σ' (S j) | e => popS P m e ks post σ') (S i)) : loopS P m x ks post σ := by
  refine ⟨ι, S, μ, i0, weak_of h0, fun i => awp_mono ?_ (h i)⟩
  intro e σ' hq
  cases e with
  | normal =>
    obtain ⟨j, h1, h2⟩ := hq
    exact ⟨j, h1, weak_of h2⟩
  | exit id => exact hq
  | ret => exact hq
end

theorem St_O {tm : List (Nat × V)} {ob : List (Nat × Ob)} {n N k : Nat} : (St.mk tm ob n N).O k = lo ob k := rfl
theorem St_get {tm : List (Nat × V)} {ob : List (Nat × Ob)} {n N t : Nat} : (St.mk tm ob n N).get t = lk tm t := rfl
theorem lk_cons {k t : Nat} {v : V} {l : List (Nat × V)} : lk ((k, v) :: l) t = if k = t then v else lk l t := rfl
theorem lk_nil {t : Nat} : lk [] t = .dead := rfl
theorem lo_cons' {k t : Nat} {o : Ob} {l : List (Nat × Ob)} : lo ((k, o) :: l) t = if k = t then some o else lo l t := rfl
theorem lo_nil {t : Nat} : lo [] t = none := rfl
theorem upd_some {tm : List (Nat × V)} {ob : List (Nat × Ob)} {n N d : Nat} {v : V} {ups : List (Nat × Ob)} : (St.mk tm ob n N).upd (some d) v ups = ⟨(d, v) :: tm, ups ++ ob, n, N⟩ := rfl
theorem upd_none {tm : List (Nat × V)} {ob : List (Nat × Ob)} {n N : Nat} {v : V} {ups : List (Nat × Ob)} : (St.mk tm ob n N).upd none v ups = ⟨tm, ups ++ ob, n, N⟩ := rfl
section
variable {σ : St} {fr : Nat}
theorem aev_tmp {t : Nat} : aev σ (.tmp t) = σ.get t := rfl
theorem aev_const {v : Value} : aev σ (.const v) = .im (.val v) := rfl
theorem aev_func {f : FuncId} : aev σ (.func f) = .clo f 0 (fun _ => .dead) 0 fun _ => .dead := rfl
theorem gsem_none {d : Option Nat} {ao : AOp} : gsem σ fr ⟨d, none, ao⟩ = asem σ fr ao := rfl
/-- A guarded operation. -/
def guardM (v : V) (want : Bool) (a : AM) : AM := match v with
  | .im (.val (.bool b)) => .ite (b == want) a (.done (.im (.val undef)) [])
  | .im (.val (.tuple _)) => .done (.im (.val undef)) []
  | _ => .fail
theorem guardM_bool {b want : Bool} {a : AM} : guardM (.im (.val (.bool b))) want a = .ite (b == want) a (.done (.im (.val undef)) []) := rfl
theorem guardM_undef {want : Bool} {a : AM} : guardM (.im (.val undef)) want a = .done (.im (.val undef)) [] := rfl
theorem gsem_some {d : Option Nat} {t : Nat} {want : Bool} {ao : AOp} : gsem σ fr ⟨d, some (t, want), ao⟩ = guardM (σ.get t) want (asem σ fr ao) := rfl
end

theorem wrap_i64 {x : Int} (h1 : -9223372036854775808 ≤ x) (h2 : x ≤ 9223372036854775807) : IntKind.i64.wrap x = x := IntWalk.i64_in _ ⟨h1, h2⟩
theorem wrap_u64 {x : Int} (h1 : 0 ≤ x) (h2 : x ≤ 18446744073709551615) : IntKind.u64.wrap x = x := by
  simp [IntKind.wrap, IntKind.bits, IntKind.signed]; omega
theorem wrap_u8 {x : Int} (h1 : 0 ≤ x) (h2 : x ≤ 255) : IntKind.u8.wrap x = x := IntWalk.u8_in _ ⟨h1, h2⟩
end Go.Proofs.Ytahamggipcikgaa
