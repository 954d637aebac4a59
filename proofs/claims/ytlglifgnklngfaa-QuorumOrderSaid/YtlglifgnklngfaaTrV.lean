/-
  The rules of the walk in bundles.
-/
import Derived.Test.YtlglifgnklngfaaTrU
namespace Go.Proofs.Ytlglifgnklngfaa
open Go.RowKit
theorem simC : (∀ {P : Program} {m : Nat} {post : AX → St → Prop} {ks : List Kf} {σ : St}, awpS P m AC.skip ks post σ = popS P m AX.normal ks post σ) ∧
  (∀ {P : Program} {m : Nat} {post : AX → St → Prop} {ks : List Kf} {σ : St}, awpS P m AC.ret ks post σ = popS P m AX.ret ks post σ) ∧
  (∀ {P : Program} {m : Nat} {post : AX → St → Prop} {ks : List Kf} {σ : St} {id : Nat}, awpS P m (AC.exit id) ks post σ = popS P m (AX.exit id) ks post σ) ∧
  (∀ {P : Program} {m : Nat} {post : AX → St → Prop} {ks : List Kf} {σ : St} {x y : AC}, awpS P m (x.seq y) ks post σ = awpS P m x (Kf.seq y :: ks) post σ) ∧
  (∀ {P : Program} {m : Nat} {post : AX → St → Prop} {ks : List Kf} {σ : St} {id : Nat} {x : AC}, awpS P m (AC.block id x) ks post σ = awpS P m x (Kf.block id :: ks) post σ) ∧
  (∀ {P : Program} {m : Nat} {post : AX → St → Prop} {ks : List Kf} {σ : St} {x : AC}, awpS P m x.loop ks post σ = loopS P m x ks post σ) ∧
  (∀ {P : Program} {m : Nat} {post : AX → St → Prop} {ks : List Kf} {σ : St} {c : Operand} {x y : AC}, awpS P m (AC.cond c x y) ks post σ = condS P m (aev σ c) x y ks post σ) ∧
  (∀ {P : Program} {m : Nat} {post : AX → St → Prop} {ks : List Kf} {deps : List (List Nat)} {ros : List RO} {draw : Bool} {tm : List (Nat × V)} {ob : List (Nat × Ob)} {n N : Nat}, awpS P m (AC.region ros deps draw) ks post { tm := tm, ob := ob, next := n, N := N : St } = regS P m n ros 0 { tm := tm, ob := ob, next := n + 16 * ros.length, N := N : St } draw deps [] ks post) ∧
  (∀ {P : Program} {m : Nat} {post : AX → St → Prop} {σ : St} {e : AX}, popS P m e [] post σ = post e σ) ∧
  (∀ {P : Program} {m : Nat} {post : AX → St → Prop} {ks : List Kf} {σ : St} {y : AC}, popS P m AX.normal (Kf.seq y :: ks) post σ = awpS P m y ks post σ) ∧
  (∀ {P : Program} {m : Nat} {post : AX → St → Prop} {ks : List Kf} {σ : St} {y : AC}, popS P m AX.ret (Kf.seq y :: ks) post σ = popS P m AX.ret ks post σ) ∧
  (∀ {P : Program} {m : Nat} {post : AX → St → Prop} {ks : List Kf} {σ : St} {y : AC} {id : Nat}, popS P m (AX.exit id) (Kf.seq y :: ks) post σ = popS P m (AX.exit id) ks post σ) ∧
  (∀ {P : Program} {m : Nat} {post : AX → St → Prop} {ks : List Kf} {σ : St} {id : Nat}, popS P m AX.normal (Kf.block id :: ks) post σ = popS P m AX.normal ks post σ) ∧
  (∀ {P : Program} {m : Nat} {post : AX → St → Prop} {ks : List Kf} {σ : St} {id : Nat}, popS P m AX.ret (Kf.block id :: ks) post σ = popS P m AX.ret ks post σ) ∧
  (∀ {P : Program} {m : Nat} {post : AX → St → Prop} {ks : List Kf} {σ : St} {id i : Nat}, popS P m (AX.exit i) (Kf.block id :: ks) post σ = if i = id then popS P m AX.normal ks post σ else popS P m (AX.exit i) ks post σ) ∧
  (∀ {P : Program} {m base : Nat} {post : AX → St → Prop} {ks : List Kf} {σ : St} {i : Nat} {deps : List (List Nat)} {efs : List Ef} {d : Bool}, regS P m base [] i σ d deps efs ks post = freeWp d deps efs.reverse (popS P m AX.normal ks post σ)) ∧
  (∀ {P : Program} {m base : Nat} {post : AX → St → Prop} {ks : List Kf} {σ : St} {r : RO} {rs : List RO} {i : Nat} {d : Bool} {deps : List (List Nat)} {efs : List Ef}, regS P m base (r :: rs) i σ d deps efs ks post = opS P m base (gsem σ (base + 16 * i) r) [] r rs i σ d deps efs ks post) ∧
  (∀ {P : Program} {m base : Nat} {post : AX → St → Prop} {ks : List Kf} {σ : St} {rdl : List Nat} {r : RO} {rs : List RO} {i : Nat} {d : Bool} {deps : List (List Nat)} {efs : List Ef} {v : V} {ups : List (Nat × Ob)}, opS P m base (AM.done v ups) rdl r rs i σ d deps efs ks post = regS P m base rs (i + 1) (σ.upd r.dst v ups) d deps ({ fr := base + 16 * i, rd := r.rdT ++ List.map (fun k => 2 * k + 1) rdl, dst := r.dst, v := v, ups := ups : Ef } :: efs) ks post) ∧
  (∀ {P : Program} {m base : Nat} {post : AX → St → Prop} {ks : List Kf} {σ : St} {rdl : List Nat} {r : RO} {rs : List RO} {i : Nat} {d : Bool} {deps : List (List Nat)} {efs : List Ef} {id : Nat} {k : Ob → AM}, opS P m base (AM.get id k) rdl r rs i σ d deps efs ks post = getS P m base (σ.O id) id k rdl r rs i σ d deps efs ks post) ∧
  (∀ {P : Program} {m base : Nat} {post : AX → St → Prop} {ks : List Kf} {σ : St} {rdl : List Nat} {r : RO} {rs : List RO} {i : Nat} {d : Bool} {deps : List (List Nat)} {efs : List Ef} {o : Ob} {id : Nat} {k : Ob → AM}, getS P m base (some o) id k rdl r rs i σ d deps efs ks post = opS P m base (k o) (rdl ++ [id]) r rs i σ d deps efs ks post) ∧
  (∀ {P : Program} {m base : Nat} {post : AX → St → Prop} {ks : List Kf} {σ : St} {rdl : List Nat} {r : RO} {rs : List RO} {i : Nat} {d : Bool} {deps : List (List Nat)} {efs : List Ef} {p : Prop} {a : AM}, opS P m base (AM.req p a) rdl r rs i σ d deps efs ks post = (p ∧ opS P m base a rdl r rs i σ d deps efs ks post)) ∧
  (∀ {P : Program} {m base : Nat} {post : AX → St → Prop} {ks : List Kf} {σ : St} {rdl : List Nat} {r : RO} {rs : List RO} {i : Nat} {d : Bool} {deps : List (List Nat)} {efs : List Ef} {b : Bool} {x y : AM}, opS P m base (AM.ite b x y) rdl r rs i σ d deps efs ks post = iteS P m base b x y rdl r rs i σ d deps efs ks post) ∧
  (∀ {P : Program} {m base : Nat} {post : AX → St → Prop} {ks : List Kf} {σ : St} {rdl : List Nat} {r : RO} {rs : List RO} {i : Nat} {d : Bool} {deps : List (List Nat)} {efs : List Ef} {x y : AM}, iteS P m base true x y rdl r rs i σ d deps efs ks post = opS P m base x rdl r rs i σ d deps efs ks post) ∧
  (∀ {P : Program} {m base : Nat} {post : AX → St → Prop} {ks : List Kf} {σ : St} {rdl : List Nat} {r : RO} {rs : List RO} {i : Nat} {d : Bool} {deps : List (List Nat)} {efs : List Ef} {x y : AM}, iteS P m base false x y rdl r rs i σ d deps efs ks post = opS P m base y rdl r rs i σ d deps efs ks post) ∧
  (∀ {P : Program} {m base : Nat} {post : AX → St → Prop} {ks : List Kf} {σ : St} {rdl : List Nat} {r : RO} {rs : List RO} {i : Nat} {d : Bool} {deps : List (List Nat)} {efs : List Ef} {f : FuncId} {evs : List V}, opS P m base (AM.call f evs) rdl r rs i σ d deps efs ks post = callS P m base f evs rdl r rs i σ d deps efs ks post) ∧
  (∀ {P : Program} {m : Nat} {post : AX → St → Prop} {ks : List Kf} {σ : St} {x y : AC}, condS P m (V.im (T.val (Value.bool true))) x y ks post σ = awpS P m x ks post σ) ∧
  (∀ {P : Program} {m : Nat} {post : AX → St → Prop} {ks : List Kf} {σ : St} {x y : AC}, condS P m (V.im (T.val (Value.bool false))) x y ks post σ = awpS P m y ks post σ) ∧
  (∀ {deps : List (List Nat)} {efs : List Ef} {A : Prop}, freeWp false deps efs A = A) ∧
  (∀ {tm : List (Nat × V)} {ob : List (Nat × Ob)} {n N k : Nat}, { tm := tm, ob := ob, next := n, N := N : St }.O k = lo ob k) ∧
  (∀ {tm : List (Nat × V)} {ob : List (Nat × Ob)} {n N t : Nat}, { tm := tm, ob := ob, next := n, N := N : St }.get t = lk tm t) ∧
  (∀ {k t : Nat} {v : V} {l : List (Nat × V)}, lk ((k, v) :: l) t = if k = t then v else lk l t) ∧
  (∀ {t : Nat}, lk [] t = V.dead) ∧
  (∀ {k t : Nat} {o : Ob} {l : List (Nat × Ob)}, lo ((k, o) :: l) t = if k = t then some o else lo l t) ∧
  (∀ {t : Nat}, lo [] t = none) ∧
  (∀ {tm : List (Nat × V)} {ob : List (Nat × Ob)} {n N d : Nat} {v : V} {ups : List (Nat × Ob)}, { tm := tm, ob := ob, next := n, N := N : St }.upd (some d) v ups = { tm := (d, v) :: tm, ob := ups ++ ob, next := n, N := N : St }) ∧
  (∀ {tm : List (Nat × V)} {ob : List (Nat × Ob)} {n N : Nat} {v : V} {ups : List (Nat × Ob)}, { tm := tm, ob := ob, next := n, N := N : St }.upd none v ups = { tm := tm, ob := ups ++ ob, next := n, N := N : St }) ∧
  (∀ {σ : St} {t : Nat}, aev σ (Operand.tmp t) = σ.get t) ∧
  (∀ {σ : St} {v : Value}, aev σ (Operand.const v) = V.im (T.val v)) ∧
  (∀ {σ : St} {f : FuncId}, aev σ (Operand.func f) = V.clo f 0 (fun _ => V.dead) 0 fun _ => V.dead) ∧
  (∀ {σ : St} {fr : Nat} {d : Option Nat} {ao : AOp}, gsem σ fr { dst := d, guard := none, op := ao : RO } = asem σ fr ao) ∧
  (∀ {σ : St} {fr : Nat} {d : Option Nat} {t : Nat} {want : Bool} {ao : AOp}, gsem σ fr { dst := d, guard := some (t, want), op := ao : RO } = guardM (σ.get t) want (asem σ fr ao)) ∧
  (∀ {b want : Bool} {a : AM}, guardM (V.im (T.val (Value.bool b))) want a = AM.ite (b == want) a (AM.done (V.im (T.val undef)) [])) ∧
  (∀ {want : Bool} {a : AM}, guardM (V.im (T.val undef)) want a = AM.done (V.im (T.val undef)) []) :=
  ⟨@awpS_skip, @awpS_ret, @awpS_exit, @awpS_seq, @awpS_block, @awpS_loop, @awpS_cond, @awpS_region, @popS_nil, @popS_seq, @popS_seq_ret, @popS_seq_exit, @popS_block, @popS_block_ret, @popS_block_exit, @regS_nil, @regS_cons, @opS_done, @opS_get, @getS_some, @opS_req, @opS_ite, @iteS_true, @iteS_false, @opS_call, @condS_true, @condS_false, @freeWp_false, @St_O, @St_get, @lk_cons, @lk_nil, @lo_cons', @lo_nil, @upd_some, @upd_none, @aev_tmp, @aev_const, @aev_func, @gsem_none, @gsem_some, @guardM_bool, @guardM_undef⟩
end Go.Proofs.Ytlglifgnklngfaa
