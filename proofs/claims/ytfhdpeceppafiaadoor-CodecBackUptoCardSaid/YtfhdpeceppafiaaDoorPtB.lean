/-
  The functions, typed, continued.
-/
import Derived.Test.YtfhdpeceppafiaaDoorPtBA
namespace Go.Proofs.YtfhdpeceppafiaaDoor
open Go.RowKit
def rs20 : List RVx := [(.cell 2 true 17), (.tmp 3)]
/-- gazette/codec.ReadItem -/
def p20 (fu : Nat) : (List (Int)) × (Unit) → Option ((Unit) × ((Z0) × ((Int) × (Unit)))) := fun ⟨a, _⟩ =>
Option.bind (p14 fu (a, ())) fun ⟨_, ⟨c, f, _, _⟩⟩ =>
bif eqL c then
 Option.bind (p46 fu ((c, f, (), ()), ())) fun ⟨⟨⟨h, i, ⟨j, ⟨k, l, _⟩, _⟩, _⟩, _, _⟩, m⟩ =>
 bif j then
 bif eqL h then
 Option.bind (p15_2 fu ((h, i, (true, (k, l, ()), dflt .unit), ()), ())) fun ⟨⟨⟨n, o, ⟨q, ⟨s, t, _⟩, _⟩, _⟩, _, _⟩, u⟩ =>
 bif q then
 orK (E := (Unit) × (((List (Int)) × ((Int) × (((Bool) × (((Int) × ((Int) × (Unit))) × (Unit))) × (Unit)))) × ((Z0) × (Unit))))
 (bif (m == (1 : Int)) then
 bif eqL n then
 Option.bind (p47_2 fu ((n, o, (true, (s, t, ()), dflt .unit), ()), ())) fun ⟨⟨⟨w, x, ⟨y, ⟨z, a0, _⟩, _⟩, _⟩, _, _⟩, ⟨c0, f0, h0, i0, j0, k0, _⟩⟩ =>
 bif y then
 bif eqL w then
 some (.inl ((), ((w, x, (true, (z, a0, ()), dflt .unit), ()), (m, u, c0, f0, h0, i0, j0, k0, (0 : Int), (0 : Int), (0 : Int), (0 : Int), (0 : Int), (0 : Int), [], [], [], ()), ())))
 else none
 else
 bif eqL w then
 some (.inl ((), ((w, x, zR0, ()), (m, u, c0, f0, h0, i0, j0, k0, (0 : Int), (0 : Int), (0 : Int), (0 : Int), (0 : Int), (0 : Int), [], [], [], ()), ())))
 else none
 else none
 else
 bif (m == (2 : Int)) then
 bif eqL n then
 Option.bind (p15_2 fu ((n, o, (true, (s, t, ()), dflt .unit), ()), ())) fun ⟨⟨⟨l0, m0, ⟨n0, ⟨o0, q0, _⟩, _⟩, _⟩, _, _⟩, s0⟩ =>
 bif n0 then
 bif eqL l0 then
 Option.bind (p48_2 fu ((l0, m0, (true, (o0, q0, ()), dflt .unit), ()), ())) fun ⟨⟨⟨t0, u0, ⟨w0, ⟨x0, y0, _⟩, _⟩, _⟩, _, _⟩, z0⟩ =>
 bif w0 then
 bif eqL t0 then
 Option.bind (p15_2 fu ((t0, u0, (true, (x0, y0, ()), dflt .unit), ()), ())) fun ⟨⟨⟨a1, c1, ⟨f1, ⟨h1, i1, _⟩, _⟩, _⟩, _, _⟩, j1⟩ =>
 bif f1 then
 bif eqL a1 then
 some (.inl ((), ((a1, c1, (true, (h1, i1, ()), dflt .unit), ()), (m, u, (0 : Int), (0 : Int), (0 : Int), [], [], [], s0, z0, j1, (0 : Int), (0 : Int), (0 : Int), [], [], [], ()), ())))
 else none
 else
 bif eqL a1 then
 some (.inl ((), ((a1, c1, zR0, ()), (m, u, (0 : Int), (0 : Int), (0 : Int), [], [], [], s0, z0, j1, (0 : Int), (0 : Int), (0 : Int), [], [], [], ()), ())))
 else none
 else none
 else
 bif eqL t0 then
 Option.bind (p15_2 fu ((t0, u0, zR0, ()), ())) fun ⟨⟨⟨k1, l1, ⟨m1, ⟨n1, o1, _⟩, _⟩, _⟩, _, _⟩, q1⟩ =>
 bif m1 then
 bif eqL k1 then
 some (.inl ((), ((k1, l1, (true, (n1, o1, ()), dflt .unit), ()), (m, u, (0 : Int), (0 : Int), (0 : Int), [], [], [], s0, z0, q1, (0 : Int), (0 : Int), (0 : Int), [], [], [], ()), ())))
 else none
 else
 bif eqL k1 then
 some (.inl ((), ((k1, l1, zR0, ()), (m, u, (0 : Int), (0 : Int), (0 : Int), [], [], [], s0, z0, q1, (0 : Int), (0 : Int), (0 : Int), [], [], [], ()), ())))
 else none
 else none
 else none
 else
 bif eqL l0 then
 Option.bind (p48_2 fu ((l0, m0, zR0, ()), ())) fun ⟨⟨⟨s1, t1, ⟨u1, ⟨w1, x1, _⟩, _⟩, _⟩, _, _⟩, y1⟩ =>
 bif u1 then
 bif eqL s1 then
 Option.bind (p15_2 fu ((s1, t1, (true, (w1, x1, ()), dflt .unit), ()), ())) fun ⟨⟨⟨z1, a2, ⟨c2, ⟨f2, h2, _⟩, _⟩, _⟩, _, _⟩, i2⟩ =>
 bif c2 then
 bif eqL z1 then
 some (.inl ((), ((z1, a2, (true, (f2, h2, ()), dflt .unit), ()), (m, u, (0 : Int), (0 : Int), (0 : Int), [], [], [], s0, y1, i2, (0 : Int), (0 : Int), (0 : Int), [], [], [], ()), ())))
 else none
 else
 bif eqL z1 then
 some (.inl ((), ((z1, a2, zR0, ()), (m, u, (0 : Int), (0 : Int), (0 : Int), [], [], [], s0, y1, i2, (0 : Int), (0 : Int), (0 : Int), [], [], [], ()), ())))
 else none
 else none
 else
 bif eqL s1 then
 Option.bind (p15_2 fu ((s1, t1, zR0, ()), ())) fun ⟨⟨⟨j2, k2, ⟨l2, ⟨m2, n2, _⟩, _⟩, _⟩, _, _⟩, o2⟩ =>
 bif l2 then
 bif eqL j2 then
 some (.inl ((), ((j2, k2, (true, (m2, n2, ()), dflt .unit), ()), (m, u, (0 : Int), (0 : Int), (0 : Int), [], [], [], s0, y1, o2, (0 : Int), (0 : Int), (0 : Int), [], [], [], ()), ())))
 else none
 else
 bif eqL j2 then
 some (.inl ((), ((j2, k2, zR0, ()), (m, u, (0 : Int), (0 : Int), (0 : Int), [], [], [], s0, y1, o2, (0 : Int), (0 : Int), (0 : Int), [], [], [], ()), ())))
 else none
 else none
 else none
 else none
 else
 bif (m == (3 : Int)) then
 bif eqL n then
 Option.bind (p15_2 fu ((n, o, (true, (s, t, ()), dflt .unit), ()), ())) fun ⟨⟨⟨q2, s2, ⟨t2, ⟨u2, w2, _⟩, _⟩, _⟩, _, _⟩, x2⟩ =>
 bif t2 then
 bif eqL q2 then
 some (.inl ((), ((q2, s2, (true, (u2, w2, ()), dflt .unit), ()), (m, u, (0 : Int), (0 : Int), (0 : Int), [], [], [], (0 : Int), (0 : Int), (0 : Int), x2, (0 : Int), (0 : Int), [], [], [], ()), ())))
 else none
 else
 bif eqL q2 then
 some (.inl ((), ((q2, s2, zR0, ()), (m, u, (0 : Int), (0 : Int), (0 : Int), [], [], [], (0 : Int), (0 : Int), (0 : Int), x2, (0 : Int), (0 : Int), [], [], [], ()), ())))
 else none
 else none
 else
 bif (m == (4 : Int)) then
 bif eqL n then
 Option.bind (p49_2 fu ((n, o, (true, (s, t, ()), dflt .unit), ()), ())) fun ⟨⟨⟨y2, z2, ⟨a3, ⟨c3, f3, _⟩, _⟩, _⟩, _, _⟩, ⟨h3, i3, j3, k3, l3, _⟩⟩ =>
 bif a3 then
 bif eqL y2 then
 some (.inl ((), ((y2, z2, (true, (c3, f3, ()), dflt .unit), ()), (m, u, (0 : Int), (0 : Int), (0 : Int), [], [], [], (0 : Int), (0 : Int), (0 : Int), (0 : Int), h3, i3, j3, k3, l3, ()), ())))
 else none
 else
 bif eqL y2 then
 some (.inl ((), ((y2, z2, zR0, ()), (m, u, (0 : Int), (0 : Int), (0 : Int), [], [], [], (0 : Int), (0 : Int), (0 : Int), (0 : Int), h3, i3, j3, k3, l3, ()), ())))
 else none
 else none
 else
 bif eqL n then
 some (.inl ((), ((n, o, (true, (s, t, ()), dflt .unit), ()), (m, u, (0 : Int), (0 : Int), (0 : Int), [], [], [], (0 : Int), (0 : Int), (0 : Int), (0 : Int), (0 : Int), (0 : Int), [], [], [], ()), ())))
 else none)
 fun ⟨_, ⟨⟨m3, n3, ⟨o3, ⟨q3, s3, _⟩, _⟩, _⟩, ⟨t3, u3, w3, x3, y3, z3, a4, c4, f4, h4, i4, j4, k4, l4, m4, n4, o4, _⟩, _⟩⟩ =>
 bif o3 then
 bif eqL m3 then
 Option.bind (p19_2 fu ((m3, n3, (true, (q3, s3, ()), dflt .unit), ()), ())) fun ⟨⟨⟨_, _, ⟨q4, ⟨_, _, _⟩, _⟩, _⟩, _, _⟩, s4⟩ =>
 bif q4 then
 bif (s4 != (0 : Int)) then
 some ((), (((0 : Int), (0 : Int), (0 : Int), (0 : Int), (0 : Int), [], [], [], (0 : Int), (0 : Int), (0 : Int), (0 : Int), (0 : Int), (0 : Int), [], [], [], ()), s4, ()))
 else
 some ((), ((t3, u3, w3, x3, y3, z3, a4, c4, f4, h4, i4, j4, k4, l4, m4, n4, o4, ()), (0 : Int), ()))
 else
 bif (s4 != (0 : Int)) then
 some ((), (((0 : Int), (0 : Int), (0 : Int), (0 : Int), (0 : Int), [], [], [], (0 : Int), (0 : Int), (0 : Int), (0 : Int), (0 : Int), (0 : Int), [], [], [], ()), s4, ()))
 else
 some ((), ((t3, u3, w3, x3, y3, z3, a4, c4, f4, h4, i4, j4, k4, l4, m4, n4, o4, ()), (0 : Int), ()))
 else none
 else
 bif eqL m3 then
 Option.bind (p19_2 fu ((m3, n3, zR0, ()), ())) fun ⟨⟨⟨_, _, ⟨t4, ⟨_, _, _⟩, _⟩, _⟩, _, _⟩, u4⟩ =>
 bif t4 then
 bif (u4 != (0 : Int)) then
 some ((), (((0 : Int), (0 : Int), (0 : Int), (0 : Int), (0 : Int), [], [], [], (0 : Int), (0 : Int), (0 : Int), (0 : Int), (0 : Int), (0 : Int), [], [], [], ()), u4, ()))
 else
 some ((), ((t3, u3, w3, x3, y3, z3, a4, c4, f4, h4, i4, j4, k4, l4, m4, n4, o4, ()), (0 : Int), ()))
 else
 bif (u4 != (0 : Int)) then
 some ((), (((0 : Int), (0 : Int), (0 : Int), (0 : Int), (0 : Int), [], [], [], (0 : Int), (0 : Int), (0 : Int), (0 : Int), (0 : Int), (0 : Int), [], [], [], ()), u4, ()))
 else
 some ((), ((t3, u3, w3, x3, y3, z3, a4, c4, f4, h4, i4, j4, k4, l4, m4, n4, o4, ()), (0 : Int), ()))
 else none
 else
 orK (E := (Unit) × (((List (Int)) × ((Int) × (((Bool) × (((Int) × ((Int) × (Unit))) × (Unit))) × (Unit)))) × ((Z0) × (Unit))))
 (bif (m == (1 : Int)) then
 bif eqL n then
 Option.bind (p47_2 fu ((n, o, zR0, ()), ())) fun ⟨⟨⟨w4, x4, ⟨y4, ⟨z4, a5, _⟩, _⟩, _⟩, _, _⟩, ⟨c5, f5, h5, i5, j5, k5, _⟩⟩ =>
 bif y4 then
 bif eqL w4 then
 some (.inl ((), ((w4, x4, (true, (z4, a5, ()), dflt .unit), ()), (m, u, c5, f5, h5, i5, j5, k5, (0 : Int), (0 : Int), (0 : Int), (0 : Int), (0 : Int), (0 : Int), [], [], [], ()), ())))
 else none
 else
 bif eqL w4 then
 some (.inl ((), ((w4, x4, zR0, ()), (m, u, c5, f5, h5, i5, j5, k5, (0 : Int), (0 : Int), (0 : Int), (0 : Int), (0 : Int), (0 : Int), [], [], [], ()), ())))
 else none
 else none
 else
 bif (m == (2 : Int)) then
 bif eqL n then
 Option.bind (p15_2 fu ((n, o, zR0, ()), ())) fun ⟨⟨⟨l5, m5, ⟨n5, ⟨o5, q5, _⟩, _⟩, _⟩, _, _⟩, s5⟩ =>
 bif n5 then
 bif eqL l5 then
 Option.bind (p48_2 fu ((l5, m5, (true, (o5, q5, ()), dflt .unit), ()), ())) fun ⟨⟨⟨t5, u5, ⟨w5, ⟨x5, y5, _⟩, _⟩, _⟩, _, _⟩, z5⟩ =>
 bif w5 then
 bif eqL t5 then
 Option.bind (p15_2 fu ((t5, u5, (true, (x5, y5, ()), dflt .unit), ()), ())) fun ⟨⟨⟨a6, c6, ⟨f6, ⟨h6, i6, _⟩, _⟩, _⟩, _, _⟩, j6⟩ =>
 bif f6 then
 bif eqL a6 then
 some (.inl ((), ((a6, c6, (true, (h6, i6, ()), dflt .unit), ()), (m, u, (0 : Int), (0 : Int), (0 : Int), [], [], [], s5, z5, j6, (0 : Int), (0 : Int), (0 : Int), [], [], [], ()), ())))
 else none
 else
 bif eqL a6 then
 some (.inl ((), ((a6, c6, zR0, ()), (m, u, (0 : Int), (0 : Int), (0 : Int), [], [], [], s5, z5, j6, (0 : Int), (0 : Int), (0 : Int), [], [], [], ()), ())))
 else none
 else none
 else
 bif eqL t5 then
 Option.bind (p15_2 fu ((t5, u5, zR0, ()), ())) fun ⟨⟨⟨k6, l6, ⟨m6, ⟨n6, o6, _⟩, _⟩, _⟩, _, _⟩, q6⟩ =>
 bif m6 then
 bif eqL k6 then
 some (.inl ((), ((k6, l6, (true, (n6, o6, ()), dflt .unit), ()), (m, u, (0 : Int), (0 : Int), (0 : Int), [], [], [], s5, z5, q6, (0 : Int), (0 : Int), (0 : Int), [], [], [], ()), ())))
 else none
 else
 bif eqL k6 then
 some (.inl ((), ((k6, l6, zR0, ()), (m, u, (0 : Int), (0 : Int), (0 : Int), [], [], [], s5, z5, q6, (0 : Int), (0 : Int), (0 : Int), [], [], [], ()), ())))
 else none
 else none
 else none
 else
 bif eqL l5 then
 Option.bind (p48_2 fu ((l5, m5, zR0, ()), ())) fun ⟨⟨⟨s6, t6, ⟨u6, ⟨w6, x6, _⟩, _⟩, _⟩, _, _⟩, y6⟩ =>
 bif u6 then
 bif eqL s6 then
 Option.bind (p15_2 fu ((s6, t6, (true, (w6, x6, ()), dflt .unit), ()), ())) fun ⟨⟨⟨z6, a7, ⟨c7, ⟨f7, h7, _⟩, _⟩, _⟩, _, _⟩, i7⟩ =>
 bif c7 then
 bif eqL z6 then
 some (.inl ((), ((z6, a7, (true, (f7, h7, ()), dflt .unit), ()), (m, u, (0 : Int), (0 : Int), (0 : Int), [], [], [], s5, y6, i7, (0 : Int), (0 : Int), (0 : Int), [], [], [], ()), ())))
 else none
 else
 bif eqL z6 then
 some (.inl ((), ((z6, a7, zR0, ()), (m, u, (0 : Int), (0 : Int), (0 : Int), [], [], [], s5, y6, i7, (0 : Int), (0 : Int), (0 : Int), [], [], [], ()), ())))
 else none
 else none
 else
 bif eqL s6 then
 Option.bind (p15_2 fu ((s6, t6, zR0, ()), ())) fun ⟨⟨⟨j7, k7, ⟨l7, ⟨m7, n7, _⟩, _⟩, _⟩, _, _⟩, o7⟩ =>
 bif l7 then
 bif eqL j7 then
 some (.inl ((), ((j7, k7, (true, (m7, n7, ()), dflt .unit), ()), (m, u, (0 : Int), (0 : Int), (0 : Int), [], [], [], s5, y6, o7, (0 : Int), (0 : Int), (0 : Int), [], [], [], ()), ())))
 else none
 else
 bif eqL j7 then
 some (.inl ((), ((j7, k7, zR0, ()), (m, u, (0 : Int), (0 : Int), (0 : Int), [], [], [], s5, y6, o7, (0 : Int), (0 : Int), (0 : Int), [], [], [], ()), ())))
 else none
 else none
 else none
 else none
 else
 bif (m == (3 : Int)) then
 bif eqL n then
 Option.bind (p15_2 fu ((n, o, zR0, ()), ())) fun ⟨⟨⟨q7, s7, ⟨t7, ⟨u7, w7, _⟩, _⟩, _⟩, _, _⟩, x7⟩ =>
 bif t7 then
 bif eqL q7 then
 some (.inl ((), ((q7, s7, (true, (u7, w7, ()), dflt .unit), ()), (m, u, (0 : Int), (0 : Int), (0 : Int), [], [], [], (0 : Int), (0 : Int), (0 : Int), x7, (0 : Int), (0 : Int), [], [], [], ()), ())))
 else none
 else
 bif eqL q7 then
 some (.inl ((), ((q7, s7, zR0, ()), (m, u, (0 : Int), (0 : Int), (0 : Int), [], [], [], (0 : Int), (0 : Int), (0 : Int), x7, (0 : Int), (0 : Int), [], [], [], ()), ())))
 else none
 else none
 else
 bif (m == (4 : Int)) then
 bif eqL n then
 Option.bind (p49_2 fu ((n, o, zR0, ()), ())) fun ⟨⟨⟨y7, z7, ⟨a8, ⟨c8, f8, _⟩, _⟩, _⟩, _, _⟩, ⟨h8, i8, j8, k8, l8, _⟩⟩ =>
 bif a8 then
 bif eqL y7 then
 some (.inl ((), ((y7, z7, (true, (c8, f8, ()), dflt .unit), ()), (m, u, (0 : Int), (0 : Int), (0 : Int), [], [], [], (0 : Int), (0 : Int), (0 : Int), (0 : Int), h8, i8, j8, k8, l8, ()), ())))
 else none
 else
 bif eqL y7 then
 some (.inl ((), ((y7, z7, zR0, ()), (m, u, (0 : Int), (0 : Int), (0 : Int), [], [], [], (0 : Int), (0 : Int), (0 : Int), (0 : Int), h8, i8, j8, k8, l8, ()), ())))
 else none
 else none
 else
 bif eqL n then
 some (.inl ((), ((n, o, zR0, ()), (m, u, (0 : Int), (0 : Int), (0 : Int), [], [], [], (0 : Int), (0 : Int), (0 : Int), (0 : Int), (0 : Int), (0 : Int), [], [], [], ()), ())))
 else none)
 fun ⟨_, ⟨⟨m3, n3, ⟨o3, ⟨q3, s3, _⟩, _⟩, _⟩, ⟨t3, u3, w3, x3, y3, z3, a4, c4, f4, h4, i4, j4, k4, l4, m4, n4, o4, _⟩, _⟩⟩ =>
 bif o3 then
 bif eqL m3 then
 Option.bind (p19_2 fu ((m3, n3, (true, (q3, s3, ()), dflt .unit), ()), ())) fun ⟨⟨⟨_, _, ⟨m8, ⟨_, _, _⟩, _⟩, _⟩, _, _⟩, n8⟩ =>
 bif m8 then
 bif (n8 != (0 : Int)) then
 some ((), (((0 : Int), (0 : Int), (0 : Int), (0 : Int), (0 : Int), [], [], [], (0 : Int), (0 : Int), (0 : Int), (0 : Int), (0 : Int), (0 : Int), [], [], [], ()), n8, ()))
 else
 some ((), ((t3, u3, w3, x3, y3, z3, a4, c4, f4, h4, i4, j4, k4, l4, m4, n4, o4, ()), (0 : Int), ()))
 else
 bif (n8 != (0 : Int)) then
 some ((), (((0 : Int), (0 : Int), (0 : Int), (0 : Int), (0 : Int), [], [], [], (0 : Int), (0 : Int), (0 : Int), (0 : Int), (0 : Int), (0 : Int), [], [], [], ()), n8, ()))
 else
 some ((), ((t3, u3, w3, x3, y3, z3, a4, c4, f4, h4, i4, j4, k4, l4, m4, n4, o4, ()), (0 : Int), ()))
 else none
 else
 bif eqL m3 then
 Option.bind (p19_2 fu ((m3, n3, zR0, ()), ())) fun ⟨⟨⟨_, _, ⟨o8, ⟨_, _, _⟩, _⟩, _⟩, _, _⟩, q8⟩ =>
 bif o8 then
 bif (q8 != (0 : Int)) then
 some ((), (((0 : Int), (0 : Int), (0 : Int), (0 : Int), (0 : Int), [], [], [], (0 : Int), (0 : Int), (0 : Int), (0 : Int), (0 : Int), (0 : Int), [], [], [], ()), q8, ()))
 else
 some ((), ((t3, u3, w3, x3, y3, z3, a4, c4, f4, h4, i4, j4, k4, l4, m4, n4, o4, ()), (0 : Int), ()))
 else
 bif (q8 != (0 : Int)) then
 some ((), (((0 : Int), (0 : Int), (0 : Int), (0 : Int), (0 : Int), [], [], [], (0 : Int), (0 : Int), (0 : Int), (0 : Int), (0 : Int), (0 : Int), [], [], [], ()), q8, ()))
 else
 some ((), ((t3, u3, w3, x3, y3, z3, a4, c4, f4, h4, i4, j4, k4, l4, m4, n4, o4, ()), (0 : Int), ()))
 else none
 else none
 else
 bif eqL h then
 Option.bind (p15_2 fu ((h, i, zR0, ()), ())) fun ⟨⟨⟨s8, t8, ⟨u8, ⟨w8, x8, _⟩, _⟩, _⟩, _, _⟩, y8⟩ =>
 bif u8 then
 orK (E := (Unit) × (((List (Int)) × ((Int) × (((Bool) × (((Int) × ((Int) × (Unit))) × (Unit))) × (Unit)))) × ((Z0) × (Unit))))
 (bif (m == (1 : Int)) then
 bif eqL s8 then
 Option.bind (p47_2 fu ((s8, t8, (true, (w8, x8, ()), dflt .unit), ()), ())) fun ⟨⟨⟨z8, a9, ⟨c9, ⟨f9, h9, _⟩, _⟩, _⟩, _, _⟩, ⟨i9, j9, k9, l9, m9, n9, _⟩⟩ =>
 bif c9 then
 bif eqL z8 then
 some (.inl ((), ((z8, a9, (true, (f9, h9, ()), dflt .unit), ()), (m, y8, i9, j9, k9, l9, m9, n9, (0 : Int), (0 : Int), (0 : Int), (0 : Int), (0 : Int), (0 : Int), [], [], [], ()), ())))
 else none
 else
 bif eqL z8 then
 some (.inl ((), ((z8, a9, zR0, ()), (m, y8, i9, j9, k9, l9, m9, n9, (0 : Int), (0 : Int), (0 : Int), (0 : Int), (0 : Int), (0 : Int), [], [], [], ()), ())))
 else none
 else none
 else
 bif (m == (2 : Int)) then
 bif eqL s8 then
 Option.bind (p15_2 fu ((s8, t8, (true, (w8, x8, ()), dflt .unit), ()), ())) fun ⟨⟨⟨o9, q9, ⟨s9, ⟨t9, u9, _⟩, _⟩, _⟩, _, _⟩, w9⟩ =>
 bif s9 then
 bif eqL o9 then
 Option.bind (p48_2 fu ((o9, q9, (true, (t9, u9, ()), dflt .unit), ()), ())) fun ⟨⟨⟨x9, y9, ⟨z9, ⟨a10, c10, _⟩, _⟩, _⟩, _, _⟩, f10⟩ =>
 bif z9 then
 bif eqL x9 then
 Option.bind (p15_2 fu ((x9, y9, (true, (a10, c10, ()), dflt .unit), ()), ())) fun ⟨⟨⟨h10, i10, ⟨j10, ⟨k10, l10, _⟩, _⟩, _⟩, _, _⟩, m10⟩ =>
 bif j10 then
 bif eqL h10 then
 some (.inl ((), ((h10, i10, (true, (k10, l10, ()), dflt .unit), ()), (m, y8, (0 : Int), (0 : Int), (0 : Int), [], [], [], w9, f10, m10, (0 : Int), (0 : Int), (0 : Int), [], [], [], ()), ())))
 else none
 else
 bif eqL h10 then
 some (.inl ((), ((h10, i10, zR0, ()), (m, y8, (0 : Int), (0 : Int), (0 : Int), [], [], [], w9, f10, m10, (0 : Int), (0 : Int), (0 : Int), [], [], [], ()), ())))
 else none
 else none
 else
 bif eqL x9 then
 Option.bind (p15_2 fu ((x9, y9, zR0, ()), ())) fun ⟨⟨⟨n10, o10, ⟨q10, ⟨s10, t10, _⟩, _⟩, _⟩, _, _⟩, u10⟩ =>
 bif q10 then
 bif eqL n10 then
 some (.inl ((), ((n10, o10, (true, (s10, t10, ()), dflt .unit), ()), (m, y8, (0 : Int), (0 : Int), (0 : Int), [], [], [], w9, f10, u10, (0 : Int), (0 : Int), (0 : Int), [], [], [], ()), ())))
 else none
 else
 bif eqL n10 then
 some (.inl ((), ((n10, o10, zR0, ()), (m, y8, (0 : Int), (0 : Int), (0 : Int), [], [], [], w9, f10, u10, (0 : Int), (0 : Int), (0 : Int), [], [], [], ()), ())))
 else none
 else none
 else none
 else
 bif eqL o9 then
 Option.bind (p48_2 fu ((o9, q9, zR0, ()), ())) fun ⟨⟨⟨w10, x10, ⟨y10, ⟨z10, a11, _⟩, _⟩, _⟩, _, _⟩, c11⟩ =>
 bif y10 then
 bif eqL w10 then
 Option.bind (p15_2 fu ((w10, x10, (true, (z10, a11, ()), dflt .unit), ()), ())) fun ⟨⟨⟨f11, h11, ⟨i11, ⟨j11, k11, _⟩, _⟩, _⟩, _, _⟩, l11⟩ =>
 bif i11 then
 bif eqL f11 then
 some (.inl ((), ((f11, h11, (true, (j11, k11, ()), dflt .unit), ()), (m, y8, (0 : Int), (0 : Int), (0 : Int), [], [], [], w9, c11, l11, (0 : Int), (0 : Int), (0 : Int), [], [], [], ()), ())))
 else none
 else
 bif eqL f11 then
 some (.inl ((), ((f11, h11, zR0, ()), (m, y8, (0 : Int), (0 : Int), (0 : Int), [], [], [], w9, c11, l11, (0 : Int), (0 : Int), (0 : Int), [], [], [], ()), ())))
 else none
 else none
 else
 bif eqL w10 then
 Option.bind (p15_2 fu ((w10, x10, zR0, ()), ())) fun ⟨⟨⟨m11, n11, ⟨o11, ⟨q11, s11, _⟩, _⟩, _⟩, _, _⟩, t11⟩ =>
 bif o11 then
 bif eqL m11 then
 some (.inl ((), ((m11, n11, (true, (q11, s11, ()), dflt .unit), ()), (m, y8, (0 : Int), (0 : Int), (0 : Int), [], [], [], w9, c11, t11, (0 : Int), (0 : Int), (0 : Int), [], [], [], ()), ())))
 else none
 else
 bif eqL m11 then
 some (.inl ((), ((m11, n11, zR0, ()), (m, y8, (0 : Int), (0 : Int), (0 : Int), [], [], [], w9, c11, t11, (0 : Int), (0 : Int), (0 : Int), [], [], [], ()), ())))
 else none
 else none
 else none
 else none
 else
 bif (m == (3 : Int)) then
 bif eqL s8 then
 Option.bind (p15_2 fu ((s8, t8, (true, (w8, x8, ()), dflt .unit), ()), ())) fun ⟨⟨⟨u11, w11, ⟨x11, ⟨y11, z11, _⟩, _⟩, _⟩, _, _⟩, a12⟩ =>
 bif x11 then
 bif eqL u11 then
 some (.inl ((), ((u11, w11, (true, (y11, z11, ()), dflt .unit), ()), (m, y8, (0 : Int), (0 : Int), (0 : Int), [], [], [], (0 : Int), (0 : Int), (0 : Int), a12, (0 : Int), (0 : Int), [], [], [], ()), ())))
 else none
 else
 bif eqL u11 then
 some (.inl ((), ((u11, w11, zR0, ()), (m, y8, (0 : Int), (0 : Int), (0 : Int), [], [], [], (0 : Int), (0 : Int), (0 : Int), a12, (0 : Int), (0 : Int), [], [], [], ()), ())))
 else none
 else none
 else
 bif (m == (4 : Int)) then
 bif eqL s8 then
 Option.bind (p49_2 fu ((s8, t8, (true, (w8, x8, ()), dflt .unit), ()), ())) fun ⟨⟨⟨c12, f12, ⟨h12, ⟨i12, j12, _⟩, _⟩, _⟩, _, _⟩, ⟨k12, l12, m12, n12, o12, _⟩⟩ =>
 bif h12 then
 bif eqL c12 then
 some (.inl ((), ((c12, f12, (true, (i12, j12, ()), dflt .unit), ()), (m, y8, (0 : Int), (0 : Int), (0 : Int), [], [], [], (0 : Int), (0 : Int), (0 : Int), (0 : Int), k12, l12, m12, n12, o12, ()), ())))
 else none
 else
 bif eqL c12 then
 some (.inl ((), ((c12, f12, zR0, ()), (m, y8, (0 : Int), (0 : Int), (0 : Int), [], [], [], (0 : Int), (0 : Int), (0 : Int), (0 : Int), k12, l12, m12, n12, o12, ()), ())))
 else none
 else none
 else
 bif eqL s8 then
 some (.inl ((), ((s8, t8, (true, (w8, x8, ()), dflt .unit), ()), (m, y8, (0 : Int), (0 : Int), (0 : Int), [], [], [], (0 : Int), (0 : Int), (0 : Int), (0 : Int), (0 : Int), (0 : Int), [], [], [], ()), ())))
 else none)
 fun ⟨_, ⟨⟨m3, n3, ⟨o3, ⟨q3, s3, _⟩, _⟩, _⟩, ⟨t3, u3, w3, x3, y3, z3, a4, c4, f4, h4, i4, j4, k4, l4, m4, n4, o4, _⟩, _⟩⟩ =>
 bif o3 then
 bif eqL m3 then
 Option.bind (p19_2 fu ((m3, n3, (true, (q3, s3, ()), dflt .unit), ()), ())) fun ⟨⟨⟨_, _, ⟨q12, ⟨_, _, _⟩, _⟩, _⟩, _, _⟩, s12⟩ =>
 bif q12 then
 bif (s12 != (0 : Int)) then
 some ((), (((0 : Int), (0 : Int), (0 : Int), (0 : Int), (0 : Int), [], [], [], (0 : Int), (0 : Int), (0 : Int), (0 : Int), (0 : Int), (0 : Int), [], [], [], ()), s12, ()))
 else
 some ((), ((t3, u3, w3, x3, y3, z3, a4, c4, f4, h4, i4, j4, k4, l4, m4, n4, o4, ()), (0 : Int), ()))
 else
 bif (s12 != (0 : Int)) then
 some ((), (((0 : Int), (0 : Int), (0 : Int), (0 : Int), (0 : Int), [], [], [], (0 : Int), (0 : Int), (0 : Int), (0 : Int), (0 : Int), (0 : Int), [], [], [], ()), s12, ()))
 else
 some ((), ((t3, u3, w3, x3, y3, z3, a4, c4, f4, h4, i4, j4, k4, l4, m4, n4, o4, ()), (0 : Int), ()))
 else none
 else
 bif eqL m3 then
 Option.bind (p19_2 fu ((m3, n3, zR0, ()), ())) fun ⟨⟨⟨_, _, ⟨t12, ⟨_, _, _⟩, _⟩, _⟩, _, _⟩, u12⟩ =>
 bif t12 then
 bif (u12 != (0 : Int)) then
 some ((), (((0 : Int), (0 : Int), (0 : Int), (0 : Int), (0 : Int), [], [], [], (0 : Int), (0 : Int), (0 : Int), (0 : Int), (0 : Int), (0 : Int), [], [], [], ()), u12, ()))
 else
 some ((), ((t3, u3, w3, x3, y3, z3, a4, c4, f4, h4, i4, j4, k4, l4, m4, n4, o4, ()), (0 : Int), ()))
 else
 bif (u12 != (0 : Int)) then
 some ((), (((0 : Int), (0 : Int), (0 : Int), (0 : Int), (0 : Int), [], [], [], (0 : Int), (0 : Int), (0 : Int), (0 : Int), (0 : Int), (0 : Int), [], [], [], ()), u12, ()))
 else
 some ((), ((t3, u3, w3, x3, y3, z3, a4, c4, f4, h4, i4, j4, k4, l4, m4, n4, o4, ()), (0 : Int), ()))
 else none
 else
 orK (E := (Unit) × (((List (Int)) × ((Int) × (((Bool) × (((Int) × ((Int) × (Unit))) × (Unit))) × (Unit)))) × ((Z0) × (Unit))))
 (bif (m == (1 : Int)) then
 bif eqL s8 then
 Option.bind (p47_2 fu ((s8, t8, zR0, ()), ())) fun ⟨⟨⟨w12, x12, ⟨y12, ⟨z12, a13, _⟩, _⟩, _⟩, _, _⟩, ⟨c13, f13, h13, i13, j13, k13, _⟩⟩ =>
 bif y12 then
 bif eqL w12 then
 some (.inl ((), ((w12, x12, (true, (z12, a13, ()), dflt .unit), ()), (m, y8, c13, f13, h13, i13, j13, k13, (0 : Int), (0 : Int), (0 : Int), (0 : Int), (0 : Int), (0 : Int), [], [], [], ()), ())))
 else none
 else
 bif eqL w12 then
 some (.inl ((), ((w12, x12, zR0, ()), (m, y8, c13, f13, h13, i13, j13, k13, (0 : Int), (0 : Int), (0 : Int), (0 : Int), (0 : Int), (0 : Int), [], [], [], ()), ())))
 else none
 else none
 else
 bif (m == (2 : Int)) then
 bif eqL s8 then
 Option.bind (p15_2 fu ((s8, t8, zR0, ()), ())) fun ⟨⟨⟨l13, m13, ⟨n13, ⟨o13, q13, _⟩, _⟩, _⟩, _, _⟩, s13⟩ =>
 bif n13 then
 bif eqL l13 then
 Option.bind (p48_2 fu ((l13, m13, (true, (o13, q13, ()), dflt .unit), ()), ())) fun ⟨⟨⟨t13, u13, ⟨w13, ⟨x13, y13, _⟩, _⟩, _⟩, _, _⟩, z13⟩ =>
 bif w13 then
 bif eqL t13 then
 Option.bind (p15_2 fu ((t13, u13, (true, (x13, y13, ()), dflt .unit), ()), ())) fun ⟨⟨⟨a14, c14, ⟨f14, ⟨h14, i14, _⟩, _⟩, _⟩, _, _⟩, j14⟩ =>
 bif f14 then
 bif eqL a14 then
 some (.inl ((), ((a14, c14, (true, (h14, i14, ()), dflt .unit), ()), (m, y8, (0 : Int), (0 : Int), (0 : Int), [], [], [], s13, z13, j14, (0 : Int), (0 : Int), (0 : Int), [], [], [], ()), ())))
 else none
 else
 bif eqL a14 then
 some (.inl ((), ((a14, c14, zR0, ()), (m, y8, (0 : Int), (0 : Int), (0 : Int), [], [], [], s13, z13, j14, (0 : Int), (0 : Int), (0 : Int), [], [], [], ()), ())))
 else none
 else none
 else
 bif eqL t13 then
 Option.bind (p15_2 fu ((t13, u13, zR0, ()), ())) fun ⟨⟨⟨k14, l14, ⟨m14, ⟨n14, o14, _⟩, _⟩, _⟩, _, _⟩, q14⟩ =>
 bif m14 then
 bif eqL k14 then
 some (.inl ((), ((k14, l14, (true, (n14, o14, ()), dflt .unit), ()), (m, y8, (0 : Int), (0 : Int), (0 : Int), [], [], [], s13, z13, q14, (0 : Int), (0 : Int), (0 : Int), [], [], [], ()), ())))
 else none
 else
 bif eqL k14 then
 some (.inl ((), ((k14, l14, zR0, ()), (m, y8, (0 : Int), (0 : Int), (0 : Int), [], [], [], s13, z13, q14, (0 : Int), (0 : Int), (0 : Int), [], [], [], ()), ())))
 else none
 else none
 else none
 else
 bif eqL l13 then
 Option.bind (p48_2 fu ((l13, m13, zR0, ()), ())) fun ⟨⟨⟨s14, t14, ⟨u14, ⟨w14, x14, _⟩, _⟩, _⟩, _, _⟩, y14⟩ =>
 bif u14 then
 bif eqL s14 then
 Option.bind (p15_2 fu ((s14, t14, (true, (w14, x14, ()), dflt .unit), ()), ())) fun ⟨⟨⟨z14, a15, ⟨c15, ⟨f15, h15, _⟩, _⟩, _⟩, _, _⟩, i15⟩ =>
 bif c15 then
 bif eqL z14 then
 some (.inl ((), ((z14, a15, (true, (f15, h15, ()), dflt .unit), ()), (m, y8, (0 : Int), (0 : Int), (0 : Int), [], [], [], s13, y14, i15, (0 : Int), (0 : Int), (0 : Int), [], [], [], ()), ())))
 else none
 else
 bif eqL z14 then
 some (.inl ((), ((z14, a15, zR0, ()), (m, y8, (0 : Int), (0 : Int), (0 : Int), [], [], [], s13, y14, i15, (0 : Int), (0 : Int), (0 : Int), [], [], [], ()), ())))
 else none
 else none
 else
 bif eqL s14 then
 Option.bind (p15_2 fu ((s14, t14, zR0, ()), ())) fun ⟨⟨⟨j15, k15, ⟨l15, ⟨m15, n15, _⟩, _⟩, _⟩, _, _⟩, o15⟩ =>
 bif l15 then
 bif eqL j15 then
 some (.inl ((), ((j15, k15, (true, (m15, n15, ()), dflt .unit), ()), (m, y8, (0 : Int), (0 : Int), (0 : Int), [], [], [], s13, y14, o15, (0 : Int), (0 : Int), (0 : Int), [], [], [], ()), ())))
 else none
 else
 bif eqL j15 then
 some (.inl ((), ((j15, k15, zR0, ()), (m, y8, (0 : Int), (0 : Int), (0 : Int), [], [], [], s13, y14, o15, (0 : Int), (0 : Int), (0 : Int), [], [], [], ()), ())))
 else none
 else none
 else none
 else none
 else
 bif (m == (3 : Int)) then
 bif eqL s8 then
 Option.bind (p15_2 fu ((s8, t8, zR0, ()), ())) fun ⟨⟨⟨q15, s15, ⟨t15, ⟨u15, w15, _⟩, _⟩, _⟩, _, _⟩, x15⟩ =>
 bif t15 then
 bif eqL q15 then
 some (.inl ((), ((q15, s15, (true, (u15, w15, ()), dflt .unit), ()), (m, y8, (0 : Int), (0 : Int), (0 : Int), [], [], [], (0 : Int), (0 : Int), (0 : Int), x15, (0 : Int), (0 : Int), [], [], [], ()), ())))
 else none
 else
 bif eqL q15 then
 some (.inl ((), ((q15, s15, zR0, ()), (m, y8, (0 : Int), (0 : Int), (0 : Int), [], [], [], (0 : Int), (0 : Int), (0 : Int), x15, (0 : Int), (0 : Int), [], [], [], ()), ())))
 else none
 else none
 else
 bif (m == (4 : Int)) then
 bif eqL s8 then
 Option.bind (p49_2 fu ((s8, t8, zR0, ()), ())) fun ⟨⟨⟨y15, z15, ⟨a16, ⟨c16, f16, _⟩, _⟩, _⟩, _, _⟩, ⟨h16, i16, j16, k16, l16, _⟩⟩ =>
 bif a16 then
 bif eqL y15 then
 some (.inl ((), ((y15, z15, (true, (c16, f16, ()), dflt .unit), ()), (m, y8, (0 : Int), (0 : Int), (0 : Int), [], [], [], (0 : Int), (0 : Int), (0 : Int), (0 : Int), h16, i16, j16, k16, l16, ()), ())))
 else none
 else
 bif eqL y15 then
 some (.inl ((), ((y15, z15, zR0, ()), (m, y8, (0 : Int), (0 : Int), (0 : Int), [], [], [], (0 : Int), (0 : Int), (0 : Int), (0 : Int), h16, i16, j16, k16, l16, ()), ())))
 else none
 else none
 else
 bif eqL s8 then
 some (.inl ((), ((s8, t8, zR0, ()), (m, y8, (0 : Int), (0 : Int), (0 : Int), [], [], [], (0 : Int), (0 : Int), (0 : Int), (0 : Int), (0 : Int), (0 : Int), [], [], [], ()), ())))
 else none)
 fun ⟨_, ⟨⟨m3, n3, ⟨o3, ⟨q3, s3, _⟩, _⟩, _⟩, ⟨t3, u3, w3, x3, y3, z3, a4, c4, f4, h4, i4, j4, k4, l4, m4, n4, o4, _⟩, _⟩⟩ =>
 bif o3 then
 bif eqL m3 then
 Option.bind (p19_2 fu ((m3, n3, (true, (q3, s3, ()), dflt .unit), ()), ())) fun ⟨⟨⟨_, _, ⟨m16, ⟨_, _, _⟩, _⟩, _⟩, _, _⟩, n16⟩ =>
 bif m16 then
 bif (n16 != (0 : Int)) then
 some ((), (((0 : Int), (0 : Int), (0 : Int), (0 : Int), (0 : Int), [], [], [], (0 : Int), (0 : Int), (0 : Int), (0 : Int), (0 : Int), (0 : Int), [], [], [], ()), n16, ()))
 else
 some ((), ((t3, u3, w3, x3, y3, z3, a4, c4, f4, h4, i4, j4, k4, l4, m4, n4, o4, ()), (0 : Int), ()))
 else
 bif (n16 != (0 : Int)) then
 some ((), (((0 : Int), (0 : Int), (0 : Int), (0 : Int), (0 : Int), [], [], [], (0 : Int), (0 : Int), (0 : Int), (0 : Int), (0 : Int), (0 : Int), [], [], [], ()), n16, ()))
 else
 some ((), ((t3, u3, w3, x3, y3, z3, a4, c4, f4, h4, i4, j4, k4, l4, m4, n4, o4, ()), (0 : Int), ()))
 else none
 else
 bif eqL m3 then
 Option.bind (p19_2 fu ((m3, n3, zR0, ()), ())) fun ⟨⟨⟨_, _, ⟨o16, ⟨_, _, _⟩, _⟩, _⟩, _, _⟩, q16⟩ =>
 bif o16 then
 bif (q16 != (0 : Int)) then
 some ((), (((0 : Int), (0 : Int), (0 : Int), (0 : Int), (0 : Int), [], [], [], (0 : Int), (0 : Int), (0 : Int), (0 : Int), (0 : Int), (0 : Int), [], [], [], ()), q16, ()))
 else
 some ((), ((t3, u3, w3, x3, y3, z3, a4, c4, f4, h4, i4, j4, k4, l4, m4, n4, o4, ()), (0 : Int), ()))
 else
 bif (q16 != (0 : Int)) then
 some ((), (((0 : Int), (0 : Int), (0 : Int), (0 : Int), (0 : Int), [], [], [], (0 : Int), (0 : Int), (0 : Int), (0 : Int), (0 : Int), (0 : Int), [], [], [], ()), q16, ()))
 else
 some ((), ((t3, u3, w3, x3, y3, z3, a4, c4, f4, h4, i4, j4, k4, l4, m4, n4, o4, ()), (0 : Int), ()))
 else none
 else none
else none
def e20 (fu : Nat) : Ent := ⟨20, (.cons (.hole (.sl (.int .u8))) .nil), .nil, (.tup 2 (.cons Y4 (.cons (.hole (.int .i64)) .nil))), p20 fu⟩
def d20 (fu : Nat) : DC := (.seq (.region [opD 2 (.alloc 39 17 [vI, vU, vU, vU, vI, vS, vS, vS, vU, vI, vU, vU, vU, vU, vS, vS, vS]), opD 3 (.mov (cD 0))] [[], []] false) (.seq (.region [mvD 7 0, oqD 8 (.call 14 [(tD 7)]) (.ent (e14 fu)), mvD 4 8] [[], [0], [1, 1, 0, 1]] false) (.seq (.region [mvD 9 4, oqD 10 (.call 46 [(tD 9)]) (.ent (e46 fu)), mvD 11 4, oqD 12 (.call 15 [(tD 11)]) (.ent (e15_2 fu)), opD 13 (.build 17 [vI, vU, vU, vU, vI, vS, vS, vS, vU, vI, vU, vU, vU, vU, vS, vS, vS] [(0, (1, (tD 10))), (1, (1, (tD 12)))]), opD 5 (.alloc 39 17 [vI, vU, vU, vU, vI, vS, vS, vS, vU, vI, vU, vU, vU, vU, vS, vS, vS]), onD (.store 17 (tD 5) (tD 13))] [[], [0], [], [2, 1], [1, 3], [], [5, 4, 3, 0, 1, 2, 3, 4, 5]] false) (.join ⟨[], .nil, [(48, 95, 3), (160, 39, 17)], (.cons Y5 (.cons Y4 .nil)), [2, 4, 5], [0]⟩
 (.seq (.region [opD 14 (.faddr 0 (tD 5)), opD 15 (.load false 1 (tD 14))] [[], [0]] false) (.block 0 (.seq (.region [opD 17 (.bin .eql (tD 15) (cD 1)), mvD 16 17] [[], [0]] false) (.cond (.tmp 16) (.region [mvD 18 4, oqD 19 (.call 47 [(tD 18)]) (.ent (e47_2 fu)), opD 20 (.faddr 2 (tD 5)), onD (.store 6 (tD 20) (tD 19))] [[], [0], [0, 1], [2, 1, 1, 0, 1]] false) (.seq (.region [opD 22 (.bin .eql (tD 15) (cD 2)), mvD 21 22] [[], [0]] false) (.cond (.tmp 21) (.region [mvD 23 4, oqD 24 (.call 15 [(tD 23)]) (.ent (e15_2 fu)), mvD 25 4, oqD 26 (.call 48 [(tD 25)]) (.ent (e48_2 fu)), mvD 27 4, oqD 28 (.call 15 [(tD 27)]) (.ent (e15_2 fu)), opD 29 (.build 3 [vU, vI, vU] [(0, (1, (tD 24))), (1, (1, (tD 26))), (2, (1, (tD 28)))]), opD 30 (.faddr 8 (tD 5)), onD (.store 3 (tD 30) (tD 29))] [[], [0], [], [2, 1], [], [4, 3], [1, 3, 5], [0, 1, 2, 3, 4, 5, 6], [7, 6, 5, 0, 1, 2, 3, 4, 5, 6]] false) (.seq (.region [opD 32 (.bin .eql (tD 15) (cD 3)), mvD 31 32] [[], [0]] false) (.cond (.tmp 31) (.region [mvD 33 4, oqD 34 (.call 15 [(tD 33)]) (.ent (e15_2 fu)), opD 35 (.faddr 11 (tD 5)), onD (.store 1 (tD 35) (tD 34))] [[], [0], [0, 1], [2, 1, 1, 0, 1]] false) (.seq (.region [opD 37 (.bin .eql (tD 15) (cD 4)), mvD 36 37] [[], [0]] false) (.cond (.tmp 36) (.region [mvD 38 4, oqD 39 (.call 49 [(tD 38)]) (.ent (e49_2 fu)), opD 40 (.faddr 12 (tD 5)), onD (.store 5 (tD 40) (tD 39))] [[], [0], [0, 1], [2, 1, 1, 0, 1]] false) .skip))))))))))
 (.seq (.seq (.region [mvD 41 4, oqD 42 (.call 19 [(tD 41)]) (.ent (e19_2 fu)), mvD 6 42] [[], [0], [1, 1, 0, 1]] false) (.seq (.region [mvD 43 6, opD 44 (.bin .neq (tD 43) (cD 0))] [[], [0]] false) (.cond (.tmp 44) (.seq (.region [opD 45 (.build 17 [vI, vU, vU, vU, vI, vS, vS, vS, vU, vI, vU, vU, vU, vU, vS, vS, vS] []), mvD 46 6, onD (.store 17 (tD 2) (tD 45)), mvD 3 46] [[], [], [0, 0], [1, 2, 0, 1, 2]] false) .ret) .skip))) (.seq (.region [opD 47 (.load true 17 (tD 5)), onD (.store 17 (tD 2) (tD 47)), opD 3 (.mov (cD 0))] [[], [0, 0], [1, 0, 1]] false) .ret))))))
set_option maxRecDepth 1000000 in
theorem v20 (fu : Nat) : evF fu (d20 fu) rs20 48 (e20 fu).ash (e20 fu).osh (e20 fu).vsh = p20 fu := by kernel_rfl
set_option maxRecDepth 1000000 in
theorem b20 (fu : Nat) : BodyD Tryd.prog 20 48 (d20 fu).erase rs20 := bodyD_mk Tryd.func20 (by kernel_rfl) (by kernel_rfl) (by kernel_rfl) (by kernel_rfl)
theorem g20 (fu : Nat) : (e20 fu).Good Tryd.prog := good_by orders (b20 fu) (l := [e14 fu, e46 fu, e15_2 fu, e47_2 fu, e15_2 fu, e48_2 fu, e15_2 fu, e15_2 fu, e49_2 fu, e19_2 fu]) (by kernel_rfl) ⟨g14 fu, g46 fu, g15_2 fu, g47_2 fu, g15_2 fu, g48_2 fu, g15_2 fu, g15_2 fu, g49_2 fu, g19_2 fu, trivial⟩ (by kernel_rfl) (v20 fu)
def rs33 : List RVx := [(.cell 2 true 17)]
/-- gazette/gazetteref01.Plain -/
def p33 (_ : Nat) : (Z0) × (Unit) → Option ((Unit) × ((Int) × ((Int) × ((Int) × ((Int) × ((Int) × ((List (Int)) × ((List (Int)) × ((List (Int)) × ((Int) × ((Int) × ((Int) × ((Int) × ((Int) × ((Int) × ((List (Int)) × ((List (Int)) × ((List (Int)) × (Unit))))))))))))))))))) := fun ⟨⟨a, c, f, h, i, j, k, l, m, n, o, q, s, t, u, w, x, _⟩, _⟩ =>
bif (a == (1 : Int)) then
 some ((), (a, c, f, h, i, j, k, l, (0 : Int), (0 : Int), (0 : Int), (0 : Int), (0 : Int), (0 : Int), [], [], [], ()))
else
 bif (a == (2 : Int)) then
 some ((), (a, c, (0 : Int), (0 : Int), (0 : Int), [], [], [], m, n, o, (0 : Int), (0 : Int), (0 : Int), [], [], [], ()))
 else
 bif (a == (3 : Int)) then
 some ((), (a, c, (0 : Int), (0 : Int), (0 : Int), [], [], [], (0 : Int), (0 : Int), (0 : Int), q, (0 : Int), (0 : Int), [], [], [], ()))
 else
 bif (a == (4 : Int)) then
 some ((), (a, c, (0 : Int), (0 : Int), (0 : Int), [], [], [], (0 : Int), (0 : Int), (0 : Int), (0 : Int), s, t, u, w, x, ()))
 else
 some ((), (a, c, (0 : Int), (0 : Int), (0 : Int), [], [], [], (0 : Int), (0 : Int), (0 : Int), (0 : Int), (0 : Int), (0 : Int), [], [], [], ()))
def e33 (fu : Nat) : Ent := ⟨33, (.cons Y4 .nil), .nil, Y4, p33 fu⟩
def d33 (_ : Nat) : DC := (.seq (.region [opD 1 (.box 39 17 (tD 0)), opD 2 (.alloc 39 17 [vI, vU, vU, vU, vI, vS, vS, vS, vU, vI, vU, vU, vU, vU, vS, vS, vS])] [[], []] false) (.seq (.region [opD 4 (.faddr 0 (tD 1)), opD 5 (.load false 1 (tD 4)), opD 6 (.faddr 1 (tD 1)), opD 7 (.load false 1 (tD 6)), opD 8 (.build 17 [vI, vU, vU, vU, vI, vS, vS, vS, vU, vI, vU, vU, vU, vU, vS, vS, vS] [(0, (1, (tD 5))), (1, (1, (tD 7)))]), opD 3 (.alloc 39 17 [vI, vU, vU, vU, vI, vS, vS, vS, vU, vI, vU, vU, vU, vU, vS, vS, vS]), onD (.store 17 (tD 3) (tD 8))] [[], [0], [], [2], [1, 3], [], [5, 4, 0, 1, 2, 3, 4, 5]] false) (.seq (.seq (.region [opD 9 (.faddr 0 (tD 1)), opD 10 (.load false 1 (tD 9))] [[], [0]] false) (.block 0 (.seq (.region [opD 12 (.bin .eql (tD 10) (cD 1)), mvD 11 12] [[], [0]] false) (.cond (.tmp 11) (.region [opD 13 (.faddr 2 (tD 1)), opD 14 (.load true 6 (tD 13)), opD 15 (.faddr 2 (tD 3)), onD (.store 6 (tD 15) (tD 14))] [[], [0], [0, 1], [2, 1, 0, 1]] false) (.seq (.region [opD 17 (.bin .eql (tD 10) (cD 2)), mvD 16 17] [[], [0]] false) (.cond (.tmp 16) (.region [opD 18 (.faddr 8 (tD 1)), opD 19 (.load true 3 (tD 18)), opD 20 (.faddr 8 (tD 3)), onD (.store 3 (tD 20) (tD 19))] [[], [0], [0, 1], [2, 1, 0, 1]] false) (.seq (.region [opD 22 (.bin .eql (tD 10) (cD 3)), mvD 21 22] [[], [0]] false) (.cond (.tmp 21) (.region [opD 23 (.faddr 11 (tD 1)), opD 24 (.load false 1 (tD 23)), opD 25 (.faddr 11 (tD 3)), onD (.store 1 (tD 25) (tD 24))] [[], [0], [0, 1], [2, 1, 0, 1]] false) (.seq (.region [opD 27 (.bin .eql (tD 10) (cD 4)), mvD 26 27] [[], [0]] false) (.cond (.tmp 26) (.region [opD 28 (.faddr 12 (tD 1)), opD 29 (.load true 5 (tD 28)), opD 30 (.faddr 12 (tD 3)), onD (.store 5 (tD 30) (tD 29))] [[], [0], [0, 1], [2, 1, 0, 1]] false) .skip)))))))))) (.seq (.region [opD 31 (.load true 17 (tD 3)), onD (.store 17 (tD 2) (tD 31))] [[], [0, 0]] false) .ret))))
set_option maxRecDepth 1000000 in
theorem v33 (fu : Nat) : evF fu (d33 fu) rs33 32 (e33 fu).ash (e33 fu).osh (e33 fu).vsh = p33 fu := by kernel_rfl
set_option maxRecDepth 1000000 in
theorem b33 (fu : Nat) : BodyD Tryd.prog 33 32 (d33 fu).erase rs33 := bodyD_mk Tryd.func33 (by kernel_rfl) (by kernel_rfl) (by kernel_rfl) (by kernel_rfl)
theorem g33 (fu : Nat) : (e33 fu).Good Tryd.prog := good_by orders (b33 fu) (l := []) (by kernel_rfl) trivial (by kernel_rfl) (v33 fu)
def rs94 : List RVx := [(.tmp 4)]
/-- gazette/gazetteref01.sameInts -/
def p94 (fu : Nat) : (List (Int)) × ((List (Int)) × (Unit)) → Option ((Unit) × (Bool)) := fun ⟨a, c, _⟩ =>
bif ((List.length a : Int) != (List.length c : Int)) then
 some ((), false)
else
 loopO (S := ((Int) × (Unit)) × (Unit)) fu (fun ⟨⟨f, _⟩, _⟩ =>
 bif decide (f < (List.length a : Int)) then
 bif decide ((0 : Int) ≤ f ∧ f < (List.length a : Int)) then
 bif decide (Int.toNat f < List.length a) then
 bif decide ((0 : Int) ≤ f ∧ f < (List.length c : Int)) then
 bif decide (Int.toNat f < List.length c) then
 bif ((List.getD a (Int.toNat f) (dflt (.int .i64))) != (List.getD c (Int.toNat f) (dflt (.int .i64)))) then
 inrO (some ((), false))
 else
 some (.inl ((IntKind.wrap .i64 (f + (1 : Int)), ()), ()))
 else none
 else none
 else none
 else none
 else
 inrO (some ((), true)))
 (((0 : Int), ()), ())
def e94 (fu : Nat) : Ent := ⟨94, (.cons (.hole (.sl (.int .i64))) (.cons (.hole (.sl (.int .i64))) .nil)), .nil, (.hole .bool), p94 fu⟩
def d94 (_ : Nat) : DC := (.seq (.region [opD 4 (.mov (.const vB))] [[]] false) (.seq (.seq (.region [mvD 6 0, opD 7 (.len false (tD 6)), mvD 8 1, opD 9 (.len false (tD 8)), opD 10 (.bin .neq (tD 7) (tD 9))] [[], [0], [], [2], [1, 3]] false) (.cond (.tmp 10) (.seq (.region [opD 4 (.mov (.const vB))] [[]] false) .ret) .skip)) (.seq (.seq (.region [opD 5 (.mov (cD 0))] [[]] false) (.block 0 (.loop ⟨[5], (.cons (.hole (.int .i64)) .nil), [], .nil, [0, 1], []⟩
 (.seq (.seq (.region [mvD 11 5, mvD 12 0, opD 13 (.len false (tD 12)), opD 14 (.bin .lss (tD 11) (tD 13))] [[], [], [1], [0, 2]] false) (.cond (.tmp 14) .skip (.exit 0))) (.seq (.block 1 (.seq (.region [mvD 17 0, mvD 18 5, opD 19 (.iaddr 1 (tD 17) (tD 18)), opD 20 (.load false 1 (tD 19)), mvD 21 1, mvD 22 5, opD 23 (.iaddr 1 (tD 21) (tD 22)), opD 24 (.load false 1 (tD 23)), opD 25 (.bin .neq (tD 20) (tD 24))] [[], [], [0, 1], [2], [], [], [4, 5], [6], [3, 7]] true) (.cond (.tmp 25) (.seq (.region [opD 4 (.mov (.const vB))] [[]] false) .ret) .skip))) (.region [mvD 15 5, opD 16 (.bin .add (tD 15) (cD 1)), mvD 5 16] [[], [0], [1, 0, 1]] false)))))) (.seq (.region [opD 4 (.mov (.const (.bool true)))] [[]] false) .ret))))
set_option maxRecDepth 1000000 in
theorem v94 (fu : Nat) : evF fu (d94 fu) rs94 26 (e94 fu).ash (e94 fu).osh (e94 fu).vsh = p94 fu := by kernel_rfl
set_option maxRecDepth 1000000 in
theorem b94 (fu : Nat) : BodyD Tryd.prog 94 26 (d94 fu).erase rs94 := bodyD_mk Tryd.func94 (by kernel_rfl) (by kernel_rfl) (by kernel_rfl) (by kernel_rfl)
theorem g94 (fu : Nat) : (e94 fu).Good Tryd.prog := good_by orders (b94 fu) (l := []) (by kernel_rfl) trivial (by kernel_rfl) (v94 fu)
def rs70 : List RVx := [(.tmp 4)]
/-- gazette/gazetteref01.SameConf -/
def p70 (fu : Nat) : ((List (Int)) × ((List (Int)) × (Unit))) × (((List (Int)) × ((List (Int)) × (Unit))) × (Unit)) → Option ((Unit) × (Bool)) := fun ⟨⟨a, c, _⟩, ⟨f, h, _⟩, _⟩ =>
Option.bind (p94 fu (a, f, ())) fun ⟨_, i⟩ =>
bif i then
 Option.bind (p94 fu (c, h, ())) fun ⟨_, j⟩ =>
 some ((), j)
else
 some ((), false)
def e70 (fu : Nat) : Ent := ⟨70, (.cons (.agg 2 (.cons (.hole (.sl (.int .i64))) (.cons (.hole (.sl (.int .i64))) .nil))) (.cons (.agg 2 (.cons (.hole (.sl (.int .i64))) (.cons (.hole (.sl (.int .i64))) .nil))) .nil)), .nil, (.hole .bool), p70 fu⟩
def d70 (fu : Nat) : DC := (.seq (.region [opD 2 (.box 31 2 (tD 0)), opD 3 (.box 31 2 (tD 1)), opD 4 (.mov (.const vB))] [[], [], []] false) (.seq (.region [opD 5 (.faddr 0 (tD 2)), opD 6 (.load false 1 (tD 5)), opD 7 (.faddr 0 (tD 3)), opD 8 (.load false 1 (tD 7)), oqD 9 (.call 94 [(tD 6), (tD 8)]) (.ent (e94 fu)), mvD 10 9, ogD 11 10 true (.faddr 1 (tD 2)), ogD 12 10 true (.load false 1 (tD 11)), ogD 13 10 true (.faddr 1 (tD 3)), ogD 14 10 true (.load false 1 (tD 13)), (⟨(some 15), (some (10, true)), (.call 94 [(tD 12), (tD 14)])⟩, (.ent (e94 fu))), opD 16 (.pick (tD 10) (tD 15) (.const vB)), mvD 4 16] [[], [0], [], [2], [1, 3], [4, 4], [5], [6, 5], [5], [8, 5], [7, 9, 5, 5], [5, 10], [11, 10, 0, 1, 2, 3, 4, 5, 6, 7, 8, 9, 10, 11]] false) .ret))
set_option maxRecDepth 1000000 in
theorem v70 (fu : Nat) : evF fu (d70 fu) rs70 17 (e70 fu).ash (e70 fu).osh (e70 fu).vsh = p70 fu := by kernel_rfl
set_option maxRecDepth 1000000 in
theorem b70 (fu : Nat) : BodyD Tryd.prog 70 17 (d70 fu).erase rs70 := bodyD_mk Tryd.func70 (by kernel_rfl) (by kernel_rfl) (by kernel_rfl) (by kernel_rfl)
theorem g70 (fu : Nat) : (e70 fu).Good Tryd.prog := good_by orders (b70 fu) (l := [e94 fu, e94 fu]) (by kernel_rfl) ⟨g94 fu, g94 fu, trivial⟩ (by kernel_rfl) (v70 fu)
def rs73 : List RVx := [(.tmp 4)]
/-- gazette/gazetteref01.SameEntry -/
def p73 (fu : Nat) : (Z1) × ((Z1) × (Unit)) → Option ((Unit) × (Bool)) := fun ⟨⟨a, c, f, h, i, j, _⟩, ⟨k, l, m, n, o, q, _⟩, _⟩ =>
Option.bind (p70 fu ((i, j, ()), (o, q, ()), ())) fun ⟨_, s⟩ =>
bif s then
 bif (a == k) then
 bif (c == l) then
 bif (f == m) then
 some ((), ByteArray.toList (strOfNums h) == ByteArray.toList (strOfNums n))
 else
 some ((), false)
 else
 some ((), false)
 else
 some ((), false)
else
 some ((), false)
def e73 (fu : Nat) : Ent := ⟨73, (.cons Y2 (.cons Y2 .nil)), .nil, (.hole .bool), p73 fu⟩
def d73 (fu : Nat) : DC := (.seq (.region [opD 2 (.box 33 6 (tD 0)), opD 3 (.box 33 6 (tD 1)), opD 4 (.mov (.const vB))] [[], [], []] false) (.seq (.region [opD 6 (.faddr 4 (tD 2)), opD 7 (.load true 2 (tD 6)), opD 8 (.faddr 4 (tD 3)), opD 9 (.load true 2 (tD 8)), oqD 10 (.call 70 [(tD 7), (tD 9)]) (.ent (e70 fu)), mvD 5 10] [[], [0], [], [2], [1, 3], [4, 4, 0, 1, 2, 3, 4]] false) (.seq (.region [mvD 11 5, mvD 12 11, ogD 13 12 true (.faddr 0 (tD 2)), ogD 14 12 true (.load false 1 (tD 13)), ogD 15 12 true (.faddr 0 (tD 3)), ogD 16 12 true (.load false 1 (tD 15)), ogD 17 12 true (.bin .eql (tD 14) (tD 16)), opD 18 (.pick (tD 12) (tD 17) (.const vB)), mvD 19 18, ogD 20 19 true (.faddr 1 (tD 2)), ogD 21 19 true (.load false 1 (tD 20)), ogD 22 19 true (.faddr 1 (tD 3)), ogD 23 19 true (.load false 1 (tD 22)), ogD 24 19 true (.bin .eql (tD 21) (tD 23)), opD 25 (.pick (tD 19) (tD 24) (.const vB)), mvD 26 25, ogD 27 26 true (.faddr 2 (tD 2)), ogD 28 26 true (.load false 1 (tD 27)), ogD 29 26 true (.faddr 2 (tD 3)), ogD 30 26 true (.load false 1 (tD 29)), ogD 31 26 true (.bin .eql (tD 28) (tD 30)), opD 32 (.pick (tD 26) (tD 31) (.const vB)), mvD 33 32, ogD 34 33 true (.faddr 3 (tD 2)), ogD 35 33 true (.load false 1 (tD 34)), ogD 36 33 true (.b2s (tD 35)), ogD 37 33 true (.faddr 3 (tD 3)), ogD 38 33 true (.load false 1 (tD 37)), ogD 39 33 true (.b2s (tD 38)), ogD 40 33 true (.bin .eql (tD 36) (tD 39)), opD 41 (.pick (tD 33) (tD 40) (.const vB)), mvD 4 41] [[], [0], [1], [2, 1], [1], [4, 1], [3, 5, 1], [1, 6], [7, 1], [8], [9, 8], [8], [11, 8], [10, 12, 8], [8, 13], [14, 8], [15], [16, 15], [15], [18, 15], [17, 19, 15], [15, 20], [21, 15], [22], [23, 22], [24, 22], [22], [26, 22], [27, 22], [25, 28, 22], [22, 29], [30, 22, 0, 1, 2, 3, 4, 5, 6, 7, 8, 9, 10, 11, 12, 13, 14, 15, 16, 17, 18, 19, 20, 21, 22, 23, 24, 25, 26, 27, 28, 29, 30]] false) .ret)))
set_option maxRecDepth 1000000 in
theorem v73 (fu : Nat) : evF fu (d73 fu) rs73 42 (e73 fu).ash (e73 fu).osh (e73 fu).vsh = p73 fu := by kernel_rfl
set_option maxRecDepth 1000000 in
theorem b73 (fu : Nat) : BodyD Tryd.prog 73 42 (d73 fu).erase rs73 := bodyD_mk Tryd.func73 (by kernel_rfl) (by kernel_rfl) (by kernel_rfl) (by kernel_rfl)
theorem g73 (fu : Nat) : (e73 fu).Good Tryd.prog := good_by orders (b73 fu) (l := [e70 fu]) (by kernel_rfl) ⟨g70 fu, trivial⟩ (by kernel_rfl) (v73 fu)
def rs75 : List RVx := [(.tmp 4)]
/-- gazette/gazetteref01.SameSnap -/
def p75 (fu : Nat) : ((Int) × ((Int) × ((List (Int)) × ((List (Int)) × ((List (Int)) × (Unit)))))) × (((Int) × ((Int) × ((List (Int)) × ((List (Int)) × ((List (Int)) × (Unit)))))) × (Unit)) → Option ((Unit) × (Bool)) := fun ⟨⟨a, c, f, h, i, _⟩, ⟨j, k, l, m, n, _⟩, _⟩ =>
Option.bind (p70 fu ((f, h, ()), (l, m, ()), ())) fun ⟨_, o⟩ =>
bif o then
 bif (a == j) then
 bif (c == k) then
 some ((), ByteArray.toList (strOfNums i) == ByteArray.toList (strOfNums n))
 else
 some ((), false)
 else
 some ((), false)
else
 some ((), false)
def e75 (fu : Nat) : Ent := ⟨75, (.cons Y3 (.cons Y3 .nil)), .nil, (.hole .bool), p75 fu⟩
def d75 (fu : Nat) : DC := (.seq (.region [opD 2 (.box 37 5 (tD 0)), opD 3 (.box 37 5 (tD 1)), opD 4 (.mov (.const vB))] [[], [], []] false) (.seq (.region [opD 6 (.faddr 2 (tD 2)), opD 7 (.load true 2 (tD 6)), opD 8 (.faddr 2 (tD 3)), opD 9 (.load true 2 (tD 8)), oqD 10 (.call 70 [(tD 7), (tD 9)]) (.ent (e70 fu)), mvD 5 10] [[], [0], [], [2], [1, 3], [4, 4, 0, 1, 2, 3, 4]] false) (.seq (.region [mvD 11 5, mvD 12 11, ogD 13 12 true (.faddr 0 (tD 2)), ogD 14 12 true (.load false 1 (tD 13)), ogD 15 12 true (.faddr 0 (tD 3)), ogD 16 12 true (.load false 1 (tD 15)), ogD 17 12 true (.bin .eql (tD 14) (tD 16)), opD 18 (.pick (tD 12) (tD 17) (.const vB)), mvD 19 18, ogD 20 19 true (.faddr 1 (tD 2)), ogD 21 19 true (.load false 1 (tD 20)), ogD 22 19 true (.faddr 1 (tD 3)), ogD 23 19 true (.load false 1 (tD 22)), ogD 24 19 true (.bin .eql (tD 21) (tD 23)), opD 25 (.pick (tD 19) (tD 24) (.const vB)), mvD 26 25, ogD 27 26 true (.faddr 4 (tD 2)), ogD 28 26 true (.load false 1 (tD 27)), ogD 29 26 true (.b2s (tD 28)), ogD 30 26 true (.faddr 4 (tD 3)), ogD 31 26 true (.load false 1 (tD 30)), ogD 32 26 true (.b2s (tD 31)), ogD 33 26 true (.bin .eql (tD 29) (tD 32)), opD 34 (.pick (tD 26) (tD 33) (.const vB)), mvD 4 34] [[], [0], [1], [2, 1], [1], [4, 1], [3, 5, 1], [1, 6], [7, 1], [8], [9, 8], [8], [11, 8], [10, 12, 8], [8, 13], [14, 8], [15], [16, 15], [17, 15], [15], [19, 15], [20, 15], [18, 21, 15], [15, 22], [23, 15, 0, 1, 2, 3, 4, 5, 6, 7, 8, 9, 10, 11, 12, 13, 14, 15, 16, 17, 18, 19, 20, 21, 22, 23]] false) .ret)))
set_option maxRecDepth 1000000 in
theorem v75 (fu : Nat) : evF fu (d75 fu) rs75 35 (e75 fu).ash (e75 fu).osh (e75 fu).vsh = p75 fu := by kernel_rfl
set_option maxRecDepth 1000000 in
theorem b75 (fu : Nat) : BodyD Tryd.prog 75 35 (d75 fu).erase rs75 := bodyD_mk Tryd.func75 (by kernel_rfl) (by kernel_rfl) (by kernel_rfl) (by kernel_rfl)
theorem g75 (fu : Nat) : (e75 fu).Good Tryd.prog := good_by orders (b75 fu) (l := [e70 fu]) (by kernel_rfl) ⟨g70 fu, trivial⟩ (by kernel_rfl) (v75 fu)
def rs31 : List RVx := [(.tmp 4)]
/-- gazette/gazetteref01.SameItem -/
def p31 (fu : Nat) : (Z0) × ((Z0) × (Unit)) → Option ((Unit) × (Bool)) := fun ⟨⟨a, c, f, h, i, j, k, l, m, n, o, q, s, t, u, w, x, _⟩, ⟨y, z, a0, c0, f0, h0, i0, j0, k0, l0, m0, n0, o0, q0, s0, t0, u0, _⟩, _⟩ =>
Option.bind (p73 fu ((f, h, i, j, k, l, ()), (a0, c0, f0, h0, i0, j0, ()), ())) fun ⟨_, w0⟩ =>
Option.bind (p75 fu ((s, t, u, w, x, ()), (o0, q0, s0, t0, u0, ()), ())) fun ⟨_, x0⟩ =>
bif w0 then
 bif x0 then
 bif (a == y) then
 bif (c == z) then
 bif (m == k0 && (n == l0 && (o == m0 && true))) then
 some ((), (q == n0))
 else
 some ((), false)
 else
 some ((), false)
 else
 some ((), false)
 else
 some ((), false)
else
 some ((), false)
def e31 (fu : Nat) : Ent := ⟨31, (.cons Y4 (.cons Y4 .nil)), .nil, (.hole .bool), p31 fu⟩
def d31 (fu : Nat) : DC := (.seq (.region [opD 2 (.box 39 17 (tD 0)), opD 3 (.box 39 17 (tD 1)), opD 4 (.mov (.const vB))] [[], [], []] false) (.seq (.region [opD 7 (.faddr 2 (tD 2)), opD 8 (.load true 6 (tD 7)), opD 9 (.faddr 2 (tD 3)), opD 10 (.load true 6 (tD 9)), oqD 11 (.call 73 [(tD 8), (tD 10)]) (.ent (e73 fu)), mvD 5 11] [[], [0], [], [2], [1, 3], [4, 4, 0, 1, 2, 3, 4]] false) (.seq (.region [opD 12 (.faddr 12 (tD 2)), opD 13 (.load true 5 (tD 12)), opD 14 (.faddr 12 (tD 3)), opD 15 (.load true 5 (tD 14)), oqD 16 (.call 75 [(tD 13), (tD 15)]) (.ent (e75 fu)), mvD 6 16] [[], [0], [], [2], [1, 3], [4, 4, 0, 1, 2, 3, 4]] false) (.seq (.region [mvD 17 5, mvD 18 17, ogD 19 18 true (.mov (tD 6)), opD 20 (.pick (tD 18) (tD 19) (.const vB)), mvD 21 20, ogD 22 21 true (.faddr 0 (tD 2)), ogD 23 21 true (.load false 1 (tD 22)), ogD 24 21 true (.faddr 0 (tD 3)), ogD 25 21 true (.load false 1 (tD 24)), ogD 26 21 true (.bin .eql (tD 23) (tD 25)), opD 27 (.pick (tD 21) (tD 26) (.const vB)), mvD 28 27, ogD 29 28 true (.faddr 1 (tD 2)), ogD 30 28 true (.load false 1 (tD 29)), ogD 31 28 true (.faddr 1 (tD 3)), ogD 32 28 true (.load false 1 (tD 31)), ogD 33 28 true (.bin .eql (tD 30) (tD 32)), opD 34 (.pick (tD 28) (tD 33) (.const vB)), mvD 35 34, ogD 36 35 true (.faddr 8 (tD 2)), ogD 37 35 true (.load true 3 (tD 36)), ogD 38 35 true (.faddr 8 (tD 3)), ogD 39 35 true (.load true 3 (tD 38)), ogD 40 35 true (.seq false [.int, .int, .int] (tD 37) (tD 39)), opD 41 (.pick (tD 35) (tD 40) (.const vB)), mvD 42 41, ogD 43 42 true (.faddr 11 (tD 2)), ogD 44 42 true (.load false 1 (tD 43)), ogD 45 42 true (.faddr 11 (tD 3)), ogD 46 42 true (.load false 1 (tD 45)), ogD 47 42 true (.bin .eql (tD 44) (tD 46)), opD 48 (.pick (tD 42) (tD 47) (.const vB)), mvD 4 48] [[], [0], [1], [1, 2], [3, 1], [4], [5, 4], [4], [7, 4], [6, 8, 4], [4, 9], [10, 4], [11], [12, 11], [11], [14, 11], [13, 15, 11], [11, 16], [17, 11], [18], [19, 18], [18], [21, 18], [20, 22, 18], [18, 23], [24, 18], [25], [26, 25], [25], [28, 25], [27, 29, 25], [25, 30], [31, 25, 0, 1, 2, 3, 4, 5, 6, 7, 8, 9, 10, 11, 12, 13, 14, 15, 16, 17, 18, 19, 20, 21, 22, 23, 24, 25, 26, 27, 28, 29, 30, 31]] false) .ret))))
set_option maxRecDepth 1000000 in
theorem v31 (fu : Nat) : evF fu (d31 fu) rs31 49 (e31 fu).ash (e31 fu).osh (e31 fu).vsh = p31 fu := by kernel_rfl
set_option maxRecDepth 1000000 in
theorem b31 (fu : Nat) : BodyD Tryd.prog 31 49 (d31 fu).erase rs31 := bodyD_mk Tryd.func31 (by kernel_rfl) (by kernel_rfl) (by kernel_rfl) (by kernel_rfl)
theorem g31 (fu : Nat) : (e31 fu).Good Tryd.prog := good_by orders (b31 fu) (l := [e73 fu, e75 fu]) (by kernel_rfl) ⟨g73 fu, g75 fu, trivial⟩ (by kernel_rfl) (v31 fu)
/-- (*gazette/codec.Writer).Bytes -/
def p36_1 (fu : Nat) : ((Unit) × (Unit)) × ((List (Int)) × (Unit)) → Option ((((List (Int)) × (Unit)) × (Unit)) × (Unit)) := fun ⟨⟨_, _⟩, a, _⟩ =>
Option.bind (p34 fu (((), ()), IntKind.wrap .u64 (List.length a : Int), ())) fun ⟨⟨⟨c, _⟩, _⟩, _⟩ =>
bif eqL c then
 bif decide (List.length c + List.length a ≤ maxLen ∧ (List.length c + List.length a) * 1 ≤ 140737488355328) then
 bif eqL (c ++ a) then
 some ((((c ++ a), ()), ()), ())
 else none
 else none
else none
def e36_1 (fu : Nat) : Ent := ⟨36, (.cons (.box 60 1 (.cons .nils .nil)) (.cons (.hole (.sl (.int .u8))) .nil)), (.cons (.agg 1 (.cons (.own .own 5 (.int .u8)) .nil)) .nil), (.tup 0 .nil), p36_1 fu⟩
def d36_1 (fu : Nat) : DC := (.seq (.region [mvD 4 0, mvD 5 1, opD 6 (.len false (tD 5)), opD 7 (.conv .u64 (tD 6)), oqD 8 (.call 34 [(tD 4), (tD 7)]) (.ent (e34 fu))] [[], [], [1], [2], [0, 3]] false) (.region [mvD 9 0, mvD 10 0, opD 11 (.pure .nilc [(tD 10)]), opD 12 (.faddr 0 (tD 11)), opD 13 (.load false 1 (tD 12)), mvD 14 1, oqD 15 (.app 5 1 [(.int .u8 0)] 1 (tD 13) (tD 14)) (.ty (.int .u8)), opD 16 (.pure .nilc [(tD 9)]), opD 17 (.faddr 0 (tD 16)), onD (.store 1 (tD 17) (tD 15))] [[], [], [1], [2], [3], [], [4, 5], [0, 0, 1, 2, 3, 4, 5, 6], [7, 0, 1, 2, 3, 4, 5, 6], [8, 6, 6, 0, 1, 2, 3, 4, 5, 6]] false))
set_option maxRecDepth 1000000 in
theorem v36_1 (fu : Nat) : evF fu (d36_1 fu) rs36 18 (e36_1 fu).ash (e36_1 fu).osh (e36_1 fu).vsh = p36_1 fu := by kernel_rfl
set_option maxRecDepth 1000000 in
theorem b36_1 (fu : Nat) : BodyD Tryd.prog 36 18 (d36_1 fu).erase rs36 := bodyD_mk Tryd.func36 (by kernel_rfl) (by kernel_rfl) (by kernel_rfl) (by kernel_rfl)
theorem g36_1 (fu : Nat) : (e36_1 fu).Good Tryd.prog := good_by orders (b36_1 fu) (l := [e34 fu]) (by kernel_rfl) ⟨g34 fu, trivial⟩ (by kernel_rfl) (v36_1 fu)
def rs12 : List RVx := [(.tmp 2)]
/-- gazette/codec.Frame -/
def p12 (fu : Nat) : (List (Int)) × (Unit) → Option ((Unit) × (List (Int))) := fun ⟨a, _⟩ =>
Option.bind (p36_1 fu (((), ()), a, ())) fun ⟨⟨⟨c, _⟩, _⟩, _⟩ =>
Option.bind (p24 fu (a, ())) fun ⟨_, f⟩ =>
bif eqL c then
 Option.bind (p27 fu ((c, ()), ())) fun ⟨_, h⟩ =>
 bif eqL h then
 bif decide (List.length h + List.length ([IntKind.wrap .u8 f, IntKind.wrap .u8 (Int.fdiv f (2 ^ (min (Int.toNat (8 : Int)) (IntKind.bits .u32)))), IntKind.wrap .u8 (Int.fdiv f (2 ^ (min (Int.toNat (16 : Int)) (IntKind.bits .u32)))), IntKind.wrap .u8 (Int.fdiv f (2 ^ (min (Int.toNat (24 : Int)) (IntKind.bits .u32))))]) ≤ maxLen ∧ (List.length h + List.length ([IntKind.wrap .u8 f, IntKind.wrap .u8 (Int.fdiv f (2 ^ (min (Int.toNat (8 : Int)) (IntKind.bits .u32)))), IntKind.wrap .u8 (Int.fdiv f (2 ^ (min (Int.toNat (16 : Int)) (IntKind.bits .u32)))), IntKind.wrap .u8 (Int.fdiv f (2 ^ (min (Int.toNat (24 : Int)) (IntKind.bits .u32))))])) * 1 ≤ 140737488355328) then
 bif eqL (h ++ [IntKind.wrap .u8 f, IntKind.wrap .u8 (Int.fdiv f (2 ^ (min (Int.toNat (8 : Int)) (IntKind.bits .u32)))), IntKind.wrap .u8 (Int.fdiv f (2 ^ (min (Int.toNat (16 : Int)) (IntKind.bits .u32)))), IntKind.wrap .u8 (Int.fdiv f (2 ^ (min (Int.toNat (24 : Int)) (IntKind.bits .u32))))]) then
 some ((), (h ++ [IntKind.wrap .u8 f, IntKind.wrap .u8 (Int.fdiv f (2 ^ (min (Int.toNat (8 : Int)) (IntKind.bits .u32)))), IntKind.wrap .u8 (Int.fdiv f (2 ^ (min (Int.toNat (16 : Int)) (IntKind.bits .u32)))), IntKind.wrap .u8 (Int.fdiv f (2 ^ (min (Int.toNat (24 : Int)) (IntKind.bits .u32))))]))
 else none
 else none
 else none
else none
def e12 (fu : Nat) : Ent := ⟨12, (.cons (.hole (.sl (.int .u8))) .nil), .nil, (.own .own 5 (.int .u8)), p12 fu⟩
def d12 (fu : Nat) : DC := (.seq (.region [opD 2 (.mov (.const vS))] [[]] false) (.seq (.region [opD 5 (.build 1 [vS] []), opD 6 (.box 60 1 (tD 5)), mvD 3 6] [[], [0], [1, 0, 1]] false) (.seq (.region [mvD 7 3, mvD 8 0, oqD 9 (.call 36 [(tD 7), (tD 8)]) (.ent (e36_1 fu))] [[], [], [0, 1]] false) (.seq (.region [mvD 10 0, oqD 11 (.call 24 [(tD 10)]) (.ent (e24 fu)), mvD 4 11] [[], [0], [1, 1, 0, 1]] false) (.seq (.region [mvD 12 3, oqD 13 (.call 27 [(tD 12)]) (.ent (e27 fu)), mvD 14 4, opD 15 (.conv .u8 (tD 14)), mvD 16 4, opD 17 (.bin .shr (tD 16) (.const (.int .u64 8))), opD 18 (.conv .u8 (tD 17)), mvD 19 4, opD 20 (.bin .shr (tD 19) (.const (.int .u64 16))), opD 21 (.conv .u8 (tD 20)), mvD 22 4, opD 23 (.bin .shr (tD 22) (.const (.int .u64 24))), opD 24 (.conv .u8 (tD 23)), oqD 25 (.bslice 5 1 4 [(.int .u8 0)] [(0, (tD 15)), (1, (tD 18)), (2, (tD 21)), (3, (tD 24))]) (.ty (.int .u8)), oqD 26 (.app 5 1 [(.int .u8 0)] 1 (tD 13) (tD 25)) (.ty (.int .u8)), mvD 2 26] [[], [0], [], [2], [], [4], [5], [], [7], [8], [], [10], [11], [3, 6, 9, 12], [1, 13, 1], [14, 14, 0, 1, 2, 3, 4, 5, 6, 7, 8, 9, 10, 11, 12, 13, 14]] false) .ret)))))
set_option maxRecDepth 1000000 in
theorem v12 (fu : Nat) : evF fu (d12 fu) rs12 27 (e12 fu).ash (e12 fu).osh (e12 fu).vsh = p12 fu := by kernel_rfl
set_option maxRecDepth 1000000 in
theorem b12 (fu : Nat) : BodyD Tryd.prog 12 27 (d12 fu).erase rs12 := bodyD_mk Tryd.func12 (by kernel_rfl) (by kernel_rfl) (by kernel_rfl) (by kernel_rfl)
theorem g12 (fu : Nat) : (e12 fu).Good Tryd.prog := good_by orders (b12 fu) (l := [e36_1 fu, e24 fu, e27 fu]) (by kernel_rfl) ⟨g36_1 fu, g24 fu, g27 fu, trivial⟩ (by kernel_rfl) (v12 fu)
/-- (*gazette/codec.Reader).failAt -/
def p43_3 (_ : Nat) : ((List (Int)) × ((Int) × ((Unit) × (Unit)))) × ((Int) × ((Int) × (Unit))) → Option ((((List (Int)) × ((Int) × (((Bool) × (((Int) × ((Int) × (Unit))) × (Unit))) × (Unit)))) × (Unit)) × (Unit)) := fun ⟨⟨a, c, _, _⟩, f, h, _⟩ =>
bif (h != (0 : Int)) then
 some (((a, c, (true, (h, f, ()), dflt .unit), ()), ()), ())
else
 some (((a, c, zR0, ()), ()), ())
def e43_3 (fu : Nat) : Ent := ⟨43, (.cons (.box 95 3 (.cons (.hole (.sl (.int .u8))) (.cons (.hole (.int .i64)) (.cons (.nilv 1) .nil)))) (.cons (.hole (.int .i64)) (.cons (.hole (.int .i64)) .nil))), (.cons Y7 .nil), (.tup 0 .nil), p43_3 fu⟩
def d43_3 (_ : Nat) : DC := (.seq (.region [mvD 6 0, opD 7 (.pure .nilc [(tD 6)]), opD 8 (.faddr 2 (tD 7)), opD 9 (.load false 1 (tD 8)), opD 10 (.pure (.nilq 1 false) [(tD 9)]), mvD 11 10, ogD 12 11 true (.mov (tD 2)), ogD 13 11 true (.bin .neq (tD 12) (cD 0)), opD 14 (.pick (tD 11) (tD 13) (.const vB))] [[], [0], [1], [2], [3], [4], [5], [6, 5], [5, 7]] false) (.cond (.tmp 14) (.region [mvD 15 0, mvD 16 2, mvD 17 1, opD 18 (.build 2 [vI, vI] [(0, (1, (tD 16))), (1, (1, (tD 17)))]), opD 19 (.box 103 2 (tD 18)), opD 20 (.ifc 99 (tD 19)), opD 21 (.pure .nilc [(tD 15)]), opD 22 (.faddr 2 (tD 21)), onD (.store 1 (tD 22) (tD 20))] [[], [], [], [1, 2], [3], [4], [0, 0, 1, 2, 3, 4, 5], [6, 0, 1, 2, 3, 4, 5], [7, 5, 0, 1, 2, 3, 4, 5]] false) .skip))
set_option maxRecDepth 1000000 in
theorem v43_3 (fu : Nat) : evF fu (d43_3 fu) rs43 23 (e43_3 fu).ash (e43_3 fu).osh (e43_3 fu).vsh = p43_3 fu := by kernel_rfl
set_option maxRecDepth 1000000 in
theorem b43_3 (fu : Nat) : BodyD Tryd.prog 43 23 (d43_3 fu).erase rs43 := bodyD_mk Tryd.func43 (by kernel_rfl) (by kernel_rfl) (by kernel_rfl) (by kernel_rfl)
theorem g43_3 (fu : Nat) : (e43_3 fu).Good Tryd.prog := good_by orders (b43_3 fu) (l := []) (by kernel_rfl) trivial (by kernel_rfl) (v43_3 fu)
/-- (*gazette/codec.Reader).Fail -/
def p41_1 (fu : Nat) : ((List (Int)) × ((Int) × ((Unit) × (Unit)))) × ((Int) × (Unit)) → Option ((((List (Int)) × ((Int) × (((Bool) × (((Int) × ((Int) × (Unit))) × (Unit))) × (Unit)))) × (Unit)) × (Unit)) := fun ⟨⟨a, c, _, _⟩, f, _⟩ =>
Option.bind (p43_3 fu ((a, c, (), ()), c, f, ())) fun ⟨⟨⟨h, i, ⟨j, ⟨k, l, _⟩, _⟩, _⟩, _⟩, _⟩ =>
bif j then
 some (((h, i, (true, (k, l, ()), dflt .unit), ()), ()), ())
else
 some (((h, i, zR0, ()), ()), ())
def e41_1 (fu : Nat) : Ent := ⟨41, (.cons (.box 95 3 (.cons (.hole (.sl (.int .u8))) (.cons (.hole (.int .i64)) (.cons (.nilv 1) .nil)))) (.cons (.hole (.int .i64)) .nil)), (.cons Y7 .nil), (.tup 0 .nil), p41_1 fu⟩
def d41_1 (fu : Nat) : DC := (.region [mvD 4 0, mvD 5 0, opD 6 (.pure .nilc [(tD 5)]), opD 7 (.faddr 1 (tD 6)), opD 8 (.load false 1 (tD 7)), mvD 9 1, oqD 10 (.call 43 [(tD 4), (tD 8), (tD 9)]) (.ent (e43_3 fu))] [[], [], [1], [2], [3], [], [0, 4, 5]] false)
set_option maxRecDepth 1000000 in
theorem v41_1 (fu : Nat) : evF fu (d41_1 fu) rs41 11 (e41_1 fu).ash (e41_1 fu).osh (e41_1 fu).vsh = p41_1 fu := by kernel_rfl
set_option maxRecDepth 1000000 in
theorem b41_1 (fu : Nat) : BodyD Tryd.prog 41 11 (d41_1 fu).erase rs41 := bodyD_mk Tryd.func41 (by kernel_rfl) (by kernel_rfl) (by kernel_rfl) (by kernel_rfl)
theorem g41_1 (fu : Nat) : (e41_1 fu).Good Tryd.prog := good_by orders (b41_1 fu) (l := [e43_3 fu]) (by kernel_rfl) ⟨g43_3 fu, trivial⟩ (by kernel_rfl) (v41_1 fu)
/-- (*gazette/codec.Reader).Uint -/
def p15_3 (fu : Nat) : ((List (Int)) × ((Int) × ((Unit) × (Unit)))) × (Unit) → Option ((((List (Int)) × ((Int) × (((Bool) × (((Int) × ((Int) × (Unit))) × (Unit))) × (Unit)))) × (Unit)) × (Int)) := fun ⟨⟨a, c, _, _⟩, _⟩ =>
bif decide ((0 : Int) ≤ c) then
 bif decide (Int.toNat c ≤ List.length a) then
 Option.bind (p40 fu (slice' a (Int.toNat c) none, ())) fun ⟨_, ⟨f, h, i, _⟩⟩ =>
 Option.bind (p41_1 fu ((a, c, (), ()), i, ())) fun ⟨⟨⟨j, k, ⟨l, ⟨m, n, _⟩, _⟩, _⟩, _⟩, _⟩ =>
 bif l then
 some (((j, IntKind.wrap .i64 (k + h), (true, (m, n, ()), dflt .unit), ()), ()), f)
 else
 some (((j, IntKind.wrap .i64 (k + h), zR0, ()), ()), f)
 else none
else none
def e15_3 (fu : Nat) : Ent := ⟨15, (.cons (.box 95 3 (.cons (.hole (.sl (.int .u8))) (.cons (.hole (.int .i64)) (.cons (.nilv 1) .nil)))) .nil), (.cons Y7 .nil), (.hole (.int .u64)), p15_3 fu⟩
def d15_3 (fu : Nat) : DC := (.seq (.region [opD 2 (.mov (.const vU))] [[]] false) (.seq (.seq (.region [mvD 6 0, opD 7 (.pure .nilc [(tD 6)]), opD 8 (.faddr 2 (tD 7)), opD 9 (.load false 1 (tD 8)), opD 10 (.pure (.nilq 1 true) [(tD 9)])] [[], [0], [1], [2], [3]] false) (.cond (.tmp 10) (.seq (.region [opD 2 (.mov (.const vU))] [[]] false) .ret) .skip)) (.seq (.region [mvD 12 0, opD 13 (.pure .nilc [(tD 12)]), opD 14 (.faddr 0 (tD 13)), opD 15 (.load false 1 (tD 14)), mvD 16 0, opD 17 (.pure .nilc [(tD 16)]), opD 18 (.faddr 1 (tD 17)), opD 19 (.load false 1 (tD 18)), opD 20 (.slc 1 (tD 15) (some (tD 19)) none), oqD 21 (.call 40 [(tD 20)]) (.ent (e40 fu)), mvD 11 21, opD 22 (.ext (tD 11) 0), opD 23 (.ext (tD 11) 1), opD 24 (.ext (tD 11) 2), mvD 3 22, mvD 4 23, mvD 5 24] [[], [0], [1], [2], [], [4], [5], [6], [3, 7], [8], [9], [10], [10], [10], [11, 9, 0, 1, 2, 3, 4, 5, 6, 7, 8, 9, 10, 11], [12, 14, 0, 1, 2, 3, 4, 5, 6, 7, 8, 9, 10, 11, 12, 14], [13, 15, 0, 1, 2, 3, 4, 5, 6, 7, 8, 9, 10, 11, 12, 13, 14, 15]] true) (.seq (.region [mvD 25 0, mvD 26 5, oqD 27 (.call 41 [(tD 25), (tD 26)]) (.ent (e41_1 fu))] [[], [], [0, 1]] false) (.seq (.region [mvD 28 0, opD 29 (.pure .nilc [(tD 28)]), opD 30 (.faddr 1 (tD 29)), opD 31 (.load false 1 (tD 30)), mvD 32 4, opD 33 (.bin .add (tD 31) (tD 32)), opD 34 (.pure .nilc [(tD 28)]), opD 35 (.faddr 1 (tD 34)), onD (.store 1 (tD 35) (tD 33))] [[], [0], [1], [2], [], [3, 4], [0, 0, 1, 2, 3, 4, 5], [6, 0, 1, 2, 3, 4, 5], [7, 5, 0, 1, 2, 3, 4, 5]] false) (.seq (.region [mvD 36 3, mvD 2 36] [[], [0, 0]] false) .ret))))))
set_option maxRecDepth 1000000 in
theorem v15_3 (fu : Nat) : evF fu (d15_3 fu) rs15 37 (e15_3 fu).ash (e15_3 fu).osh (e15_3 fu).vsh = p15_3 fu := by kernel_rfl
set_option maxRecDepth 1000000 in
theorem b15_3 (fu : Nat) : BodyD Tryd.prog 15 37 (d15_3 fu).erase rs15 := bodyD_mk Tryd.func15 (by kernel_rfl) (by kernel_rfl) (by kernel_rfl) (by kernel_rfl)
theorem g15_3 (fu : Nat) : (e15_3 fu).Good Tryd.prog := good_by orders (b15_3 fu) (l := [e40 fu, e41_1 fu]) (by kernel_rfl) ⟨g40 fu, g41_1 fu, trivial⟩ (by kernel_rfl) (v15_3 fu)
/-- (*gazette/codec.Reader).failAt -/
def p43_5 (_ : Nat) : ((List (Int)) × ((Int) × (((Bool) × (((Int) × ((Int) × (Unit))) × (Unit))) × (Unit)))) × ((Int) × ((Int) × (Unit))) → Option ((((List (Int)) × ((Int) × (((Bool) × (((Int) × ((Int) × (Unit))) × (Unit))) × (Unit)))) × (Unit)) × (Unit)) := fun ⟨⟨a, c, ⟨f, ⟨h, i, _⟩, _⟩, _⟩, j, k, _⟩ =>
bif f then
 some (((a, c, (true, (h, i, ()), dflt .unit), ()), ()), ())
else
 bif (k != (0 : Int)) then
 some (((a, c, (true, (k, j, ()), dflt .unit), ()), ()), ())
 else
 some (((a, c, zR0, ()), ()), ())
def e43_5 (fu : Nat) : Ent := ⟨43, (.cons Y8 (.cons (.hole (.int .i64)) (.cons (.hole (.int .i64)) .nil))), (.cons Y7 .nil), (.tup 0 .nil), p43_5 fu⟩
def d43_5 (_ : Nat) : DC := (.seq (.region [mvD 6 0, opD 7 (.pure .nilc [(tD 6)]), opD 8 (.faddr 2 (tD 7)), opD 9 (.load false 1 (tD 8)), opD 10 (.pure (.nilq 1 false) [(tD 9)]), mvD 11 10, ogD 12 11 true (.mov (tD 2)), ogD 13 11 true (.bin .neq (tD 12) (cD 0)), opD 14 (.pick (tD 11) (tD 13) (.const vB))] [[], [0], [1], [2], [3], [4], [5], [6, 5], [5, 7]] false) (.cond (.tmp 14) (.region [mvD 15 0, mvD 16 2, mvD 17 1, opD 18 (.build 2 [vI, vI] [(0, (1, (tD 16))), (1, (1, (tD 17)))]), opD 19 (.box 103 2 (tD 18)), opD 20 (.ifc 99 (tD 19)), opD 21 (.pure .nilc [(tD 15)]), opD 22 (.faddr 2 (tD 21)), onD (.store 1 (tD 22) (tD 20))] [[], [], [], [1, 2], [3], [4], [0, 0, 1, 2, 3, 4, 5], [6, 0, 1, 2, 3, 4, 5], [7, 5, 0, 1, 2, 3, 4, 5]] false) .skip))
set_option maxRecDepth 1000000 in
theorem v43_5 (fu : Nat) : evF fu (d43_5 fu) rs43 23 (e43_5 fu).ash (e43_5 fu).osh (e43_5 fu).vsh = p43_5 fu := by kernel_rfl
set_option maxRecDepth 1000000 in
theorem b43_5 (fu : Nat) : BodyD Tryd.prog 43 23 (d43_5 fu).erase rs43 := bodyD_mk Tryd.func43 (by kernel_rfl) (by kernel_rfl) (by kernel_rfl) (by kernel_rfl)
theorem g43_5 (fu : Nat) : (e43_5 fu).Good Tryd.prog := good_by orders (b43_5 fu) (l := []) (by kernel_rfl) trivial (by kernel_rfl) (v43_5 fu)
/-- (*gazette/codec.Reader).Fail -/
def p41_3 (fu : Nat) : ((List (Int)) × ((Int) × (((Bool) × (((Int) × ((Int) × (Unit))) × (Unit))) × (Unit)))) × ((Int) × (Unit)) → Option ((((List (Int)) × ((Int) × (((Bool) × (((Int) × ((Int) × (Unit))) × (Unit))) × (Unit)))) × (Unit)) × (Unit)) := fun ⟨⟨a, c, ⟨f, ⟨h, i, _⟩, _⟩, _⟩, j, _⟩ =>
bif f then
 Option.bind (p43_5 fu ((a, c, (true, (h, i, ()), dflt .unit), ()), c, j, ())) fun ⟨⟨⟨k, l, ⟨m, ⟨n, o, _⟩, _⟩, _⟩, _⟩, _⟩ =>
 bif m then
 some (((k, l, (true, (n, o, ()), dflt .unit), ()), ()), ())
 else
 some (((k, l, zR0, ()), ()), ())
else
 Option.bind (p43_5 fu ((a, c, zR0, ()), c, j, ())) fun ⟨⟨⟨q, s, ⟨t, ⟨u, w, _⟩, _⟩, _⟩, _⟩, _⟩ =>
 bif t then
 some (((q, s, (true, (u, w, ()), dflt .unit), ()), ()), ())
 else
 some (((q, s, zR0, ()), ()), ())
def e41_3 (fu : Nat) : Ent := ⟨41, (.cons Y8 (.cons (.hole (.int .i64)) .nil)), (.cons Y7 .nil), (.tup 0 .nil), p41_3 fu⟩
def d41_3 (fu : Nat) : DC := (.region [mvD 4 0, mvD 5 0, opD 6 (.pure .nilc [(tD 5)]), opD 7 (.faddr 1 (tD 6)), opD 8 (.load false 1 (tD 7)), mvD 9 1, oqD 10 (.call 43 [(tD 4), (tD 8), (tD 9)]) (.ent (e43_5 fu))] [[], [], [1], [2], [3], [], [0, 4, 5]] false)
set_option maxRecDepth 1000000 in
theorem v41_3 (fu : Nat) : evF fu (d41_3 fu) rs41 11 (e41_3 fu).ash (e41_3 fu).osh (e41_3 fu).vsh = p41_3 fu := by kernel_rfl
set_option maxRecDepth 1000000 in
theorem b41_3 (fu : Nat) : BodyD Tryd.prog 41 11 (d41_3 fu).erase rs41 := bodyD_mk Tryd.func41 (by kernel_rfl) (by kernel_rfl) (by kernel_rfl) (by kernel_rfl)
theorem g41_3 (fu : Nat) : (e41_3 fu).Good Tryd.prog := good_by orders (b41_3 fu) (l := [e43_5 fu]) (by kernel_rfl) ⟨g43_5 fu, trivial⟩ (by kernel_rfl) (v41_3 fu)
/-- (*gazette/codec.Reader).take -/
def p45_5 (fu : Nat) : ((List (Int)) × ((Int) × (((Bool) × (((Int) × ((Int) × (Unit))) × (Unit))) × (Unit)))) × ((Int) × (Unit)) → Option ((((List (Int)) × ((Int) × (((Bool) × (((Int) × ((Int) × (Unit))) × (Unit))) × (Unit)))) × (Unit)) × (List (Int))) := fun ⟨⟨a, c, ⟨f, ⟨h, i, _⟩, _⟩, _⟩, j, _⟩ =>
bif f then
 some (((a, c, (true, (h, i, ()), dflt .unit), ()), ()), [])
else
 bif decide (j > (IntKind.wrap .i64 ((List.length a : Int) - c))) then
 Option.bind (p41_1 fu ((a, c, (), ()), (11 : Int), ())) fun ⟨⟨⟨k, l, ⟨m, ⟨n, o, _⟩, _⟩, _⟩, _⟩, _⟩ =>
 bif m then
 some (((k, l, (true, (n, o, ()), dflt .unit), ()), ()), [])
 else
 bif decide ((0 : Int) ≤ IntKind.wrap .i64 ((IntKind.wrap .i64 (l + j)) - j)) then
 bif decide ((0 : Int) ≤ IntKind.wrap .i64 (l + j)) then
 bif decide (Int.toNat (IntKind.wrap .i64 ((IntKind.wrap .i64 (l + j)) - j)) ≤ Int.toNat (IntKind.wrap .i64 (l + j)) ∧ Int.toNat (IntKind.wrap .i64 (l + j)) ≤ List.length k) then
 bif decide (List.length (slice' k (Int.toNat (IntKind.wrap .i64 ((IntKind.wrap .i64 (l + j)) - j))) (some (Int.toNat (IntKind.wrap .i64 (l + j))))) ≤ maxLen ∧ List.length (slice' k (Int.toNat (IntKind.wrap .i64 ((IntKind.wrap .i64 (l + j)) - j))) (some (Int.toNat (IntKind.wrap .i64 (l + j))))) * 1 ≤ 140737488355328) then
 bif eqL (slice' k (Int.toNat (IntKind.wrap .i64 ((IntKind.wrap .i64 (l + j)) - j))) (some (Int.toNat (IntKind.wrap .i64 (l + j))))) then
 some (((k, IntKind.wrap .i64 (l + j), zR0, ()), ()), slice' k (Int.toNat (IntKind.wrap .i64 ((IntKind.wrap .i64 (l + j)) - j))) (some (Int.toNat (IntKind.wrap .i64 (l + j)))))
 else none
 else none
 else none
 else none
 else none
 else
 bif decide ((0 : Int) ≤ IntKind.wrap .i64 ((IntKind.wrap .i64 (c + j)) - j)) then
 bif decide ((0 : Int) ≤ IntKind.wrap .i64 (c + j)) then
 bif decide (Int.toNat (IntKind.wrap .i64 ((IntKind.wrap .i64 (c + j)) - j)) ≤ Int.toNat (IntKind.wrap .i64 (c + j)) ∧ Int.toNat (IntKind.wrap .i64 (c + j)) ≤ List.length a) then
 bif decide (List.length (slice' a (Int.toNat (IntKind.wrap .i64 ((IntKind.wrap .i64 (c + j)) - j))) (some (Int.toNat (IntKind.wrap .i64 (c + j))))) ≤ maxLen ∧ List.length (slice' a (Int.toNat (IntKind.wrap .i64 ((IntKind.wrap .i64 (c + j)) - j))) (some (Int.toNat (IntKind.wrap .i64 (c + j))))) * 1 ≤ 140737488355328) then
 bif eqL (slice' a (Int.toNat (IntKind.wrap .i64 ((IntKind.wrap .i64 (c + j)) - j))) (some (Int.toNat (IntKind.wrap .i64 (c + j))))) then
 some (((a, IntKind.wrap .i64 (c + j), zR0, ()), ()), slice' a (Int.toNat (IntKind.wrap .i64 ((IntKind.wrap .i64 (c + j)) - j))) (some (Int.toNat (IntKind.wrap .i64 (c + j)))))
 else none
 else none
 else none
 else none
 else none
def e45_5 (fu : Nat) : Ent := ⟨45, (.cons Y8 (.cons (.hole (.int .i64)) .nil)), (.cons Y7 .nil), (.own .own 5 (.int .u8)), p45_5 fu⟩
def d45_5 (fu : Nat) : DC := (.seq (.region [opD 4 (.mov (.const vS))] [[]] false) (.seq (.seq (.region [mvD 5 0, opD 6 (.pure .nilc [(tD 5)]), opD 7 (.faddr 2 (tD 6)), opD 8 (.load false 1 (tD 7)), opD 9 (.pure (.nilq 1 false) [(tD 8)]), mvD 10 9, ogD 11 10 true (.mov (tD 1)), ogD 12 10 true (.mov (tD 0)), ogD 13 10 true (.pure .nilc [(tD 12)]), ogD 14 10 true (.faddr 0 (tD 13)), ogD 15 10 true (.load false 1 (tD 14)), ogD 16 10 true (.len false (tD 15)), ogD 17 10 true (.mov (tD 0)), ogD 18 10 true (.pure .nilc [(tD 17)]), ogD 19 10 true (.faddr 1 (tD 18)), ogD 20 10 true (.load false 1 (tD 19)), ogD 21 10 true (.bin .sub (tD 16) (tD 20)), ogD 22 10 true (.bin .gtr (tD 11) (tD 21)), opD 23 (.pick (tD 10) (tD 22) (.const vB))] [[], [0], [1], [2], [3], [4], [5], [5], [7, 5], [8, 5], [9, 5], [10, 5], [5], [12, 5], [13, 5], [14, 5], [11, 15, 5], [6, 16, 5], [5, 17]] true) (.cond (.tmp 23) (.region [mvD 24 0, oqD 25 (.call 41 [(tD 24), (cD 11)]) (.ent (e41_1 fu))] [[], [0]] false) .skip)) (.seq (.seq (.region [mvD 26 0, opD 27 (.pure .nilc [(tD 26)]), opD 28 (.faddr 2 (tD 27)), opD 29 (.load false 1 (tD 28)), opD 30 (.pure (.nilq 1 true) [(tD 29)])] [[], [0], [1], [2], [3]] false) (.cond (.tmp 30) (.seq (.region [opD 4 (.mov (.const vS))] [[]] false) .ret) .skip)) (.seq (.region [mvD 31 0, opD 32 (.pure .nilc [(tD 31)]), opD 33 (.faddr 1 (tD 32)), opD 34 (.load false 1 (tD 33)), mvD 35 1, opD 36 (.bin .add (tD 34) (tD 35)), opD 37 (.pure .nilc [(tD 31)]), opD 38 (.faddr 1 (tD 37)), onD (.store 1 (tD 38) (tD 36))] [[], [0], [1], [2], [], [3, 4], [0, 0, 1, 2, 3, 4, 5], [6, 0, 1, 2, 3, 4, 5], [7, 5, 0, 1, 2, 3, 4, 5]] false) (.seq (.region [mvD 39 0, opD 40 (.pure .nilc [(tD 39)]), opD 41 (.faddr 0 (tD 40)), opD 42 (.load false 1 (tD 41)), mvD 43 0, opD 44 (.pure .nilc [(tD 43)]), opD 45 (.faddr 1 (tD 44)), opD 46 (.load false 1 (tD 45)), mvD 47 1, opD 48 (.bin .sub (tD 46) (tD 47)), mvD 49 0, opD 50 (.pure .nilc [(tD 49)]), opD 51 (.faddr 1 (tD 50)), opD 52 (.load false 1 (tD 51)), opD 53 (.slc 1 (tD 42) (some (tD 48)) (some (tD 52))), oqD 54 (.app 5 1 [(.int .u8 0)] 1 (.const vS) (tD 53)) (.ty (.int .u8)), mvD 4 54] [[], [0], [1], [2], [], [4], [5], [6], [], [7, 8], [], [10], [11], [12], [3, 9, 13], [14], [15, 15, 0, 1, 2, 3, 4, 5, 6, 7, 8, 9, 10, 11, 12, 13, 14, 15]] true) .ret)))))
set_option maxRecDepth 1000000 in
theorem v45_5 (fu : Nat) : evF fu (d45_5 fu) rs45 55 (e45_5 fu).ash (e45_5 fu).osh (e45_5 fu).vsh = p45_5 fu := by kernel_rfl
set_option maxRecDepth 1000000 in
theorem b45_5 (fu : Nat) : BodyD Tryd.prog 45 55 (d45_5 fu).erase rs45 := bodyD_mk Tryd.func45 (by kernel_rfl) (by kernel_rfl) (by kernel_rfl) (by kernel_rfl)
theorem g45_5 (fu : Nat) : (e45_5 fu).Good Tryd.prog := good_by orders (b45_5 fu) (l := [e41_1 fu]) (by kernel_rfl) ⟨g41_1 fu, trivial⟩ (by kernel_rfl) (v45_5 fu)
def rs50 : List RVx := [(.tmp 2)]
/-- gazette/codec.littleEndian -/
def p50 (fu : Nat) : (List (Int)) × (Unit) → Option ((Unit) × (Int)) := fun ⟨a, _⟩ =>
loopO (S := ((Int) × ((Int) × (Unit))) × (Unit)) fu (fun ⟨⟨c, f, _⟩, _⟩ =>
 bif decide (f < (List.length a : Int)) then
 bif decide ((0 : Int) ≤ f ∧ f < (List.length a : Int)) then
 bif decide (Int.toNat f < List.length a) then
 bif decide ((0 : Int) ≤ (IntKind.wrap .i64 ((8 : Int) * f))) then
 some (.inl ((IntKind.wrap .u32 ((BitVec.ofInt (IntKind.bits .u32) c ||| BitVec.ofInt (IntKind.bits .u32) (IntKind.wrap .u32 ((IntKind.wrap .u32 (List.getD a (Int.toNat f) (dflt (.int .u8)))) * 2 ^ (min (Int.toNat (IntKind.wrap .i64 ((8 : Int) * f))) (IntKind.bits .u32))))).toNat : Int), IntKind.wrap .i64 (f + (1 : Int)), ()), ()))
 else none
 else none
 else none
 else
 inrO (some ((), c)))
 (((0 : Int), (0 : Int), ()), ())
def e50 (fu : Nat) : Ent := ⟨50, (.cons (.hole (.sl (.int .u8))) .nil), .nil, (.hole (.int .u32)), p50 fu⟩
def d50 (_ : Nat) : DC := (.seq (.region [opD 2 (.mov (.const (.int .u32 0)))] [[]] false) (.seq (.region [opD 3 (.mov (.const (.int .u32 0)))] [[]] false) (.seq (.seq (.region [mvD 6 0, opD 7 (.len false (tD 6)), opD 8 (.mov (cD 0))] [[], [0], []] false) (.block 0 (.loop ⟨[3, 8], (.cons (.hole (.int .u32)) (.cons (.hole (.int .i64)) .nil)), [], .nil, [6, 7], []⟩
 (.seq (.region [opD 9 (.bin .lss (tD 8) (tD 7))] [[]] false) (.seq (.cond (.tmp 9) .skip (.exit 0)) (.seq (.block 1 (.seq (.region [mvD 10 8, opD 11 (.iaddr 1 (tD 6) (tD 8)), opD 12 (.load false 1 (tD 11)), mvD 4 10, mvD 5 12] [[], [], [1], [0, 0, 1, 2], [2, 3, 0, 1, 2, 3]] false) (.region [mvD 13 3, mvD 14 5, opD 15 (.conv .u32 (tD 14)), mvD 16 4, opD 17 (.bin .mul (cD 8) (tD 16)), opD 18 (.bin .shl (tD 15) (tD 17)), opD 19 (.bin .or (tD 13) (tD 18)), mvD 3 19] [[], [], [1], [], [3], [2, 4], [0, 5], [6, 0, 1, 2, 3, 4, 5, 6]] false))) (.region [opD 20 (.bin .add (tD 8) (cD 1)), mvD 8 20] [[], [0]] false))))))) (.seq (.region [mvD 21 3, mvD 2 21] [[], [0, 0]] false) .ret))))
set_option maxRecDepth 1000000 in
theorem v50 (fu : Nat) : evF fu (d50 fu) rs50 22 (e50 fu).ash (e50 fu).osh (e50 fu).vsh = p50 fu := by kernel_rfl
set_option maxRecDepth 1000000 in
theorem b50 (fu : Nat) : BodyD Tryd.prog 50 22 (d50 fu).erase rs50 := bodyD_mk Tryd.func50 (by kernel_rfl) (by kernel_rfl) (by kernel_rfl) (by kernel_rfl)
theorem g50 (fu : Nat) : (e50 fu).Good Tryd.prog := good_by orders (b50 fu) (l := []) (by kernel_rfl) trivial (by kernel_rfl) (v50 fu)
/-- (*gazette/codec.Reader).Err -/
def p16_5 (fu : Nat) : ((List (Int)) × ((Int) × (((Bool) × (((Int) × ((Int) × (Unit))) × (Unit))) × (Unit)))) × (Unit) → Option ((((List (Int)) × ((Int) × (((Bool) × (((Int) × ((Int) × (Unit))) × (Unit))) × (Unit)))) × (Unit)) × ((Int) × ((Int) × (Unit)))) := fun ⟨⟨a, c, ⟨f, ⟨h, i, _⟩, _⟩, _⟩, _⟩ =>
bif f then
 Option.bind (pAs fu ((false, dflt .unit, (h, i, ())), ((), ()), ())) fun ⟨⟨⟨⟨j, _, ⟨k, l, _⟩⟩, _⟩, _⟩, m⟩ =>
 bif j then
 bif m then
 none
 else
 some (((a, c, (true, (h, i, ()), dflt .unit), ()), ()), ((0 : Int), (0 : Int), ()))
 else
 bif m then
 some (((a, c, (true, (h, i, ()), dflt .unit), ()), ()), (k, l, ()))
 else
 some (((a, c, (true, (h, i, ()), dflt .unit), ()), ()), ((0 : Int), (0 : Int), ()))
else
 Option.bind (pAs fu ((true, (), dflt (.pair (.int .i64) (.pair (.int .i64) .unit))), ((), ()), ())) fun ⟨⟨⟨⟨n, _, ⟨o, q, _⟩⟩, _⟩, _⟩, s⟩ =>
 bif n then
 bif s then
 none
 else
 some (((a, c, zR0, ()), ()), ((0 : Int), (0 : Int), ()))
 else
 bif s then
 some (((a, c, zR0, ()), ()), (o, q, ()))
 else
 some (((a, c, zR0, ()), ()), ((0 : Int), (0 : Int), ()))
def e16_5 (fu : Nat) : Ent := ⟨16, (.cons Y8 .nil), (.cons Y7 .nil), (.tup 2 (.cons (.hole (.int .i64)) (.cons (.hole (.int .i64)) .nil))), p16_5 fu⟩
def d16_5 (fu : Nat) : DC := (.seq (.region [opD 2 (.mov (cD 0)), opD 3 (.mov (cD 0))] [[], [0]] false) (.seq (.region [opD 4 (.alloc 99 1 [(.pointer none)])] [[]] false) (.seq (.seq (.region [mvD 5 0, opD 6 (.pure .nilc [(tD 5)]), opD 7 (.faddr 2 (tD 6)), opD 8 (.load false 1 (tD 7)), opD 9 (.ifc 101 (tD 4)), oqD 10 (.call 42 [(tD 8), (tD 9)]) (.ent (eAs fu))] [[], [0], [1], [2], [], [3, 4]] false) (.cond (.tmp 10) (.seq (.region [opD 11 (.load false 1 (tD 4)), opD 12 (.pure .nilc [(tD 11)]), opD 13 (.faddr 0 (tD 12)), opD 14 (.load false 1 (tD 13)), opD 15 (.load false 1 (tD 4)), opD 16 (.pure .nilc [(tD 15)]), opD 17 (.faddr 1 (tD 16)), opD 18 (.load false 1 (tD 17)), mvD 2 14, mvD 3 18] [[], [0], [1], [2], [], [4], [5], [6], [3, 0, 1, 2, 3], [7, 8, 0, 1, 2, 3, 4, 5, 6, 7, 8]] true) .ret) .skip)) (.seq (.region [opD 2 (.mov (cD 0)), opD 3 (.mov (cD 0))] [[], [0, 0]] false) .ret))))
set_option maxRecDepth 1000000 in
theorem v16_5 (fu : Nat) : evF fu (d16_5 fu) rs16 19 (e16_5 fu).ash (e16_5 fu).osh (e16_5 fu).vsh = p16_5 fu := by kernel_rfl
set_option maxRecDepth 1000000 in
theorem b16_5 (fu : Nat) : BodyD Tryd.prog 16 19 (d16_5 fu).erase rs16 := bodyD_mk Tryd.func16 (by kernel_rfl) (by kernel_rfl) (by kernel_rfl) (by kernel_rfl)
theorem g16_5 (fu : Nat) : (e16_5 fu).Good Tryd.prog := good_by orders (b16_5 fu) (l := [eAs fu]) (by kernel_rfl) ⟨gAs fu, trivial⟩ (by kernel_rfl) (v16_5 fu)
def rs21 : List RVx := [(.tmp 2), (.tmp 3), (.tmp 4)]
/-- gazette/codec.Unframe -/
def p21 (fu : Nat) : (List (Int)) × (Unit) → Option ((Unit) × ((List (Int)) × ((List (Int)) × ((Int) × (Unit))))) := fun ⟨a, _⟩ =>
orK (E := ((List (Int)) × (Unit)) × (((List (Int)) × ((Int) × (((Bool) × (((Int) × ((Int) × (Unit))) × (Unit))) × (Unit)))) × (Unit)))
 (orK (E := ((List (Int)) × (Unit)) × (((List (Int)) × ((Int) × (((Bool) × (((Int) × ((Int) × (Unit))) × (Unit))) × (Unit)))) × (Unit)))
 (orK (E := ((Int) × (Unit)) × (((List (Int)) × ((Int) × (((Bool) × (((Int) × ((Int) × (Unit))) × (Unit))) × (Unit)))) × (Unit)))
 (Option.bind (p15_3 fu ((a, (0 : Int), (), ()), ())) fun ⟨⟨⟨c, f, ⟨h, ⟨i, j, _⟩, _⟩, _⟩, _⟩, k⟩ =>
 bif h then
 bif decide (k > (262144 : Int)) then
 Option.bind (p41_3 fu ((c, f, (true, (i, j, ()), dflt .unit), ()), (13 : Int), ())) fun ⟨⟨⟨l, m, ⟨n, ⟨o, q, _⟩, _⟩, _⟩, _⟩, _⟩ =>
 bif n then
 some (.inl ((k, ()), ((l, m, (true, (o, q, ()), dflt .unit), ()), ())))
 else
 some (.inl ((k, ()), ((l, m, zR0, ()), ())))
 else
 some (.inl ((k, ()), ((c, f, (true, (i, j, ()), dflt .unit), ()), ())))
 else
 bif decide (k > (262144 : Int)) then
 Option.bind (p41_3 fu ((c, f, zR0, ()), (13 : Int), ())) fun ⟨⟨⟨s, t, ⟨u, ⟨w, x, _⟩, _⟩, _⟩, _⟩, _⟩ =>
 bif u then
 some (.inl ((k, ()), ((s, t, (true, (w, x, ()), dflt .unit), ()), ())))
 else
 some (.inl ((k, ()), ((s, t, zR0, ()), ())))
 else
 some (.inl ((k, ()), ((c, f, zR0, ()), ()))))
 fun ⟨⟨y, _⟩, ⟨⟨z, a0, ⟨c0, ⟨f0, h0, _⟩, _⟩, _⟩, _⟩⟩ =>
 bif c0 then
 Option.bind (p45_5 fu ((z, a0, (true, (f0, h0, ()), dflt .unit), ()), IntKind.wrap .i64 y, ())) fun ⟨⟨⟨i0, j0, ⟨k0, ⟨l0, m0, _⟩, _⟩, _⟩, _⟩, n0⟩ =>
 bif k0 then
 bif eqL n0 then
 some (.inl ((n0, ()), ((i0, j0, (true, (l0, m0, ()), dflt .unit), ()), ())))
 else none
 else
 bif eqL n0 then
 some (.inl ((n0, ()), ((i0, j0, zR0, ()), ())))
 else none
 else
 Option.bind (p45_5 fu ((z, a0, zR0, ()), IntKind.wrap .i64 y, ())) fun ⟨⟨⟨o0, q0, ⟨s0, ⟨t0, u0, _⟩, _⟩, _⟩, _⟩, w0⟩ =>
 bif s0 then
 bif eqL w0 then
 some (.inl ((w0, ()), ((o0, q0, (true, (t0, u0, ()), dflt .unit), ()), ())))
 else none
 else
 bif eqL w0 then
 some (.inl ((w0, ()), ((o0, q0, zR0, ()), ())))
 else none)
 fun ⟨⟨x0, _⟩, ⟨⟨z, a0, ⟨c0, ⟨f0, h0, _⟩, _⟩, _⟩, _⟩⟩ =>
 bif c0 then
 Option.bind (p45_5 fu ((z, a0, (true, (f0, h0, ()), dflt .unit), ()), (4 : Int), ())) fun ⟨⟨⟨y0, z0, ⟨a1, ⟨c1, f1, _⟩, _⟩, _⟩, _⟩, h1⟩ =>
 bif a1 then
 bif eqL x0 then
 some (.inl ((x0, ()), ((y0, z0, (true, (c1, f1, ()), dflt .unit), ()), ())))
 else none
 else
 bif eqL h1 then
 Option.bind (p50 fu (h1, ())) fun ⟨_, i1⟩ =>
 bif eqL x0 then
 Option.bind (p24 fu (x0, ())) fun ⟨_, j1⟩ =>
 bif (i1 != j1) then
 Option.bind (p41_1 fu ((y0, z0, (), ()), (14 : Int), ())) fun ⟨⟨⟨k1, l1, ⟨m1, ⟨n1, o1, _⟩, _⟩, _⟩, _⟩, _⟩ =>
 bif m1 then
 bif eqL x0 then
 some (.inl ((x0, ()), ((k1, l1, (true, (n1, o1, ()), dflt .unit), ()), ())))
 else none
 else
 bif eqL x0 then
 some (.inl ((x0, ()), ((k1, l1, zR0, ()), ())))
 else none
 else
 bif eqL x0 then
 some (.inl ((x0, ()), ((y0, z0, zR0, ()), ())))
 else none
 else none
 else none
 else
 Option.bind (p45_5 fu ((z, a0, zR0, ()), (4 : Int), ())) fun ⟨⟨⟨q1, s1, ⟨t1, ⟨u1, w1, _⟩, _⟩, _⟩, _⟩, x1⟩ =>
 bif t1 then
 bif eqL x0 then
 some (.inl ((x0, ()), ((q1, s1, (true, (u1, w1, ()), dflt .unit), ()), ())))
 else none
 else
 bif eqL x1 then
 Option.bind (p50 fu (x1, ())) fun ⟨_, y1⟩ =>
 bif eqL x0 then
 Option.bind (p24 fu (x0, ())) fun ⟨_, z1⟩ =>
 bif (y1 != z1) then
 Option.bind (p41_1 fu ((q1, s1, (), ()), (14 : Int), ())) fun ⟨⟨⟨a2, c2, ⟨f2, ⟨h2, i2, _⟩, _⟩, _⟩, _⟩, _⟩ =>
 bif f2 then
 bif eqL x0 then
 some (.inl ((x0, ()), ((a2, c2, (true, (h2, i2, ()), dflt .unit), ()), ())))
 else none
 else
 bif eqL x0 then
 some (.inl ((x0, ()), ((a2, c2, zR0, ()), ())))
 else none
 else
 bif eqL x0 then
 some (.inl ((x0, ()), ((q1, s1, zR0, ()), ())))
 else none
 else none
 else none)
 fun ⟨⟨x0, _⟩, ⟨⟨z, a0, ⟨c0, ⟨f0, h0, _⟩, _⟩, _⟩, _⟩⟩ =>
bif c0 then
 Option.bind (p16_5 fu ((z, a0, (true, (f0, h0, ()), dflt .unit), ()), ())) fun ⟨⟨⟨j2, k2, ⟨l2, ⟨_, _, _⟩, _⟩, _⟩, _⟩, ⟨m2, _, _⟩⟩ =>
 bif l2 then
 bif (m2 != (0 : Int)) then
 some ((), ([], [], m2, ()))
 else
 bif decide ((0 : Int) ≤ k2) then
 bif decide (Int.toNat k2 ≤ List.length j2) then
 bif decide (List.length (slice' j2 (Int.toNat k2) none) ≤ maxLen ∧ List.length (slice' j2 (Int.toNat k2) none) * 1 ≤ 140737488355328) then
 bif eqL x0 then
 bif eqL (slice' j2 (Int.toNat k2) none) then
 some ((), (x0, slice' j2 (Int.toNat k2) none, (0 : Int), ()))
 else none
 else none
 else none
 else none
 else none
 else
 bif (m2 != (0 : Int)) then
 some ((), ([], [], m2, ()))
 else
 bif decide ((0 : Int) ≤ k2) then
 bif decide (Int.toNat k2 ≤ List.length j2) then
 bif decide (List.length (slice' j2 (Int.toNat k2) none) ≤ maxLen ∧ List.length (slice' j2 (Int.toNat k2) none) * 1 ≤ 140737488355328) then
 bif eqL x0 then
 bif eqL (slice' j2 (Int.toNat k2) none) then
 some ((), (x0, slice' j2 (Int.toNat k2) none, (0 : Int), ()))
 else none
 else none
 else none
 else none
 else none
else
 Option.bind (p16_5 fu ((z, a0, zR0, ()), ())) fun ⟨⟨⟨n2, o2, ⟨q2, ⟨_, _, _⟩, _⟩, _⟩, _⟩, ⟨s2, _, _⟩⟩ =>
 bif q2 then
 bif (s2 != (0 : Int)) then
 some ((), ([], [], s2, ()))
 else
 bif decide ((0 : Int) ≤ o2) then
 bif decide (Int.toNat o2 ≤ List.length n2) then
 bif decide (List.length (slice' n2 (Int.toNat o2) none) ≤ maxLen ∧ List.length (slice' n2 (Int.toNat o2) none) * 1 ≤ 140737488355328) then
 bif eqL x0 then
 bif eqL (slice' n2 (Int.toNat o2) none) then
 some ((), (x0, slice' n2 (Int.toNat o2) none, (0 : Int), ()))
 else none
 else none
 else none
 else none
 else none
 else
 bif (s2 != (0 : Int)) then
 some ((), ([], [], s2, ()))
 else
 bif decide ((0 : Int) ≤ o2) then
 bif decide (Int.toNat o2 ≤ List.length n2) then
 bif decide (List.length (slice' n2 (Int.toNat o2) none) ≤ maxLen ∧ List.length (slice' n2 (Int.toNat o2) none) * 1 ≤ 140737488355328) then
 bif eqL x0 then
 bif eqL (slice' n2 (Int.toNat o2) none) then
 some ((), (x0, slice' n2 (Int.toNat o2) none, (0 : Int), ()))
 else none
 else none
 else none
 else none
 else none
def e21 (fu : Nat) : Ent := ⟨21, (.cons (.hole (.sl (.int .u8))) .nil), .nil, (.tup 3 (.cons (.own .own 5 (.int .u8)) (.cons (.own .own 5 (.int .u8)) (.cons (.hole (.int .i64)) .nil)))), p21 fu⟩
def d21 (fu : Nat) : DC := (.seq (.region [opD 2 (.mov (.const vS)), opD 3 (.mov (.const vS)), opD 4 (.mov (cD 0))] [[], [0], [1]] false) (.seq (.region [mvD 12 0, opD 13 (.build 3 [vS, vI, .nilIface] [(0, (1, (tD 12)))]), opD 14 (.box 95 3 (tD 13)), mvD 5 14] [[], [0], [1], [2, 0, 1, 2]] false) (.seq (.region [opD 6 (.mov (.const vU))] [[]] false) (.seq (.region [opD 7 (.mov (.const vS)), opD 8 (.mov (.const vS))] [[], [0]] false) (.join ⟨[7], (.cons (.own .own 5 (.int .u8)) .nil), [(80, 95, 3)], (.cons Y7 .nil), [5], []⟩
 (.seq (.region [opD 9 (.mov (cD 0))] [[]] false) (.seq (.region [mvD 15 9] [[]] false) (.block 0 (.join ⟨[7], (.cons (.own .own 5 (.int .u8)) .nil), [(80, 95, 3)], (.cons Y7 .nil), [5], []⟩
 (.block 3 (.join ⟨[6], (.cons (.hole (.int .u64)) .nil), [(80, 95, 3)], (.cons Y7 .nil), [5], []⟩
 (.block 2 (.seq (.block 1 (.seq (.seq (.seq (.region [opD 17 (.bin .eql (tD 15) (cD 0)), mvD 16 17] [[], [0]] false) (.cond (.tmp 16) (.exit 1) .skip)) (.seq (.seq (.region [opD 19 (.bin .eql (tD 15) (cD 1)), mvD 18 19] [[], [0]] false) (.cond (.tmp 18) (.exit 2) .skip)) (.seq (.region [opD 21 (.bin .eql (tD 15) (cD 2)), mvD 20 21] [[], [0]] false) (.cond (.tmp 20) (.exit 3) .skip)))) (.exit 0))) (.seq (.region [mvD 22 5, oqD 23 (.call 15 [(tD 22)]) (.ent (e15_3 fu)), mvD 6 23] [[], [0], [1, 1, 0, 1]] false) (.seq (.region [mvD 24 6, opD 25 (.bin .gtr (tD 24) (.const (.int .u64 262144)))] [[], [0]] false) (.cond (.tmp 25) (.region [mvD 26 5, oqD 27 (.call 41 [(tD 26), (cD 13)]) (.ent (e41_3 fu))] [[], [0]] false) .skip)))))
 (.region [mvD 28 5, mvD 29 6, opD 30 (.conv .i64 (tD 29)), oqD 31 (.call 45 [(tD 28), (tD 30)]) (.ent (e45_5 fu)), mvD 7 31] [[], [], [1], [0, 2], [3, 3, 0, 1, 2, 3]] false)))
 (.seq (.seq (.region [mvD 32 5, oqD 33 (.call 45 [(tD 32), (cD 4)]) (.ent (e45_5 fu)), mvD 8 33] [[], [0], [1, 1, 0, 1]] false) (.seq (.region [mvD 34 5, opD 35 (.pure .nilc [(tD 34)]), opD 36 (.faddr 2 (tD 35)), opD 37 (.load false 1 (tD 36)), opD 38 (.pure (.nilq 1 false) [(tD 37)]), mvD 39 38, ogD 40 39 true (.mov (tD 8)), (⟨(some 41), (some (39, true)), (.call 50 [(tD 40)])⟩, (.ent (e50 fu))), ogD 42 39 true (.mov (tD 7)), (⟨(some 43), (some (39, true)), (.call 24 [(tD 42)])⟩, (.ent (e24 fu))), ogD 44 39 true (.bin .neq (tD 41) (tD 43)), opD 45 (.pick (tD 39) (tD 44) (.const vB))] [[], [0], [1], [2], [3], [4], [5], [6, 5, 5], [5], [8, 7, 5], [7, 9, 5], [5, 10]] false) (.cond (.tmp 45) (.region [mvD 46 5, oqD 47 (.call 41 [(tD 46), (cD 14)]) (.ent (e41_1 fu))] [[], [0]] false) .skip))) (.exit 0))))))
 (.seq (.seq (.region [mvD 49 5, oqD 50 (.call 16 [(tD 49)]) (.ent (e16_5 fu)), mvD 48 50, opD 51 (.ext (tD 48) 0), opD 52 (.ext (tD 48) 1), mvD 10 51, mvD 11 52] [[], [0], [1], [2], [2], [3, 1, 0, 1, 2, 3], [4, 5, 0, 1, 2, 3, 4, 5]] false) (.seq (.region [mvD 53 10, opD 54 (.bin .neq (tD 53) (cD 0))] [[], [0]] false) (.cond (.tmp 54) (.seq (.region [mvD 55 10, opD 2 (.mov (.const vS)), opD 3 (.mov (.const vS)), mvD 4 55] [[], [], [1, 1], [0, 2, 0, 1, 2]] false) .ret) .skip))) (.seq (.region [mvD 56 7, mvD 57 5, opD 58 (.pure .nilc [(tD 57)]), opD 59 (.faddr 0 (tD 58)), opD 60 (.load false 1 (tD 59)), mvD 61 5, opD 62 (.pure .nilc [(tD 61)]), opD 63 (.faddr 1 (tD 62)), opD 64 (.load false 1 (tD 63)), opD 65 (.slc 1 (tD 60) (some (tD 64)) none), oqD 66 (.app 5 1 [(.int .u8 0)] 1 (.const vS) (tD 65)) (.ty (.int .u8)), mvD 2 56, mvD 3 66, opD 4 (.mov (cD 0))] [[], [], [1], [2], [3], [], [5], [6], [7], [4, 8], [9], [0, 10, 0], [10, 11, 0, 1, 2, 3, 4, 5, 6, 7, 8, 9, 10, 11], [12, 0, 1, 2, 3, 4, 5, 6, 7, 8, 9, 10, 11, 12]] true) .ret)))))))
set_option maxRecDepth 1000000 in
theorem v21 (fu : Nat) : evF fu (d21 fu) rs21 67 (e21 fu).ash (e21 fu).osh (e21 fu).vsh = p21 fu := by kernel_rfl
set_option maxRecDepth 1000000 in
theorem b21 (fu : Nat) : BodyD Tryd.prog 21 67 (d21 fu).erase rs21 := bodyD_mk Tryd.func21 (by kernel_rfl) (by kernel_rfl) (by kernel_rfl) (by kernel_rfl)
theorem g21 (fu : Nat) : (e21 fu).Good Tryd.prog := good_by orders (b21 fu) (l := [e15_3 fu, e41_3 fu, e45_5 fu, e45_5 fu, e50 fu, e24 fu, e41_1 fu, e16_5 fu]) (by kernel_rfl) ⟨g15_3 fu, g41_3 fu, g45_5 fu, g45_5 fu, g50 fu, g24 fu, g41_1 fu, g16_5 fu, trivial⟩ (by kernel_rfl) (v21 fu)
def rs8 : List RVx := [(.tmp 6)]
/-- gazette/gazettelaw01.CodecBack -/
def p8 (fu : Nat) : (Z0) × ((List (Int)) × ((List (Int)) × (Unit))) → Option ((Unit) × (Bool)) := fun ⟨⟨a, c, f, h, i, j, k, l, m, n, o, q, s, t, u, w, x, _⟩, y, z, _⟩ =>
Option.bind (p11 fu ()) fun ⟨_, a0⟩ =>
Option.bind (p13 fu ((a, c, f, h, i, j, k, l, m, n, o, q, s, t, u, w, x, ()), ())) fun ⟨_, c0⟩ =>
bif eqL c0 then
 Option.bind (p20 fu (c0, ())) fun ⟨_, ⟨⟨f0, h0, i0, j0, k0, l0, m0, n0, o0, q0, s0, t0, u0, w0, x0, y0, z0, _⟩, a1, _⟩⟩ =>
 orK (E := (Unit) × (Unit))
 (orK (E := ((Bool) × (Unit)) × (Unit))
 (bif decide (((List.length c0) : Int) > (0 : Int)) then
 some (.inl (((a1 == (0 : Int)), ()), ()))
 else
 some (.inl ((false, ()), ())))
 fun ⟨⟨c1, _⟩, _⟩ =>
 bif c1 then
 Option.bind (p33 fu ((a, c, f, h, i, j, k, l, m, n, o, q, s, t, u, w, x, ()), ())) fun ⟨_, ⟨f1, h1, i1, j1, k1, l1, m1, n1, o1, q1, s1, t1, u1, w1, x1, y1, z1, _⟩⟩ =>
 Option.bind (p31 fu ((f0, h0, i0, j0, k0, l0, m0, n0, o0, q0, s0, t0, u0, w0, x0, y0, z0, ()), (f1, h1, i1, j1, k1, l1, m1, n1, o1, q1, s1, t1, u1, w1, x1, y1, z1, ()), ())) fun ⟨_, a2⟩ =>
 bif !a2 then
 inrO (some ((), false))
 else
 some (.inl ((), ()))
 else
 some (.inl ((), ())))
 fun ⟨_, _⟩ =>
 Option.bind (p20 fu (y, ())) fun ⟨_, ⟨⟨c2, f2, h2, i2, j2, k2, l2, m2, n2, o2, q2, s2, t2, u2, w2, x2, y2, _⟩, z2, _⟩⟩ =>
 orK (E := (Unit) × (Unit))
 (bif (z2 == (0 : Int)) then
 Option.bind (p13 fu ((c2, f2, h2, i2, j2, k2, l2, m2, n2, o2, q2, s2, t2, u2, w2, x2, y2, ()), ())) fun ⟨_, a3⟩ =>
 bif eqL a3 then
 bif !(ByteArray.toList (strOfNums a3) == ByteArray.toList (strOfNums y)) then
 inrO (some ((), false))
 else
 some (.inl ((), ()))
 else none
 else
 some (.inl ((), ())))
 fun ⟨_, _⟩ =>
 Option.bind (p12 fu (y, ())) fun ⟨_, c3⟩ =>
 bif decide (0 = List.length ([] : List (Int))) then
 bif eqL c3 then
 bif decide (List.length ([] : List (Int)) + List.length c3 ≤ maxLen ∧ (List.length ([] : List (Int)) + List.length c3) * 1 ≤ 140737488355328) then
 bif eqL (([] : List (Int)) ++ c3) then
 bif decide (List.length (([] : List (Int)) ++ c3) + List.length z ≤ maxLen ∧ (List.length (([] : List (Int)) ++ c3) + List.length z) * 1 ≤ 140737488355328) then
 bif eqL ((([] : List (Int)) ++ c3) ++ z) then
 Option.bind (p21 fu (((([] : List (Int)) ++ c3) ++ z), ())) fun ⟨_, ⟨f3, h3, i3, _⟩⟩ =>
 orK (E := (Unit) × (Unit))
 (bif decide ((List.length y : Int) ≤ (262144 : Int)) then
 bif (i3 != (0 : Int)) then
 inrO (some ((), false))
 else
 bif eqL f3 then
 bif !(ByteArray.toList (strOfNums f3) == ByteArray.toList (strOfNums y)) then
 inrO (some ((), false))
 else
 bif eqL h3 then
 bif !(ByteArray.toList (strOfNums h3) == ByteArray.toList (strOfNums z)) then
 inrO (some ((), false))
 else
 some (.inl ((), ()))
 else none
 else none
 else
 some (.inl ((), ())))
 fun ⟨_, _⟩ =>
 Option.bind (p21 fu (y, ())) fun ⟨_, ⟨j3, k3, l3, _⟩⟩ =>
 bif a0 then
 bif (l3 != (0 : Int)) then
 some ((), true)
 else
 bif eqL j3 then
 Option.bind (p12 fu (j3, ())) fun ⟨_, m3⟩ =>
 bif eqL m3 then
 bif eqL k3 then
 bif decide (ByteArray.size (strOfNums m3) + ByteArray.size (strOfNums k3) ≤ 9223372036854775807) then
 some ((), ByteArray.toList ((strOfNums m3) ++ (strOfNums k3)) == ByteArray.toList (strOfNums y))
 else none
 else none
 else none
 else none
 else
 some ((), false)
 else none
 else none
 else none
 else none
 else none
 else none
else none
def e8 (fu : Nat) : Ent := ⟨8, (.cons Y4 (.cons (.hole (.sl (.int .u8))) (.cons (.hole (.sl (.int .u8))) .nil))), .nil, (.hole .bool), p8 fu⟩
def d8 (fu : Nat) : DC := (.seq (.region [opD 3 (.box 39 17 (tD 0)), opD 6 (.mov (.const vB))] [[], []] false) (.seq (.region [oqD 18 (.call 11 []) (.ent (e11 fu)), mvD 7 18] [[], [0, 0, 0]] false) (.seq (.region [opD 19 (.load true 17 (tD 3)), oqD 20 (.call 13 [(tD 19)]) (.ent (e13 fu)), mvD 8 20] [[], [0], [1, 1, 0, 1]] false) (.seq (.region [mvD 22 8, oqD 23 (.call 20 [(tD 22)]) (.ent (e20 fu)), mvD 21 23, opD 24 (.ext (tD 21) 0), opD 25 (.ext (tD 21) 1), opD 9 (.alloc 39 17 [vI, vU, vU, vU, vI, vS, vS, vS, vU, vI, vU, vU, vU, vU, vS, vS, vS]), onD (.store 17 (tD 9) (tD 24)), mvD 10 25] [[], [0], [1], [2], [2], [], [5, 3, 1, 0, 1, 2, 3, 5], [4, 6, 0, 1, 2, 3, 4, 5, 6]] false) (.join ⟨[], .nil, [], .nil, [1, 2, 7], []⟩
 (.join ⟨[32], (.cons (.hole .bool) .nil), [], .nil, [1, 2, 3, 7, 9], [0, 192]⟩
 (.region [mvD 26 8, opD 27 (.len false (tD 26)), opD 28 (.bin .gtr (tD 27) (cD 0)), mvD 29 28, ogD 30 29 true (.mov (tD 10)), ogD 31 29 true (.bin .eql (tD 30) (cD 0)), opD 32 (.pick (tD 29) (tD 31) (.const vB))] [[], [0], [1], [2], [3], [4, 3], [3, 5]] false)
 (.cond (.tmp 32) (.seq (.region [opD 33 (.load true 17 (tD 9)), opD 34 (.load true 17 (tD 3)), oqD 35 (.call 33 [(tD 34)]) (.ent (e33 fu)), oqD 36 (.call 31 [(tD 33), (tD 35)]) (.ent (e31 fu)), mvD 11 36] [[], [], [1], [0, 2, 2], [3, 3, 0, 1, 2, 3]] true) (.seq (.region [mvD 37 11, opD 38 (.not (tD 37))] [[], [0]] false) (.cond (.tmp 38) (.seq (.region [opD 6 (.mov (.const vB))] [[]] false) .ret) .skip))) .skip))
 (.seq (.region [mvD 40 1, oqD 41 (.call 20 [(tD 40)]) (.ent (e20 fu)), mvD 39 41, opD 42 (.ext (tD 39) 0), opD 43 (.ext (tD 39) 1), opD 12 (.alloc 39 17 [vI, vU, vU, vU, vI, vS, vS, vS, vU, vI, vU, vU, vU, vU, vS, vS, vS]), onD (.store 17 (tD 12) (tD 42)), mvD 13 43] [[], [0], [1], [2], [2], [], [5, 3, 1, 0, 1, 2, 3, 5], [4, 6, 0, 1, 2, 3, 4, 5, 6]] false) (.join ⟨[], .nil, [], .nil, [1, 2, 7], []⟩
 (.seq (.region [mvD 44 13, opD 45 (.bin .eql (tD 44) (cD 0)), mvD 46 45, ogD 47 46 true (.load true 17 (tD 12)), (⟨(some 48), (some (46, true)), (.call 13 [(tD 47)])⟩, (.ent (e13 fu))), ogD 49 46 true (.b2s (tD 48)), ogD 50 46 true (.mov (tD 1)), ogD 51 46 true (.b2s (tD 50)), ogD 52 46 true (.bin .neq (tD 49) (tD 51)), opD 53 (.pick (tD 46) (tD 52) (.const vB))] [[], [0], [1], [2], [3, 2, 2], [4, 2], [2], [6, 2], [5, 7, 2], [2, 8]] true) (.cond (.tmp 53) (.seq (.region [opD 6 (.mov (.const vB))] [[]] false) .ret) .skip))
 (.seq (.region [mvD 54 1, oqD 55 (.call 12 [(tD 54)]) (.ent (e12 fu)), mvD 14 55] [[], [0], [1, 1, 0, 1]] false) (.seq (.region [oqD 57 (.bslice 5 1 0 [(.int .u8 0)] []) (.ty (.int .u8)), mvD 58 14, oqD 59 (.app 5 1 [(.int .u8 0)] 1 (tD 57) (tD 58)) (.ty (.int .u8)), mvD 60 2, oqD 61 (.app 5 1 [(.int .u8 0)] 1 (tD 59) (tD 60)) (.ty (.int .u8)), oqD 62 (.call 21 [(tD 61)]) (.ent (e21 fu)), mvD 56 62, opD 63 (.ext (tD 56) 0), opD 64 (.ext (tD 56) 1), opD 65 (.ext (tD 56) 2), mvD 15 63, mvD 16 64, mvD 17 65] [[], [], [0, 1], [], [2, 3, 2], [4, 4], [5], [6], [6], [6], [7, 5, 0, 1, 2, 3, 4, 5, 6, 7], [8, 10, 0, 1, 2, 3, 4, 5, 6, 7, 8, 10], [9, 11, 0, 1, 2, 3, 4, 5, 6, 7, 8, 9, 10, 11]] false) (.join ⟨[], .nil, [], .nil, [1, 7], []⟩
 (.seq (.region [mvD 66 1, opD 67 (.len false (tD 66)), opD 68 (.bin .leq (tD 67) (cD 262144)), mvD 69 68, ogD 70 69 true (.mov (tD 17)), ogD 71 69 true (.bin .neq (tD 70) (cD 0)), ogD 72 69 true (.mov (tD 71)), ogD 73 72 false (.mov (tD 15)), ogD 74 72 false (.b2s (tD 73)), ogD 75 72 false (.mov (tD 1)), ogD 76 72 false (.b2s (tD 75)), ogD 77 72 false (.bin .neq (tD 74) (tD 76)), ogD 78 69 true (.pick (tD 72) (.const (.bool true)) (tD 77)), ogD 79 69 true (.mov (tD 78)), ogD 80 79 false (.mov (tD 16)), ogD 81 79 false (.b2s (tD 80)), ogD 82 79 false (.mov (tD 2)), ogD 83 79 false (.b2s (tD 82)), ogD 84 79 false (.bin .neq (tD 81) (tD 83)), ogD 85 69 true (.pick (tD 79) (.const (.bool true)) (tD 84)), opD 86 (.pick (tD 69) (tD 85) (.const vB))] [[], [0], [1], [2], [3], [4, 3], [5, 3, 3], [6], [7, 6], [6], [9, 6], [8, 10, 6], [6, 11, 3], [12, 6, 3], [13], [14, 13], [13], [16, 13], [15, 17, 13], [13, 18, 3], [3, 19]] false) (.cond (.tmp 86) (.seq (.region [opD 6 (.mov (.const vB))] [[]] false) .ret) .skip))
 (.seq (.region [mvD 88 1, oqD 89 (.call 21 [(tD 88)]) (.ent (e21 fu)), mvD 87 89, opD 90 (.ext (tD 87) 0), opD 91 (.ext (tD 87) 1), opD 92 (.ext (tD 87) 2), mvD 15 90, mvD 16 91, mvD 17 92] [[], [0], [1], [2], [2], [2], [3, 1, 0, 1, 2, 3], [4, 6, 0, 1, 2, 3, 4, 6], [5, 7, 0, 1, 2, 3, 4, 5, 6, 7]] false) (.seq (.region [mvD 93 7, mvD 94 93, ogD 95 94 true (.mov (tD 17)), ogD 96 94 true (.bin .neq (tD 95) (cD 0)), ogD 97 94 true (.mov (tD 96)), ogD 98 97 false (.mov (tD 15)), (⟨(some 99), (some (97, false)), (.call 12 [(tD 98)])⟩, (.ent (e12 fu))), ogD 100 97 false (.b2s (tD 99)), ogD 101 97 false (.mov (tD 16)), ogD 102 97 false (.b2s (tD 101)), ogD 103 97 false (.bin .add (tD 100) (tD 102)), ogD 104 97 false (.mov (tD 1)), ogD 105 97 false (.b2s (tD 104)), ogD 106 97 false (.bin .eql (tD 103) (tD 105)), ogD 107 94 true (.pick (tD 97) (.const (.bool true)) (tD 106)), opD 108 (.pick (tD 94) (tD 107) (.const vB)), mvD 6 108] [[], [0], [1], [2, 1], [3, 1, 1], [4], [5, 4, 4], [6, 4], [4], [8, 4], [7, 9, 4], [4], [11, 4], [10, 12, 4], [4, 13, 1], [1, 14], [15, 6, 0, 1, 2, 3, 4, 5, 6, 7, 8, 9, 10, 11, 12, 13, 14, 15]] true) .ret))))))))))))
set_option maxRecDepth 1000000 in
theorem v8 (fu : Nat) : evF fu (d8 fu) rs8 109 (e8 fu).ash (e8 fu).osh (e8 fu).vsh = p8 fu := by kernel_rfl
set_option maxRecDepth 1000000 in
theorem b8 (fu : Nat) : BodyD Tryd.prog 8 109 (d8 fu).erase rs8 := bodyD_mk Tryd.func8 (by kernel_rfl) (by kernel_rfl) (by kernel_rfl) (by kernel_rfl)
theorem g8 (fu : Nat) : (e8 fu).Good Tryd.prog := good_by orders (b8 fu) (l := [e11 fu, e13 fu, e20 fu, e33 fu, e31 fu, e20 fu, e13 fu, e12 fu, e21 fu, e21 fu, e12 fu]) (by kernel_rfl) ⟨g11 fu, g13 fu, g20 fu, g33 fu, g31 fu, g20 fu, g13 fu, g12 fu, g21 fu, g21 fu, g12 fu, trivial⟩ (by kernel_rfl) (v8 fu)
end Go.Proofs.YtfhdpeceppafiaaDoor
