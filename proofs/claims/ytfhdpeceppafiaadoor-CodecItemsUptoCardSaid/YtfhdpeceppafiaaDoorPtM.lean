/-
  The functions, typed, continued.
-/
import Derived.Test.YtfhdpeceppafiaaDoorPtMA
namespace Go.Proofs.YtfhdpeceppafiaaDoor
open Go.RowKit
def rs20 : List RVx := [(.cell 2 true 17), (.tmp 3)]
/-- gazette/codec.ReadItem -/
def p20 (fu : Nat) : (List (Int)) × (Unit) → Option ((Unit) × ((Z0) × ((Int) × (Unit)))) := fun ⟨a, _⟩ =>
Option.bind (p14 fu (a, ())) fun ⟨_, ⟨c, f, _, _⟩⟩ =>
bif eqL c then
 Option.bind (p46 fu ((c, f, (), ()), ())) fun ⟨⟨⟨h, i, ⟨j, ⟨k, l, _⟩, _⟩, _⟩, _, _⟩, m⟩ =>
 bif j then
 bif eqL h then
 Option.bind (p15_2 fu ((h, i, (true, (k, l, ()), dflt .unit), ()), ())) fun ⟨⟨⟨n, o, ⟨q, ⟨s, t, _⟩, _⟩, _⟩, _, _⟩, u⟩ =>
 bif q then
 orK (E := (Unit) × (((List (Int)) × ((Int) × (((Bool) × (((Int) × ((Int) × (Unit))) × (Unit))) × (Unit)))) × ((Z0) × (Unit))))
 (bif (m == (1 : Int)) then
 bif eqL n then
 Option.bind (p47_2 fu ((n, o, (true, (s, t, ()), dflt .unit), ()), ())) fun ⟨⟨⟨w, x, ⟨y, ⟨z, a0, _⟩, _⟩, _⟩, _, _⟩, ⟨c0, f0, h0, i0, j0, k0, _⟩⟩ =>
 bif y then
 bif eqL w then
 some (.inl ((), ((w, x, (true, (z, a0, ()), dflt .unit), ()), (m, u, c0, f0, h0, i0, j0, k0, (0 : Int), (0 : Int), (0 : Int), (0 : Int), (0 : Int), (0 : Int), [], [], [], ()), ())))
 else none
 else
 bif eqL w then
 some (.inl ((), ((w, x, zR0, ()), (m, u, c0, f0, h0, i0, j0, k0, (0 : Int), (0 : Int), (0 : Int), (0 : Int), (0 : Int), (0 : Int), [], [], [], ()), ())))
 else none
 else none
 else
 bif (m == (2 : Int)) then
 bif eqL n then
 Option.bind (p15_2 fu ((n, o, (true, (s, t, ()), dflt .unit), ()), ())) fun ⟨⟨⟨l0, m0, ⟨n0, ⟨o0, q0, _⟩, _⟩, _⟩, _, _⟩, s0⟩ =>
 bif n0 then
 bif eqL l0 then
 Option.bind (p48_2 fu ((l0, m0, (true, (o0, q0, ()), dflt .unit), ()), ())) fun ⟨⟨⟨t0, u0, ⟨w0, ⟨x0, y0, _⟩, _⟩, _⟩, _, _⟩, z0⟩ =>
 bif w0 then
 bif eqL t0 then
 Option.bind (p15_2 fu ((t0, u0, (true, (x0, y0, ()), dflt .unit), ()), ())) fun ⟨⟨⟨a1, c1, ⟨f1, ⟨h1, i1, _⟩, _⟩, _⟩, _, _⟩, j1⟩ =>
 bif f1 then
 bif eqL a1 then
 some (.inl ((), ((a1, c1, (true, (h1, i1, ()), dflt .unit), ()), (m, u, (0 : Int), (0 : Int), (0 : Int), [], [], [], s0, z0, j1, (0 : Int), (0 : Int), (0 : Int), [], [], [], ()), ())))
 else none
 else
 bif eqL a1 then
 some (.inl ((), ((a1, c1, zR0, ()), (m, u, (0 : Int), (0 : Int), (0 : Int), [], [], [], s0, z0, j1, (0 : Int), (0 : Int), (0 : Int), [], [], [], ()), ())))
 else none
 else none
 else
 bif eqL t0 then
 Option.bind (p15_2 fu ((t0, u0, zR0, ()), ())) fun ⟨⟨⟨k1, l1, ⟨m1, ⟨n1, o1, _⟩, _⟩, _⟩, _, _⟩, q1⟩ =>
 bif m1 then
 bif eqL k1 then
 some (.inl ((), ((k1, l1, (true, (n1, o1, ()), dflt .unit), ()), (m, u, (0 : Int), (0 : Int), (0 : Int), [], [], [], s0, z0, q1, (0 : Int), (0 : Int), (0 : Int), [], [], [], ()), ())))
 else none
 else
 bif eqL k1 then
 some (.inl ((), ((k1, l1, zR0, ()), (m, u, (0 : Int), (0 : Int), (0 : Int), [], [], [], s0, z0, q1, (0 : Int), (0 : Int), (0 : Int), [], [], [], ()), ())))
 else none
 else none
 else none
 else
 bif eqL l0 then
 Option.bind (p48_2 fu ((l0, m0, zR0, ()), ())) fun ⟨⟨⟨s1, t1, ⟨u1, ⟨w1, x1, _⟩, _⟩, _⟩, _, _⟩, y1⟩ =>
 bif u1 then
 bif eqL s1 then
 Option.bind (p15_2 fu ((s1, t1, (true, (w1, x1, ()), dflt .unit), ()), ())) fun ⟨⟨⟨z1, a2, ⟨c2, ⟨f2, h2, _⟩, _⟩, _⟩, _, _⟩, i2⟩ =>
 bif c2 then
 bif eqL z1 then
 some (.inl ((), ((z1, a2, (true, (f2, h2, ()), dflt .unit), ()), (m, u, (0 : Int), (0 : Int), (0 : Int), [], [], [], s0, y1, i2, (0 : Int), (0 : Int), (0 : Int), [], [], [], ()), ())))
 else none
 else
 bif eqL z1 then
 some (.inl ((), ((z1, a2, zR0, ()), (m, u, (0 : Int), (0 : Int), (0 : Int), [], [], [], s0, y1, i2, (0 : Int), (0 : Int), (0 : Int), [], [], [], ()), ())))
 else none
 else none
 else
 bif eqL s1 then
 Option.bind (p15_2 fu ((s1, t1, zR0, ()), ())) fun ⟨⟨⟨j2, k2, ⟨l2, ⟨m2, n2, _⟩, _⟩, _⟩, _, _⟩, o2⟩ =>
 bif l2 then
 bif eqL j2 then
 some (.inl ((), ((j2, k2, (true, (m2, n2, ()), dflt .unit), ()), (m, u, (0 : Int), (0 : Int), (0 : Int), [], [], [], s0, y1, o2, (0 : Int), (0 : Int), (0 : Int), [], [], [], ()), ())))
 else none
 else
 bif eqL j2 then
 some (.inl ((), ((j2, k2, zR0, ()), (m, u, (0 : Int), (0 : Int), (0 : Int), [], [], [], s0, y1, o2, (0 : Int), (0 : Int), (0 : Int), [], [], [], ()), ())))
 else none
 else none
 else none
 else none
 else
 bif (m == (3 : Int)) then
 bif eqL n then
 Option.bind (p15_2 fu ((n, o, (true, (s, t, ()), dflt .unit), ()), ())) fun ⟨⟨⟨q2, s2, ⟨t2, ⟨u2, w2, _⟩, _⟩, _⟩, _, _⟩, x2⟩ =>
 bif t2 then
 bif eqL q2 then
 some (.inl ((), ((q2, s2, (true, (u2, w2, ()), dflt .unit), ()), (m, u, (0 : Int), (0 : Int), (0 : Int), [], [], [], (0 : Int), (0 : Int), (0 : Int), x2, (0 : Int), (0 : Int), [], [], [], ()), ())))
 else none
 else
 bif eqL q2 then
 some (.inl ((), ((q2, s2, zR0, ()), (m, u, (0 : Int), (0 : Int), (0 : Int), [], [], [], (0 : Int), (0 : Int), (0 : Int), x2, (0 : Int), (0 : Int), [], [], [], ()), ())))
 else none
 else none
 else
 bif (m == (4 : Int)) then
 bif eqL n then
 Option.bind (p49_2 fu ((n, o, (true, (s, t, ()), dflt .unit), ()), ())) fun ⟨⟨⟨y2, z2, ⟨a3, ⟨c3, f3, _⟩, _⟩, _⟩, _, _⟩, ⟨h3, i3, j3, k3, l3, _⟩⟩ =>
 bif a3 then
 bif eqL y2 then
 some (.inl ((), ((y2, z2, (true, (c3, f3, ()), dflt .unit), ()), (m, u, (0 : Int), (0 : Int), (0 : Int), [], [], [], (0 : Int), (0 : Int), (0 : Int), (0 : Int), h3, i3, j3, k3, l3, ()), ())))
 else none
 else
 bif eqL y2 then
 some (.inl ((), ((y2, z2, zR0, ()), (m, u, (0 : Int), (0 : Int), (0 : Int), [], [], [], (0 : Int), (0 : Int), (0 : Int), (0 : Int), h3, i3, j3, k3, l3, ()), ())))
 else none
 else none
 else
 bif eqL n then
 some (.inl ((), ((n, o, (true, (s, t, ()), dflt .unit), ()), (m, u, (0 : Int), (0 : Int), (0 : Int), [], [], [], (0 : Int), (0 : Int), (0 : Int), (0 : Int), (0 : Int), (0 : Int), [], [], [], ()), ())))
 else none)
 fun ⟨_, ⟨⟨m3, n3, ⟨o3, ⟨q3, s3, _⟩, _⟩, _⟩, ⟨t3, u3, w3, x3, y3, z3, a4, c4, f4, h4, i4, j4, k4, l4, m4, n4, o4, _⟩, _⟩⟩ =>
 bif o3 then
 bif eqL m3 then
 Option.bind (p19_2 fu ((m3, n3, (true, (q3, s3, ()), dflt .unit), ()), ())) fun ⟨⟨⟨_, _, ⟨q4, ⟨_, _, _⟩, _⟩, _⟩, _, _⟩, s4⟩ =>
 bif q4 then
 bif (s4 != (0 : Int)) then
 some ((), (((0 : Int), (0 : Int), (0 : Int), (0 : Int), (0 : Int), [], [], [], (0 : Int), (0 : Int), (0 : Int), (0 : Int), (0 : Int), (0 : Int), [], [], [], ()), s4, ()))
 else
 some ((), ((t3, u3, w3, x3, y3, z3, a4, c4, f4, h4, i4, j4, k4, l4, m4, n4, o4, ()), (0 : Int), ()))
 else
 bif (s4 != (0 : Int)) then
 some ((), (((0 : Int), (0 : Int), (0 : Int), (0 : Int), (0 : Int), [], [], [], (0 : Int), (0 : Int), (0 : Int), (0 : Int), (0 : Int), (0 : Int), [], [], [], ()), s4, ()))
 else
 some ((), ((t3, u3, w3, x3, y3, z3, a4, c4, f4, h4, i4, j4, k4, l4, m4, n4, o4, ()), (0 : Int), ()))
 else none
 else
 bif eqL m3 then
 Option.bind (p19_2 fu ((m3, n3, zR0, ()), ())) fun ⟨⟨⟨_, _, ⟨t4, ⟨_, _, _⟩, _⟩, _⟩, _, _⟩, u4⟩ =>
 bif t4 then
 bif (u4 != (0 : Int)) then
 some ((), (((0 : Int), (0 : Int), (0 : Int), (0 : Int), (0 : Int), [], [], [], (0 : Int), (0 : Int), (0 : Int), (0 : Int), (0 : Int), (0 : Int), [], [], [], ()), u4, ()))
 else
 some ((), ((t3, u3, w3, x3, y3, z3, a4, c4, f4, h4, i4, j4, k4, l4, m4, n4, o4, ()), (0 : Int), ()))
 else
 bif (u4 != (0 : Int)) then
 some ((), (((0 : Int), (0 : Int), (0 : Int), (0 : Int), (0 : Int), [], [], [], (0 : Int), (0 : Int), (0 : Int), (0 : Int), (0 : Int), (0 : Int), [], [], [], ()), u4, ()))
 else
 some ((), ((t3, u3, w3, x3, y3, z3, a4, c4, f4, h4, i4, j4, k4, l4, m4, n4, o4, ()), (0 : Int), ()))
 else none
 else
 orK (E := (Unit) × (((List (Int)) × ((Int) × (((Bool) × (((Int) × ((Int) × (Unit))) × (Unit))) × (Unit)))) × ((Z0) × (Unit))))
 (bif (m == (1 : Int)) then
 bif eqL n then
 Option.bind (p47_2 fu ((n, o, zR0, ()), ())) fun ⟨⟨⟨w4, x4, ⟨y4, ⟨z4, a5, _⟩, _⟩, _⟩, _, _⟩, ⟨c5, f5, h5, i5, j5, k5, _⟩⟩ =>
 bif y4 then
 bif eqL w4 then
 some (.inl ((), ((w4, x4, (true, (z4, a5, ()), dflt .unit), ()), (m, u, c5, f5, h5, i5, j5, k5, (0 : Int), (0 : Int), (0 : Int), (0 : Int), (0 : Int), (0 : Int), [], [], [], ()), ())))
 else none
 else
 bif eqL w4 then
 some (.inl ((), ((w4, x4, zR0, ()), (m, u, c5, f5, h5, i5, j5, k5, (0 : Int), (0 : Int), (0 : Int), (0 : Int), (0 : Int), (0 : Int), [], [], [], ()), ())))
 else none
 else none
 else
 bif (m == (2 : Int)) then
 bif eqL n then
 Option.bind (p15_2 fu ((n, o, zR0, ()), ())) fun ⟨⟨⟨l5, m5, ⟨n5, ⟨o5, q5, _⟩, _⟩, _⟩, _, _⟩, s5⟩ =>
 bif n5 then
 bif eqL l5 then
 Option.bind (p48_2 fu ((l5, m5, (true, (o5, q5, ()), dflt .unit), ()), ())) fun ⟨⟨⟨t5, u5, ⟨w5, ⟨x5, y5, _⟩, _⟩, _⟩, _, _⟩, z5⟩ =>
 bif w5 then
 bif eqL t5 then
 Option.bind (p15_2 fu ((t5, u5, (true, (x5, y5, ()), dflt .unit), ()), ())) fun ⟨⟨⟨a6, c6, ⟨f6, ⟨h6, i6, _⟩, _⟩, _⟩, _, _⟩, j6⟩ =>
 bif f6 then
 bif eqL a6 then
 some (.inl ((), ((a6, c6, (true, (h6, i6, ()), dflt .unit), ()), (m, u, (0 : Int), (0 : Int), (0 : Int), [], [], [], s5, z5, j6, (0 : Int), (0 : Int), (0 : Int), [], [], [], ()), ())))
 else none
 else
 bif eqL a6 then
 some (.inl ((), ((a6, c6, zR0, ()), (m, u, (0 : Int), (0 : Int), (0 : Int), [], [], [], s5, z5, j6, (0 : Int), (0 : Int), (0 : Int), [], [], [], ()), ())))
 else none
 else none
 else
 bif eqL t5 then
 Option.bind (p15_2 fu ((t5, u5, zR0, ()), ())) fun ⟨⟨⟨k6, l6, ⟨m6, ⟨n6, o6, _⟩, _⟩, _⟩, _, _⟩, q6⟩ =>
 bif m6 then
 bif eqL k6 then
 some (.inl ((), ((k6, l6, (true, (n6, o6, ()), dflt .unit), ()), (m, u, (0 : Int), (0 : Int), (0 : Int), [], [], [], s5, z5, q6, (0 : Int), (0 : Int), (0 : Int), [], [], [], ()), ())))
 else none
 else
 bif eqL k6 then
 some (.inl ((), ((k6, l6, zR0, ()), (m, u, (0 : Int), (0 : Int), (0 : Int), [], [], [], s5, z5, q6, (0 : Int), (0 : Int), (0 : Int), [], [], [], ()), ())))
 else none
 else none
 else none
 else
 bif eqL l5 then
 Option.bind (p48_2 fu ((l5, m5, zR0, ()), ())) fun ⟨⟨⟨s6, t6, ⟨u6, ⟨w6, x6, _⟩, _⟩, _⟩, _, _⟩, y6⟩ =>
 bif u6 then
 bif eqL s6 then
 Option.bind (p15_2 fu ((s6, t6, (true, (w6, x6, ()), dflt .unit), ()), ())) fun ⟨⟨⟨z6, a7, ⟨c7, ⟨f7, h7, _⟩, _⟩, _⟩, _, _⟩, i7⟩ =>
 bif c7 then
 bif eqL z6 then
 some (.inl ((), ((z6, a7, (true, (f7, h7, ()), dflt .unit), ()), (m, u, (0 : Int), (0 : Int), (0 : Int), [], [], [], s5, y6, i7, (0 : Int), (0 : Int), (0 : Int), [], [], [], ()), ())))
 else none
 else
 bif eqL z6 then
 some (.inl ((), ((z6, a7, zR0, ()), (m, u, (0 : Int), (0 : Int), (0 : Int), [], [], [], s5, y6, i7, (0 : Int), (0 : Int), (0 : Int), [], [], [], ()), ())))
 else none
 else none
 else
 bif eqL s6 then
 Option.bind (p15_2 fu ((s6, t6, zR0, ()), ())) fun ⟨⟨⟨j7, k7, ⟨l7, ⟨m7, n7, _⟩, _⟩, _⟩, _, _⟩, o7⟩ =>
 bif l7 then
 bif eqL j7 then
 some (.inl ((), ((j7, k7, (true, (m7, n7, ()), dflt .unit), ()), (m, u, (0 : Int), (0 : Int), (0 : Int), [], [], [], s5, y6, o7, (0 : Int), (0 : Int), (0 : Int), [], [], [], ()), ())))
 else none
 else
 bif eqL j7 then
 some (.inl ((), ((j7, k7, zR0, ()), (m, u, (0 : Int), (0 : Int), (0 : Int), [], [], [], s5, y6, o7, (0 : Int), (0 : Int), (0 : Int), [], [], [], ()), ())))
 else none
 else none
 else none
 else none
 else
 bif (m == (3 : Int)) then
 bif eqL n then
 Option.bind (p15_2 fu ((n, o, zR0, ()), ())) fun ⟨⟨⟨q7, s7, ⟨t7, ⟨u7, w7, _⟩, _⟩, _⟩, _, _⟩, x7⟩ =>
 bif t7 then
 bif eqL q7 then
 some (.inl ((), ((q7, s7, (true, (u7, w7, ()), dflt .unit), ()), (m, u, (0 : Int), (0 : Int), (0 : Int), [], [], [], (0 : Int), (0 : Int), (0 : Int), x7, (0 : Int), (0 : Int), [], [], [], ()), ())))
 else none
 else
 bif eqL q7 then
 some (.inl ((), ((q7, s7, zR0, ()), (m, u, (0 : Int), (0 : Int), (0 : Int), [], [], [], (0 : Int), (0 : Int), (0 : Int), x7, (0 : Int), (0 : Int), [], [], [], ()), ())))
 else none
 else none
 else
 bif (m == (4 : Int)) then
 bif eqL n then
 Option.bind (p49_2 fu ((n, o, zR0, ()), ())) fun ⟨⟨⟨y7, z7, ⟨a8, ⟨c8, f8, _⟩, _⟩, _⟩, _, _⟩, ⟨h8, i8, j8, k8, l8, _⟩⟩ =>
 bif a8 then
 bif eqL y7 then
 some (.inl ((), ((y7, z7, (true, (c8, f8, ()), dflt .unit), ()), (m, u, (0 : Int), (0 : Int), (0 : Int), [], [], [], (0 : Int), (0 : Int), (0 : Int), (0 : Int), h8, i8, j8, k8, l8, ()), ())))
 else none
 else
 bif eqL y7 then
 some (.inl ((), ((y7, z7, zR0, ()), (m, u, (0 : Int), (0 : Int), (0 : Int), [], [], [], (0 : Int), (0 : Int), (0 : Int), (0 : Int), h8, i8, j8, k8, l8, ()), ())))
 else none
 else none
 else
 bif eqL n then
 some (.inl ((), ((n, o, zR0, ()), (m, u, (0 : Int), (0 : Int), (0 : Int), [], [], [], (0 : Int), (0 : Int), (0 : Int), (0 : Int), (0 : Int), (0 : Int), [], [], [], ()), ())))
 else none)
 fun ⟨_, ⟨⟨m3, n3, ⟨o3, ⟨q3, s3, _⟩, _⟩, _⟩, ⟨t3, u3, w3, x3, y3, z3, a4, c4, f4, h4, i4, j4, k4, l4, m4, n4, o4, _⟩, _⟩⟩ =>
 bif o3 then
 bif eqL m3 then
 Option.bind (p19_2 fu ((m3, n3, (true, (q3, s3, ()), dflt .unit), ()), ())) fun ⟨⟨⟨_, _, ⟨m8, ⟨_, _, _⟩, _⟩, _⟩, _, _⟩, n8⟩ =>
 bif m8 then
 bif (n8 != (0 : Int)) then
 some ((), (((0 : Int), (0 : Int), (0 : Int), (0 : Int), (0 : Int), [], [], [], (0 : Int), (0 : Int), (0 : Int), (0 : Int), (0 : Int), (0 : Int), [], [], [], ()), n8, ()))
 else
 some ((), ((t3, u3, w3, x3, y3, z3, a4, c4, f4, h4, i4, j4, k4, l4, m4, n4, o4, ()), (0 : Int), ()))
 else
 bif (n8 != (0 : Int)) then
 some ((), (((0 : Int), (0 : Int), (0 : Int), (0 : Int), (0 : Int), [], [], [], (0 : Int), (0 : Int), (0 : Int), (0 : Int), (0 : Int), (0 : Int), [], [], [], ()), n8, ()))
 else
 some ((), ((t3, u3, w3, x3, y3, z3, a4, c4, f4, h4, i4, j4, k4, l4, m4, n4, o4, ()), (0 : Int), ()))
 else none
 else
 bif eqL m3 then
 Option.bind (p19_2 fu ((m3, n3, zR0, ()), ())) fun ⟨⟨⟨_, _, ⟨o8, ⟨_, _, _⟩, _⟩, _⟩, _, _⟩, q8⟩ =>
 bif o8 then
 bif (q8 != (0 : Int)) then
 some ((), (((0 : Int), (0 : Int), (0 : Int), (0 : Int), (0 : Int), [], [], [], (0 : Int), (0 : Int), (0 : Int), (0 : Int), (0 : Int), (0 : Int), [], [], [], ()), q8, ()))
 else
 some ((), ((t3, u3, w3, x3, y3, z3, a4, c4, f4, h4, i4, j4, k4, l4, m4, n4, o4, ()), (0 : Int), ()))
 else
 bif (q8 != (0 : Int)) then
 some ((), (((0 : Int), (0 : Int), (0 : Int), (0 : Int), (0 : Int), [], [], [], (0 : Int), (0 : Int), (0 : Int), (0 : Int), (0 : Int), (0 : Int), [], [], [], ()), q8, ()))
 else
 some ((), ((t3, u3, w3, x3, y3, z3, a4, c4, f4, h4, i4, j4, k4, l4, m4, n4, o4, ()), (0 : Int), ()))
 else none
 else none
 else
 bif eqL h then
 Option.bind (p15_2 fu ((h, i, zR0, ()), ())) fun ⟨⟨⟨s8, t8, ⟨u8, ⟨w8, x8, _⟩, _⟩, _⟩, _, _⟩, y8⟩ =>
 bif u8 then
 orK (E := (Unit) × (((List (Int)) × ((Int) × (((Bool) × (((Int) × ((Int) × (Unit))) × (Unit))) × (Unit)))) × ((Z0) × (Unit))))
 (bif (m == (1 : Int)) then
 bif eqL s8 then
 Option.bind (p47_2 fu ((s8, t8, (true, (w8, x8, ()), dflt .unit), ()), ())) fun ⟨⟨⟨z8, a9, ⟨c9, ⟨f9, h9, _⟩, _⟩, _⟩, _, _⟩, ⟨i9, j9, k9, l9, m9, n9, _⟩⟩ =>
 bif c9 then
 bif eqL z8 then
 some (.inl ((), ((z8, a9, (true, (f9, h9, ()), dflt .unit), ()), (m, y8, i9, j9, k9, l9, m9, n9, (0 : Int), (0 : Int), (0 : Int), (0 : Int), (0 : Int), (0 : Int), [], [], [], ()), ())))
 else none
 else
 bif eqL z8 then
 some (.inl ((), ((z8, a9, zR0, ()), (m, y8, i9, j9, k9, l9, m9, n9, (0 : Int), (0 : Int), (0 : Int), (0 : Int), (0 : Int), (0 : Int), [], [], [], ()), ())))
 else none
 else none
 else
 bif (m == (2 : Int)) then
 bif eqL s8 then
 Option.bind (p15_2 fu ((s8, t8, (true, (w8, x8, ()), dflt .unit), ()), ())) fun ⟨⟨⟨o9, q9, ⟨s9, ⟨t9, u9, _⟩, _⟩, _⟩, _, _⟩, w9⟩ =>
 bif s9 then
 bif eqL o9 then
 Option.bind (p48_2 fu ((o9, q9, (true, (t9, u9, ()), dflt .unit), ()), ())) fun ⟨⟨⟨x9, y9, ⟨z9, ⟨a10, c10, _⟩, _⟩, _⟩, _, _⟩, f10⟩ =>
 bif z9 then
 bif eqL x9 then
 Option.bind (p15_2 fu ((x9, y9, (true, (a10, c10, ()), dflt .unit), ()), ())) fun ⟨⟨⟨h10, i10, ⟨j10, ⟨k10, l10, _⟩, _⟩, _⟩, _, _⟩, m10⟩ =>
 bif j10 then
 bif eqL h10 then
 some (.inl ((), ((h10, i10, (true, (k10, l10, ()), dflt .unit), ()), (m, y8, (0 : Int), (0 : Int), (0 : Int), [], [], [], w9, f10, m10, (0 : Int), (0 : Int), (0 : Int), [], [], [], ()), ())))
 else none
 else
 bif eqL h10 then
 some (.inl ((), ((h10, i10, zR0, ()), (m, y8, (0 : Int), (0 : Int), (0 : Int), [], [], [], w9, f10, m10, (0 : Int), (0 : Int), (0 : Int), [], [], [], ()), ())))
 else none
 else none
 else
 bif eqL x9 then
 Option.bind (p15_2 fu ((x9, y9, zR0, ()), ())) fun ⟨⟨⟨n10, o10, ⟨q10, ⟨s10, t10, _⟩, _⟩, _⟩, _, _⟩, u10⟩ =>
 bif q10 then
 bif eqL n10 then
 some (.inl ((), ((n10, o10, (true, (s10, t10, ()), dflt .unit), ()), (m, y8, (0 : Int), (0 : Int), (0 : Int), [], [], [], w9, f10, u10, (0 : Int), (0 : Int), (0 : Int), [], [], [], ()), ())))
 else none
 else
 bif eqL n10 then
 some (.inl ((), ((n10, o10, zR0, ()), (m, y8, (0 : Int), (0 : Int), (0 : Int), [], [], [], w9, f10, u10, (0 : Int), (0 : Int), (0 : Int), [], [], [], ()), ())))
 else none
 else none
 else none
 else
 bif eqL o9 then
 Option.bind (p48_2 fu ((o9, q9, zR0, ()), ())) fun ⟨⟨⟨w10, x10, ⟨y10, ⟨z10, a11, _⟩, _⟩, _⟩, _, _⟩, c11⟩ =>
 bif y10 then
 bif eqL w10 then
 Option.bind (p15_2 fu ((w10, x10, (true, (z10, a11, ()), dflt .unit), ()), ())) fun ⟨⟨⟨f11, h11, ⟨i11, ⟨j11, k11, _⟩, _⟩, _⟩, _, _⟩, l11⟩ =>
 bif i11 then
 bif eqL f11 then
 some (.inl ((), ((f11, h11, (true, (j11, k11, ()), dflt .unit), ()), (m, y8, (0 : Int), (0 : Int), (0 : Int), [], [], [], w9, c11, l11, (0 : Int), (0 : Int), (0 : Int), [], [], [], ()), ())))
 else none
 else
 bif eqL f11 then
 some (.inl ((), ((f11, h11, zR0, ()), (m, y8, (0 : Int), (0 : Int), (0 : Int), [], [], [], w9, c11, l11, (0 : Int), (0 : Int), (0 : Int), [], [], [], ()), ())))
 else none
 else none
 else
 bif eqL w10 then
 Option.bind (p15_2 fu ((w10, x10, zR0, ()), ())) fun ⟨⟨⟨m11, n11, ⟨o11, ⟨q11, s11, _⟩, _⟩, _⟩, _, _⟩, t11⟩ =>
 bif o11 then
 bif eqL m11 then
 some (.inl ((), ((m11, n11, (true, (q11, s11, ()), dflt .unit), ()), (m, y8, (0 : Int), (0 : Int), (0 : Int), [], [], [], w9, c11, t11, (0 : Int), (0 : Int), (0 : Int), [], [], [], ()), ())))
 else none
 else
 bif eqL m11 then
 some (.inl ((), ((m11, n11, zR0, ()), (m, y8, (0 : Int), (0 : Int), (0 : Int), [], [], [], w9, c11, t11, (0 : Int), (0 : Int), (0 : Int), [], [], [], ()), ())))
 else none
 else none
 else none
 else none
 else
 bif (m == (3 : Int)) then
 bif eqL s8 then
 Option.bind (p15_2 fu ((s8, t8, (true, (w8, x8, ()), dflt .unit), ()), ())) fun ⟨⟨⟨u11, w11, ⟨x11, ⟨y11, z11, _⟩, _⟩, _⟩, _, _⟩, a12⟩ =>
 bif x11 then
 bif eqL u11 then
 some (.inl ((), ((u11, w11, (true, (y11, z11, ()), dflt .unit), ()), (m, y8, (0 : Int), (0 : Int), (0 : Int), [], [], [], (0 : Int), (0 : Int), (0 : Int), a12, (0 : Int), (0 : Int), [], [], [], ()), ())))
 else none
 else
 bif eqL u11 then
 some (.inl ((), ((u11, w11, zR0, ()), (m, y8, (0 : Int), (0 : Int), (0 : Int), [], [], [], (0 : Int), (0 : Int), (0 : Int), a12, (0 : Int), (0 : Int), [], [], [], ()), ())))
 else none
 else none
 else
 bif (m == (4 : Int)) then
 bif eqL s8 then
 Option.bind (p49_2 fu ((s8, t8, (true, (w8, x8, ()), dflt .unit), ()), ())) fun ⟨⟨⟨c12, f12, ⟨h12, ⟨i12, j12, _⟩, _⟩, _⟩, _, _⟩, ⟨k12, l12, m12, n12, o12, _⟩⟩ =>
 bif h12 then
 bif eqL c12 then
 some (.inl ((), ((c12, f12, (true, (i12, j12, ()), dflt .unit), ()), (m, y8, (0 : Int), (0 : Int), (0 : Int), [], [], [], (0 : Int), (0 : Int), (0 : Int), (0 : Int), k12, l12, m12, n12, o12, ()), ())))
 else none
 else
 bif eqL c12 then
 some (.inl ((), ((c12, f12, zR0, ()), (m, y8, (0 : Int), (0 : Int), (0 : Int), [], [], [], (0 : Int), (0 : Int), (0 : Int), (0 : Int), k12, l12, m12, n12, o12, ()), ())))
 else none
 else none
 else
 bif eqL s8 then
 some (.inl ((), ((s8, t8, (true, (w8, x8, ()), dflt .unit), ()), (m, y8, (0 : Int), (0 : Int), (0 : Int), [], [], [], (0 : Int), (0 : Int), (0 : Int), (0 : Int), (0 : Int), (0 : Int), [], [], [], ()), ())))
 else none)
 fun ⟨_, ⟨⟨m3, n3, ⟨o3, ⟨q3, s3, _⟩, _⟩, _⟩, ⟨t3, u3, w3, x3, y3, z3, a4, c4, f4, h4, i4, j4, k4, l4, m4, n4, o4, _⟩, _⟩⟩ =>
 bif o3 then
 bif eqL m3 then
 Option.bind (p19_2 fu ((m3, n3, (true, (q3, s3, ()), dflt .unit), ()), ())) fun ⟨⟨⟨_, _, ⟨q12, ⟨_, _, _⟩, _⟩, _⟩, _, _⟩, s12⟩ =>
 bif q12 then
 bif (s12 != (0 : Int)) then
 some ((), (((0 : Int), (0 : Int), (0 : Int), (0 : Int), (0 : Int), [], [], [], (0 : Int), (0 : Int), (0 : Int), (0 : Int), (0 : Int), (0 : Int), [], [], [], ()), s12, ()))
 else
 some ((), ((t3, u3, w3, x3, y3, z3, a4, c4, f4, h4, i4, j4, k4, l4, m4, n4, o4, ()), (0 : Int), ()))
 else
 bif (s12 != (0 : Int)) then
 some ((), (((0 : Int), (0 : Int), (0 : Int), (0 : Int), (0 : Int), [], [], [], (0 : Int), (0 : Int), (0 : Int), (0 : Int), (0 : Int), (0 : Int), [], [], [], ()), s12, ()))
 else
 some ((), ((t3, u3, w3, x3, y3, z3, a4, c4, f4, h4, i4, j4, k4, l4, m4, n4, o4, ()), (0 : Int), ()))
 else none
 else
 bif eqL m3 then
 Option.bind (p19_2 fu ((m3, n3, zR0, ()), ())) fun ⟨⟨⟨_, _, ⟨t12, ⟨_, _, _⟩, _⟩, _⟩, _, _⟩, u12⟩ =>
 bif t12 then
 bif (u12 != (0 : Int)) then
 some ((), (((0 : Int), (0 : Int), (0 : Int), (0 : Int), (0 : Int), [], [], [], (0 : Int), (0 : Int), (0 : Int), (0 : Int), (0 : Int), (0 : Int), [], [], [], ()), u12, ()))
 else
 some ((), ((t3, u3, w3, x3, y3, z3, a4, c4, f4, h4, i4, j4, k4, l4, m4, n4, o4, ()), (0 : Int), ()))
 else
 bif (u12 != (0 : Int)) then
 some ((), (((0 : Int), (0 : Int), (0 : Int), (0 : Int), (0 : Int), [], [], [], (0 : Int), (0 : Int), (0 : Int), (0 : Int), (0 : Int), (0 : Int), [], [], [], ()), u12, ()))
 else
 some ((), ((t3, u3, w3, x3, y3, z3, a4, c4, f4, h4, i4, j4, k4, l4, m4, n4, o4, ()), (0 : Int), ()))
 else none
 else
 orK (E := (Unit) × (((List (Int)) × ((Int) × (((Bool) × (((Int) × ((Int) × (Unit))) × (Unit))) × (Unit)))) × ((Z0) × (Unit))))
 (bif (m == (1 : Int)) then
 bif eqL s8 then
 Option.bind (p47_2 fu ((s8, t8, zR0, ()), ())) fun ⟨⟨⟨w12, x12, ⟨y12, ⟨z12, a13, _⟩, _⟩, _⟩, _, _⟩, ⟨c13, f13, h13, i13, j13, k13, _⟩⟩ =>
 bif y12 then
 bif eqL w12 then
 some (.inl ((), ((w12, x12, (true, (z12, a13, ()), dflt .unit), ()), (m, y8, c13, f13, h13, i13, j13, k13, (0 : Int), (0 : Int), (0 : Int), (0 : Int), (0 : Int), (0 : Int), [], [], [], ()), ())))
 else none
 else
 bif eqL w12 then
 some (.inl ((), ((w12, x12, zR0, ()), (m, y8, c13, f13, h13, i13, j13, k13, (0 : Int), (0 : Int), (0 : Int), (0 : Int), (0 : Int), (0 : Int), [], [], [], ()), ())))
 else none
 else none
 else
 bif (m == (2 : Int)) then
 bif eqL s8 then
 Option.bind (p15_2 fu ((s8, t8, zR0, ()), ())) fun ⟨⟨⟨l13, m13, ⟨n13, ⟨o13, q13, _⟩, _⟩, _⟩, _, _⟩, s13⟩ =>
 bif n13 then
 bif eqL l13 then
 Option.bind (p48_2 fu ((l13, m13, (true, (o13, q13, ()), dflt .unit), ()), ())) fun ⟨⟨⟨t13, u13, ⟨w13, ⟨x13, y13, _⟩, _⟩, _⟩, _, _⟩, z13⟩ =>
 bif w13 then
 bif eqL t13 then
 Option.bind (p15_2 fu ((t13, u13, (true, (x13, y13, ()), dflt .unit), ()), ())) fun ⟨⟨⟨a14, c14, ⟨f14, ⟨h14, i14, _⟩, _⟩, _⟩, _, _⟩, j14⟩ =>
 bif f14 then
 bif eqL a14 then
 some (.inl ((), ((a14, c14, (true, (h14, i14, ()), dflt .unit), ()), (m, y8, (0 : Int), (0 : Int), (0 : Int), [], [], [], s13, z13, j14, (0 : Int), (0 : Int), (0 : Int), [], [], [], ()), ())))
 else none
 else
 bif eqL a14 then
 some (.inl ((), ((a14, c14, zR0, ()), (m, y8, (0 : Int), (0 : Int), (0 : Int), [], [], [], s13, z13, j14, (0 : Int), (0 : Int), (0 : Int), [], [], [], ()), ())))
 else none
 else none
 else
 bif eqL t13 then
 Option.bind (p15_2 fu ((t13, u13, zR0, ()), ())) fun ⟨⟨⟨k14, l14, ⟨m14, ⟨n14, o14, _⟩, _⟩, _⟩, _, _⟩, q14⟩ =>
 bif m14 then
 bif eqL k14 then
 some (.inl ((), ((k14, l14, (true, (n14, o14, ()), dflt .unit), ()), (m, y8, (0 : Int), (0 : Int), (0 : Int), [], [], [], s13, z13, q14, (0 : Int), (0 : Int), (0 : Int), [], [], [], ()), ())))
 else none
 else
 bif eqL k14 then
 some (.inl ((), ((k14, l14, zR0, ()), (m, y8, (0 : Int), (0 : Int), (0 : Int), [], [], [], s13, z13, q14, (0 : Int), (0 : Int), (0 : Int), [], [], [], ()), ())))
 else none
 else none
 else none
 else
 bif eqL l13 then
 Option.bind (p48_2 fu ((l13, m13, zR0, ()), ())) fun ⟨⟨⟨s14, t14, ⟨u14, ⟨w14, x14, _⟩, _⟩, _⟩, _, _⟩, y14⟩ =>
 bif u14 then
 bif eqL s14 then
 Option.bind (p15_2 fu ((s14, t14, (true, (w14, x14, ()), dflt .unit), ()), ())) fun ⟨⟨⟨z14, a15, ⟨c15, ⟨f15, h15, _⟩, _⟩, _⟩, _, _⟩, i15⟩ =>
 bif c15 then
 bif eqL z14 then
 some (.inl ((), ((z14, a15, (true, (f15, h15, ()), dflt .unit), ()), (m, y8, (0 : Int), (0 : Int), (0 : Int), [], [], [], s13, y14, i15, (0 : Int), (0 : Int), (0 : Int), [], [], [], ()), ())))
 else none
 else
 bif eqL z14 then
 some (.inl ((), ((z14, a15, zR0, ()), (m, y8, (0 : Int), (0 : Int), (0 : Int), [], [], [], s13, y14, i15, (0 : Int), (0 : Int), (0 : Int), [], [], [], ()), ())))
 else none
 else none
 else
 bif eqL s14 then
 Option.bind (p15_2 fu ((s14, t14, zR0, ()), ())) fun ⟨⟨⟨j15, k15, ⟨l15, ⟨m15, n15, _⟩, _⟩, _⟩, _, _⟩, o15⟩ =>
 bif l15 then
 bif eqL j15 then
 some (.inl ((), ((j15, k15, (true, (m15, n15, ()), dflt .unit), ()), (m, y8, (0 : Int), (0 : Int), (0 : Int), [], [], [], s13, y14, o15, (0 : Int), (0 : Int), (0 : Int), [], [], [], ()), ())))
 else none
 else
 bif eqL j15 then
 some (.inl ((), ((j15, k15, zR0, ()), (m, y8, (0 : Int), (0 : Int), (0 : Int), [], [], [], s13, y14, o15, (0 : Int), (0 : Int), (0 : Int), [], [], [], ()), ())))
 else none
 else none
 else none
 else none
 else
 bif (m == (3 : Int)) then
 bif eqL s8 then
 Option.bind (p15_2 fu ((s8, t8, zR0, ()), ())) fun ⟨⟨⟨q15, s15, ⟨t15, ⟨u15, w15, _⟩, _⟩, _⟩, _, _⟩, x15⟩ =>
 bif t15 then
 bif eqL q15 then
 some (.inl ((), ((q15, s15, (true, (u15, w15, ()), dflt .unit), ()), (m, y8, (0 : Int), (0 : Int), (0 : Int), [], [], [], (0 : Int), (0 : Int), (0 : Int), x15, (0 : Int), (0 : Int), [], [], [], ()), ())))
 else none
 else
 bif eqL q15 then
 some (.inl ((), ((q15, s15, zR0, ()), (m, y8, (0 : Int), (0 : Int), (0 : Int), [], [], [], (0 : Int), (0 : Int), (0 : Int), x15, (0 : Int), (0 : Int), [], [], [], ()), ())))
 else none
 else none
 else
 bif (m == (4 : Int)) then
 bif eqL s8 then
 Option.bind (p49_2 fu ((s8, t8, zR0, ()), ())) fun ⟨⟨⟨y15, z15, ⟨a16, ⟨c16, f16, _⟩, _⟩, _⟩, _, _⟩, ⟨h16, i16, j16, k16, l16, _⟩⟩ =>
 bif a16 then
 bif eqL y15 then
 some (.inl ((), ((y15, z15, (true, (c16, f16, ()), dflt .unit), ()), (m, y8, (0 : Int), (0 : Int), (0 : Int), [], [], [], (0 : Int), (0 : Int), (0 : Int), (0 : Int), h16, i16, j16, k16, l16, ()), ())))
 else none
 else
 bif eqL y15 then
 some (.inl ((), ((y15, z15, zR0, ()), (m, y8, (0 : Int), (0 : Int), (0 : Int), [], [], [], (0 : Int), (0 : Int), (0 : Int), (0 : Int), h16, i16, j16, k16, l16, ()), ())))
 else none
 else none
 else
 bif eqL s8 then
 some (.inl ((), ((s8, t8, zR0, ()), (m, y8, (0 : Int), (0 : Int), (0 : Int), [], [], [], (0 : Int), (0 : Int), (0 : Int), (0 : Int), (0 : Int), (0 : Int), [], [], [], ()), ())))
 else none)
 fun ⟨_, ⟨⟨m3, n3, ⟨o3, ⟨q3, s3, _⟩, _⟩, _⟩, ⟨t3, u3, w3, x3, y3, z3, a4, c4, f4, h4, i4, j4, k4, l4, m4, n4, o4, _⟩, _⟩⟩ =>
 bif o3 then
 bif eqL m3 then
 Option.bind (p19_2 fu ((m3, n3, (true, (q3, s3, ()), dflt .unit), ()), ())) fun ⟨⟨⟨_, _, ⟨m16, ⟨_, _, _⟩, _⟩, _⟩, _, _⟩, n16⟩ =>
 bif m16 then
 bif (n16 != (0 : Int)) then
 some ((), (((0 : Int), (0 : Int), (0 : Int), (0 : Int), (0 : Int), [], [], [], (0 : Int), (0 : Int), (0 : Int), (0 : Int), (0 : Int), (0 : Int), [], [], [], ()), n16, ()))
 else
 some ((), ((t3, u3, w3, x3, y3, z3, a4, c4, f4, h4, i4, j4, k4, l4, m4, n4, o4, ()), (0 : Int), ()))
 else
 bif (n16 != (0 : Int)) then
 some ((), (((0 : Int), (0 : Int), (0 : Int), (0 : Int), (0 : Int), [], [], [], (0 : Int), (0 : Int), (0 : Int), (0 : Int), (0 : Int), (0 : Int), [], [], [], ()), n16, ()))
 else
 some ((), ((t3, u3, w3, x3, y3, z3, a4, c4, f4, h4, i4, j4, k4, l4, m4, n4, o4, ()), (0 : Int), ()))
 else none
 else
 bif eqL m3 then
 Option.bind (p19_2 fu ((m3, n3, zR0, ()), ())) fun ⟨⟨⟨_, _, ⟨o16, ⟨_, _, _⟩, _⟩, _⟩, _, _⟩, q16⟩ =>
 bif o16 then
 bif (q16 != (0 : Int)) then
 some ((), (((0 : Int), (0 : Int), (0 : Int), (0 : Int), (0 : Int), [], [], [], (0 : Int), (0 : Int), (0 : Int), (0 : Int), (0 : Int), (0 : Int), [], [], [], ()), q16, ()))
 else
 some ((), ((t3, u3, w3, x3, y3, z3, a4, c4, f4, h4, i4, j4, k4, l4, m4, n4, o4, ()), (0 : Int), ()))
 else
 bif (q16 != (0 : Int)) then
 some ((), (((0 : Int), (0 : Int), (0 : Int), (0 : Int), (0 : Int), [], [], [], (0 : Int), (0 : Int), (0 : Int), (0 : Int), (0 : Int), (0 : Int), [], [], [], ()), q16, ()))
 else
 some ((), ((t3, u3, w3, x3, y3, z3, a4, c4, f4, h4, i4, j4, k4, l4, m4, n4, o4, ()), (0 : Int), ()))
 else none
 else none
else none
def e20 (fu : Nat) : Ent := ⟨20, (.cons (.hole (.sl (.int .u8))) .nil), .nil, (.tup 2 (.cons Y4 (.cons (.hole (.int .i64)) .nil))), p20 fu⟩
def d20 (fu : Nat) : DC := (.seq (.region [opD 2 (.alloc 39 17 [vI, vU, vU, vU, vI, vS, vS, vS, vU, vI, vU, vU, vU, vU, vS, vS, vS]), opD 3 (.mov (cD 0))] [[], []] false) (.seq (.region [mvD 7 0, oqD 8 (.call 14 [(tD 7)]) (.ent (e14 fu)), mvD 4 8] [[], [0], [1, 1, 0, 1]] false) (.seq (.region [mvD 9 4, oqD 10 (.call 46 [(tD 9)]) (.ent (e46 fu)), mvD 11 4, oqD 12 (.call 15 [(tD 11)]) (.ent (e15_2 fu)), opD 13 (.build 17 [vI, vU, vU, vU, vI, vS, vS, vS, vU, vI, vU, vU, vU, vU, vS, vS, vS] [(0, (1, (tD 10))), (1, (1, (tD 12)))]), opD 5 (.alloc 39 17 [vI, vU, vU, vU, vI, vS, vS, vS, vU, vI, vU, vU, vU, vU, vS, vS, vS]), onD (.store 17 (tD 5) (tD 13))] [[], [0], [], [2, 1], [1, 3], [], [5, 4, 3, 0, 1, 2, 3, 4, 5]] false) (.join ⟨[], .nil, [(48, 95, 3), (160, 39, 17)], (.cons Y5 (.cons Y4 .nil)), [2, 4, 5], [0]⟩
 (.seq (.region [opD 14 (.faddr 0 (tD 5)), opD 15 (.load false 1 (tD 14))] [[], [0]] false) (.block 0 (.seq (.region [opD 17 (.bin .eql (tD 15) (cD 1)), mvD 16 17] [[], [0]] false) (.cond (.tmp 16) (.region [mvD 18 4, oqD 19 (.call 47 [(tD 18)]) (.ent (e47_2 fu)), opD 20 (.faddr 2 (tD 5)), onD (.store 6 (tD 20) (tD 19))] [[], [0], [0, 1], [2, 1, 1, 0, 1]] false) (.seq (.region [opD 22 (.bin .eql (tD 15) (cD 2)), mvD 21 22] [[], [0]] false) (.cond (.tmp 21) (.region [mvD 23 4, oqD 24 (.call 15 [(tD 23)]) (.ent (e15_2 fu)), mvD 25 4, oqD 26 (.call 48 [(tD 25)]) (.ent (e48_2 fu)), mvD 27 4, oqD 28 (.call 15 [(tD 27)]) (.ent (e15_2 fu)), opD 29 (.build 3 [vU, vI, vU] [(0, (1, (tD 24))), (1, (1, (tD 26))), (2, (1, (tD 28)))]), opD 30 (.faddr 8 (tD 5)), onD (.store 3 (tD 30) (tD 29))] [[], [0], [], [2, 1], [], [4, 3], [1, 3, 5], [0, 1, 2, 3, 4, 5, 6], [7, 6, 5, 0, 1, 2, 3, 4, 5, 6]] false) (.seq (.region [opD 32 (.bin .eql (tD 15) (cD 3)), mvD 31 32] [[], [0]] false) (.cond (.tmp 31) (.region [mvD 33 4, oqD 34 (.call 15 [(tD 33)]) (.ent (e15_2 fu)), opD 35 (.faddr 11 (tD 5)), onD (.store 1 (tD 35) (tD 34))] [[], [0], [0, 1], [2, 1, 1, 0, 1]] false) (.seq (.region [opD 37 (.bin .eql (tD 15) (cD 4)), mvD 36 37] [[], [0]] false) (.cond (.tmp 36) (.region [mvD 38 4, oqD 39 (.call 49 [(tD 38)]) (.ent (e49_2 fu)), opD 40 (.faddr 12 (tD 5)), onD (.store 5 (tD 40) (tD 39))] [[], [0], [0, 1], [2, 1, 1, 0, 1]] false) .skip))))))))))
 (.seq (.seq (.region [mvD 41 4, oqD 42 (.call 19 [(tD 41)]) (.ent (e19_2 fu)), mvD 6 42] [[], [0], [1, 1, 0, 1]] false) (.seq (.region [mvD 43 6, opD 44 (.bin .neq (tD 43) (cD 0))] [[], [0]] false) (.cond (.tmp 44) (.seq (.region [opD 45 (.build 17 [vI, vU, vU, vU, vI, vS, vS, vS, vU, vI, vU, vU, vU, vU, vS, vS, vS] []), mvD 46 6, onD (.store 17 (tD 2) (tD 45)), mvD 3 46] [[], [], [0, 0], [1, 2, 0, 1, 2]] false) .ret) .skip))) (.seq (.region [opD 47 (.load true 17 (tD 5)), onD (.store 17 (tD 2) (tD 47)), opD 3 (.mov (cD 0))] [[], [0, 0], [1, 0, 1]] false) .ret))))))
set_option maxRecDepth 1000000 in
theorem v20 (fu : Nat) : evF fu (d20 fu) rs20 48 (e20 fu).ash (e20 fu).osh (e20 fu).vsh = p20 fu := by kernel_rfl
set_option maxRecDepth 1000000 in
theorem b20 (fu : Nat) : BodyD Tryd.prog 20 48 (d20 fu).erase rs20 := bodyD_mk Tryd.func20 (by kernel_rfl) (by kernel_rfl) (by kernel_rfl) (by kernel_rfl)
theorem g20 (fu : Nat) : (e20 fu).Good Tryd.prog := good_by orders (b20 fu) (l := [e14 fu, e46 fu, e15_2 fu, e47_2 fu, e15_2 fu, e48_2 fu, e15_2 fu, e15_2 fu, e49_2 fu, e19_2 fu]) (by kernel_rfl) ⟨g14 fu, g46 fu, g15_2 fu, g47_2 fu, g15_2 fu, g48_2 fu, g15_2 fu, g15_2 fu, g49_2 fu, g19_2 fu, trivial⟩ (by kernel_rfl) (v20 fu)
def rs91 : List RVx := []
/-- (*gazette/gazetteref01.Reader).fail -/
def p91 (_ : Nat) : ((List (Int)) × ((Int) × ((Int) × ((Int) × (Unit))))) × ((Int) × ((Int) × (Unit))) → Option ((((List (Int)) × ((Int) × ((Int) × ((Int) × (Unit))))) × (Unit)) × (Unit)) := fun ⟨⟨a, c, f, h, _⟩, i, j, _⟩ =>
orK (E := ((Bool) × (Unit)) × (Unit))
 (bif (f == (0 : Int)) then
 some (.inl (((i != (0 : Int)), ()), ()))
 else
 some (.inl ((false, ()), ())))
 fun ⟨⟨k, _⟩, _⟩ =>
bif k then
 some (((a, j, i, j, ()), ()), ())
else
 some (((a, c, f, h, ()), ()), ())
def e91 (fu : Nat) : Ent := ⟨91, (.cons Y7 (.cons (.hole (.int .i64)) (.cons (.hole (.int .i64)) .nil))), (.cons Y8 .nil), (.tup 0 .nil), p91 fu⟩
def d91 (_ : Nat) : DC := (.join ⟨[14], (.cons (.hole .bool) .nil), [], .nil, [0, 1, 2], [0]⟩
 (.region [mvD 6 0, opD 7 (.pure .nilc [(tD 6)]), opD 8 (.faddr 2 (tD 7)), opD 9 (.load false 1 (tD 8)), opD 10 (.bin .eql (tD 9) (cD 0)), mvD 11 10, ogD 12 11 true (.mov (tD 1)), ogD 13 11 true (.bin .neq (tD 12) (cD 0)), opD 14 (.pick (tD 11) (tD 13) (.const vB))] [[], [0], [1], [2], [3], [4], [5], [6, 5], [5, 7]] false)
 (.cond (.tmp 14) (.seq (.region [mvD 15 0, mvD 16 1, opD 17 (.pure .nilc [(tD 15)]), opD 18 (.faddr 2 (tD 17)), onD (.store 1 (tD 18) (tD 16))] [[], [], [0, 0, 1], [2, 0, 1], [3, 1, 0, 1]] false) (.seq (.region [mvD 19 0, mvD 20 2, opD 21 (.pure .nilc [(tD 19)]), opD 22 (.faddr 3 (tD 21)), onD (.store 1 (tD 22) (tD 20))] [[], [], [0, 0, 1], [2, 0, 1], [3, 1, 0, 1]] false) (.region [mvD 23 0, mvD 24 2, opD 25 (.pure .nilc [(tD 23)]), opD 26 (.faddr 1 (tD 25)), onD (.store 1 (tD 26) (tD 24))] [[], [], [0, 0, 1], [2, 0, 1], [3, 1, 0, 1]] false))) .skip))
set_option maxRecDepth 1000000 in
theorem v91 (fu : Nat) : evF fu (d91 fu) rs91 27 (e91 fu).ash (e91 fu).osh (e91 fu).vsh = p91 fu := by kernel_rfl
set_option maxRecDepth 1000000 in
theorem b91 (fu : Nat) : BodyD Tryd.prog 91 27 (d91 fu).erase rs91 := bodyD_mk Tryd.func91 (by kernel_rfl) (by kernel_rfl) (by kernel_rfl) (by kernel_rfl)
theorem g91 (fu : Nat) : (e91 fu).Good Tryd.prog := good_by orders (b91 fu) (l := []) (by kernel_rfl) trivial (by kernel_rfl) (v91 fu)
def rs51 : List RVx := [(.tmp 2)]
/-- (*gazette/gazetteref01.Reader).Uint -/
def p51 (fu : Nat) : ((List (Int)) × ((Int) × ((Int) × ((Int) × (Unit))))) × (Unit) → Option ((((List (Int)) × ((Int) × ((Int) × ((Int) × (Unit))))) × (Unit)) × (Int)) := fun ⟨⟨a, c, f, h, _⟩, _⟩ =>
bif (f != (0 : Int)) then
 some (((a, c, f, h, ()), ()), (0 : Int))
else
 loopO (S := ((Int) × ((Int) × (Unit))) × (Unit)) fu (fun ⟨⟨i, j, _⟩, _⟩ =>
 bif decide ((IntKind.wrap .i64 (c + j)) ≥ (List.length a : Int)) then
 Option.bind (p91 fu ((a, c, f, h, ()), (11 : Int), c, ())) fun ⟨⟨⟨k, l, m, n, _⟩, _⟩, _⟩ =>
 inrO (some (((k, l, m, n, ()), ()), (0 : Int)))
 else
 bif decide ((0 : Int) ≤ IntKind.wrap .i64 (c + j) ∧ IntKind.wrap .i64 (c + j) < (List.length a : Int)) then
 bif decide (Int.toNat (IntKind.wrap .i64 (c + j)) < List.length a) then
 orK (E := ((Bool) × (Unit)) × (Unit))
 (bif (j == (9 : Int)) then
 some (.inl ((((List.getD a (Int.toNat (IntKind.wrap .i64 (c + j))) (dflt (.int .u8))) != (1 : Int)), ()), ()))
 else
 some (.inl ((false, ()), ())))
 fun ⟨⟨o, _⟩, _⟩ =>
 bif o then
 Option.bind (p91 fu ((a, c, f, h, ()), (12 : Int), c, ())) fun ⟨⟨⟨q, s, t, u, _⟩, _⟩, _⟩ =>
 inrO (some (((q, s, t, u, ()), ()), (0 : Int)))
 else
 bif decide ((0 : Int) ≤ (IntKind.wrap .i64 ((7 : Int) * j))) then
 bif decide ((List.getD a (Int.toNat (IntKind.wrap .i64 (c + j))) (dflt (.int .u8))) < (128 : Int)) then
 orK (E := ((Bool) × (Unit)) × (Unit))
 (bif ((List.getD a (Int.toNat (IntKind.wrap .i64 (c + j))) (dflt (.int .u8))) == (0 : Int)) then
 some (.inl ((decide (j > (0 : Int)), ()), ()))
 else
 some (.inl ((false, ()), ())))
 fun ⟨⟨w, _⟩, _⟩ =>
 bif w then
 Option.bind (p91 fu ((a, c, f, h, ()), (12 : Int), c, ())) fun ⟨⟨⟨x, y, z, a0, _⟩, _⟩, _⟩ =>
 inrO (some (((x, y, z, a0, ()), ()), (0 : Int)))
 else
 inrO (some (((a, IntKind.wrap .i64 ((IntKind.wrap .i64 (c + j)) + (1 : Int)), f, h, ()), ()), IntKind.wrap .u64 (i + (IntKind.wrap .u64 ((IntKind.wrap .u64 (IntKind.wrap .u8 ((BitVec.ofInt (IntKind.bits .u8) (List.getD a (Int.toNat (IntKind.wrap .i64 (c + j))) (dflt (.int .u8))) &&& BitVec.ofInt (IntKind.bits .u8) (127 : Int)).toNat : Int))) * 2 ^ (min (Int.toNat (IntKind.wrap .i64 ((7 : Int) * j))) (IntKind.bits .u64)))))))
 else
 some (.inl ((IntKind.wrap .u64 (i + (IntKind.wrap .u64 ((IntKind.wrap .u64 (IntKind.wrap .u8 ((BitVec.ofInt (IntKind.bits .u8) (List.getD a (Int.toNat (IntKind.wrap .i64 (c + j))) (dflt (.int .u8))) &&& BitVec.ofInt (IntKind.bits .u8) (127 : Int)).toNat : Int))) * 2 ^ (min (Int.toNat (IntKind.wrap .i64 ((7 : Int) * j))) (IntKind.bits .u64))))), IntKind.wrap .i64 (j + (1 : Int)), ()), ()))
 else none
 else none
 else none)
 (((0 : Int), (0 : Int), ()), ())
def e51 (fu : Nat) : Ent := ⟨51, (.cons Y7 .nil), (.cons Y8 .nil), (.hole (.int .u64)), p51 fu⟩
def d51 (fu : Nat) : DC := (.seq (.region [opD 2 (.mov (.const vU))] [[]] false) (.seq (.seq (.region [mvD 6 0, opD 7 (.pure .nilc [(tD 6)]), opD 8 (.faddr 2 (tD 7)), opD 9 (.load false 1 (tD 8)), opD 10 (.bin .neq (tD 9) (cD 0))] [[], [0], [1], [2], [3]] false) (.cond (.tmp 10) (.seq (.region [opD 2 (.mov (.const vU))] [[]] false) .ret) .skip)) (.seq (.region [opD 3 (.mov (.const vU))] [[]] false) (.seq (.region [opD 4 (.mov (cD 0))] [[]] false) (.block 0 (.loop ⟨[3, 4], (.cons (.hole (.int .u64)) (.cons (.hole (.int .i64)) .nil)), [], .nil, [0], [0]⟩
 (.seq (.block 1 (.seq (.seq (.region [mvD 13 0, opD 14 (.pure .nilc [(tD 13)]), opD 15 (.faddr 1 (tD 14)), opD 16 (.load false 1 (tD 15)), mvD 17 4, opD 18 (.bin .add (tD 16) (tD 17)), mvD 19 0, opD 20 (.pure .nilc [(tD 19)]), opD 21 (.faddr 0 (tD 20)), opD 22 (.load false 1 (tD 21)), opD 23 (.len false (tD 22)), opD 24 (.bin .geq (tD 18) (tD 23))] [[], [0], [1], [2], [], [3, 4], [], [6], [7], [8], [9], [5, 10]] true) (.cond (.tmp 24) (.seq (.region [mvD 25 0, mvD 26 0, opD 27 (.pure .nilc [(tD 26)]), opD 28 (.faddr 1 (tD 27)), opD 29 (.load false 1 (tD 28)), oqD 30 (.call 91 [(tD 25), (cD 11), (tD 29)]) (.ent (e91 fu))] [[], [], [1], [2], [3], [0, 4]] false) (.seq (.region [opD 2 (.mov (.const vU))] [[]] false) .ret)) .skip)) (.seq (.region [mvD 31 0, opD 32 (.pure .nilc [(tD 31)]), opD 33 (.faddr 0 (tD 32)), opD 34 (.load false 1 (tD 33)), mvD 35 0, opD 36 (.pure .nilc [(tD 35)]), opD 37 (.faddr 1 (tD 36)), opD 38 (.load false 1 (tD 37)), mvD 39 4, opD 40 (.bin .add (tD 38) (tD 39)), opD 41 (.iaddr 1 (tD 34) (tD 40)), opD 42 (.load false 1 (tD 41)), mvD 5 42] [[], [0], [1], [2], [], [4], [5], [6], [], [7, 8], [3, 9], [10], [11, 0, 1, 2, 3, 4, 5, 6, 7, 8, 9, 10, 11]] true) (.seq (.join ⟨[48], (.cons (.hole .bool) .nil), [], .nil, [0, 3, 4, 5], [0]⟩
 (.region [mvD 43 4, opD 44 (.bin .eql (tD 43) (cD 9)), mvD 45 44, ogD 46 45 true (.mov (tD 5)), ogD 47 45 true (.bin .neq (tD 46) (.const (.int .u8 1))), opD 48 (.pick (tD 45) (tD 47) (.const vB))] [[], [0], [1], [2], [3, 2], [2, 4]] false)
 (.cond (.tmp 48) (.seq (.region [mvD 49 0, mvD 50 0, opD 51 (.pure .nilc [(tD 50)]), opD 52 (.faddr 1 (tD 51)), opD 53 (.load false 1 (tD 52)), oqD 54 (.call 91 [(tD 49), (cD 12), (tD 53)]) (.ent (e91 fu))] [[], [], [1], [2], [3], [0, 4]] false) (.seq (.region [opD 2 (.mov (.const vU))] [[]] false) .ret)) .skip)) (.seq (.region [mvD 55 3, mvD 56 5, opD 57 (.bin .and (tD 56) (.const (.int .u8 127))), opD 58 (.conv .u64 (tD 57)), mvD 59 4, opD 60 (.bin .mul (cD 7) (tD 59)), opD 61 (.bin .shl (tD 58) (tD 60)), opD 62 (.bin .add (tD 55) (tD 61)), mvD 3 62] [[], [], [1], [2], [], [4], [3, 5], [0, 6], [7, 0, 1, 2, 3, 4, 5, 6, 7]] false) (.seq (.region [mvD 63 5, opD 64 (.bin .lss (tD 63) (.const (.int .u8 128)))] [[], [0]] false) (.cond (.tmp 64) (.seq (.join ⟨[70], (.cons (.hole .bool) .nil), [], .nil, [0, 3, 4], [0]⟩
 (.region [mvD 65 5, opD 66 (.bin .eql (tD 65) (.const (.int .u8 0))), mvD 67 66, ogD 68 67 true (.mov (tD 4)), ogD 69 67 true (.bin .gtr (tD 68) (cD 0)), opD 70 (.pick (tD 67) (tD 69) (.const vB))] [[], [0], [1], [2], [3, 2], [2, 4]] false)
 (.cond (.tmp 70) (.seq (.region [mvD 71 0, mvD 72 0, opD 73 (.pure .nilc [(tD 72)]), opD 74 (.faddr 1 (tD 73)), opD 75 (.load false 1 (tD 74)), oqD 76 (.call 91 [(tD 71), (cD 12), (tD 75)]) (.ent (e91 fu))] [[], [], [1], [2], [3], [0, 4]] false) (.seq (.region [opD 2 (.mov (.const vU))] [[]] false) .ret)) .skip)) (.seq (.region [mvD 77 0, mvD 78 0, opD 79 (.pure .nilc [(tD 78)]), opD 80 (.faddr 1 (tD 79)), opD 81 (.load false 1 (tD 80)), mvD 82 4, opD 83 (.bin .add (tD 81) (tD 82)), opD 84 (.bin .add (tD 83) (cD 1)), opD 85 (.pure .nilc [(tD 77)]), opD 86 (.faddr 1 (tD 85)), onD (.store 1 (tD 86) (tD 84))] [[], [], [1], [2], [3], [], [4, 5], [6], [0, 0, 1, 2, 3, 4, 5, 6, 7], [8, 0, 1, 2, 3, 4, 5, 6, 7], [9, 7, 0, 1, 2, 3, 4, 5, 6, 7]] false) (.seq (.region [mvD 87 3, mvD 2 87] [[], [0, 0]] false) .ret))) .skip))))))) (.region [mvD 11 4, opD 12 (.bin .add (tD 11) (cD 1)), mvD 4 12] [[], [0], [1, 0, 1]] false))))))))
set_option maxRecDepth 1000000 in
theorem v51 (fu : Nat) : evF fu (d51 fu) rs51 88 (e51 fu).ash (e51 fu).osh (e51 fu).vsh = p51 fu := by kernel_rfl
set_option maxRecDepth 1000000 in
theorem b51 (fu : Nat) : BodyD Tryd.prog 51 88 (d51 fu).erase rs51 := bodyD_mk Tryd.func51 (by kernel_rfl) (by kernel_rfl) (by kernel_rfl) (by kernel_rfl)
theorem g51 (fu : Nat) : (e51 fu).Good Tryd.prog := good_by orders (b51 fu) (l := [e91 fu, e91 fu, e91 fu]) (by kernel_rfl) ⟨g91 fu, g91 fu, g91 fu, trivial⟩ (by kernel_rfl) (v51 fu)
def rs65 : List RVx := [(.tmp 2)]
/-- (*gazette/gazetteref01.Reader).Int -/
def p65 (fu : Nat) : ((List (Int)) × ((Int) × ((Int) × ((Int) × (Unit))))) × (Unit) → Option ((((List (Int)) × ((Int) × ((Int) × ((Int) × (Unit))))) × (Unit)) × (Int)) := fun ⟨⟨a, c, f, h, _⟩, _⟩ =>
Option.bind (p51 fu ((a, c, f, h, ()), ())) fun ⟨⟨⟨i, j, k, l, _⟩, _⟩, m⟩ =>
bif ((Int.tmod m (2 : Int)) == (1 : Int)) then
 some (((i, j, k, l, ()), ()), IntKind.wrap .i64 ((IntKind.wrap .i64 (0 - (IntKind.wrap .i64 (IntKind.wrap .u64 (Int.tdiv m (2 : Int)))))) - (1 : Int)))
else
 some (((i, j, k, l, ()), ()), IntKind.wrap .i64 (IntKind.wrap .u64 (Int.tdiv m (2 : Int))))
def e65 (fu : Nat) : Ent := ⟨65, (.cons Y7 .nil), (.cons Y8 .nil), (.hole (.int .i64)), p65 fu⟩
def d65 (fu : Nat) : DC := (.seq (.region [opD 2 (.mov (cD 0))] [[]] false) (.seq (.region [mvD 4 0, oqD 5 (.call 51 [(tD 4)]) (.ent (e51 fu)), mvD 3 5] [[], [0], [1, 1, 0, 1]] false) (.seq (.seq (.region [mvD 6 3, opD 7 (.bin .rem (tD 6) (.const (.int .u64 2))), opD 8 (.bin .eql (tD 7) (.const (.int .u64 1)))] [[], [0], [1]] false) (.cond (.tmp 8) (.seq (.region [mvD 9 3, opD 10 (.bin .quo (tD 9) (.const (.int .u64 2))), opD 11 (.conv .i64 (tD 10)), opD 12 (.pure .neg [(tD 11)]), opD 13 (.bin .sub (tD 12) (cD 1)), mvD 2 13] [[], [0], [1], [2], [3], [4, 0, 1, 2, 3, 4]] false) .ret) .skip)) (.seq (.region [mvD 14 3, opD 15 (.bin .quo (tD 14) (.const (.int .u64 2))), opD 16 (.conv .i64 (tD 15)), mvD 2 16] [[], [0], [1], [2, 0, 1, 2]] false) .ret))))
set_option maxRecDepth 1000000 in
theorem v65 (fu : Nat) : evF fu (d65 fu) rs65 17 (e65 fu).ash (e65 fu).osh (e65 fu).vsh = p65 fu := by kernel_rfl
set_option maxRecDepth 1000000 in
theorem b65 (fu : Nat) : BodyD Tryd.prog 65 17 (d65 fu).erase rs65 := bodyD_mk Tryd.func65 (by kernel_rfl) (by kernel_rfl) (by kernel_rfl) (by kernel_rfl)
theorem g65 (fu : Nat) : (e65 fu).Good Tryd.prog := good_by orders (b65 fu) (l := [e51 fu]) (by kernel_rfl) ⟨g51 fu, trivial⟩ (by kernel_rfl) (v65 fu)
def rs80 : List RVx := []
/-- (*gazette/gazetteref01.Reader).Fail -/
def p80 (fu : Nat) : ((List (Int)) × ((Int) × ((Int) × ((Int) × (Unit))))) × ((Int) × (Unit)) → Option ((((List (Int)) × ((Int) × ((Int) × ((Int) × (Unit))))) × (Unit)) × (Unit)) := fun ⟨⟨a, c, f, h, _⟩, i, _⟩ =>
Option.bind (p91 fu ((a, c, f, h, ()), i, c, ())) fun ⟨⟨⟨j, k, l, m, _⟩, _⟩, _⟩ =>
some (((j, k, l, m, ()), ()), ())
def e80 (fu : Nat) : Ent := ⟨80, (.cons Y7 (.cons (.hole (.int .i64)) .nil)), (.cons Y8 .nil), (.tup 0 .nil), p80 fu⟩
def d80 (fu : Nat) : DC := (.region [mvD 4 0, mvD 5 1, mvD 6 0, opD 7 (.pure .nilc [(tD 6)]), opD 8 (.faddr 1 (tD 7)), opD 9 (.load false 1 (tD 8)), oqD 10 (.call 91 [(tD 4), (tD 5), (tD 9)]) (.ent (e91 fu))] [[], [], [], [2], [3], [4], [0, 1, 5]] false)
set_option maxRecDepth 1000000 in
theorem v80 (fu : Nat) : evF fu (d80 fu) rs80 11 (e80 fu).ash (e80 fu).osh (e80 fu).vsh = p80 fu := by kernel_rfl
set_option maxRecDepth 1000000 in
theorem b80 (fu : Nat) : BodyD Tryd.prog 80 11 (d80 fu).erase rs80 := bodyD_mk Tryd.func80 (by kernel_rfl) (by kernel_rfl) (by kernel_rfl) (by kernel_rfl)
theorem g80 (fu : Nat) : (e80 fu).Good Tryd.prog := good_by orders (b80 fu) (l := [e91 fu]) (by kernel_rfl) ⟨g91 fu, trivial⟩ (by kernel_rfl) (v80 fu)
def rs79 : List RVx := [(.tmp 4)]
/-- (*gazette/gazetteref01.Reader).Count -/
def p79 (fu : Nat) : ((List (Int)) × ((Int) × ((Int) × ((Int) × (Unit))))) × ((Int) × (Unit)) → Option ((((List (Int)) × ((Int) × ((Int) × ((Int) × (Unit))))) × (Unit)) × (Int)) := fun ⟨⟨a, c, f, h, _⟩, i, _⟩ =>
Option.bind (p51 fu ((a, c, f, h, ()), ())) fun ⟨⟨⟨j, k, l, m, _⟩, _⟩, n⟩ =>
bif (l != (0 : Int)) then
 some (((j, k, l, m, ()), ()), (0 : Int))
else
 orK (E := ((Bool) × (Unit)) × (Unit))
 (bif decide (i < (0 : Int)) then
 some (.inl ((true, ()), ()))
 else
 some (.inl ((decide (n > (IntKind.wrap .u64 i)), ()), ())))
 fun ⟨⟨o, _⟩, _⟩ =>
 bif o then
 Option.bind (p91 fu ((j, k, l, m, ()), (13 : Int), c, ())) fun ⟨⟨⟨q, s, t, u, _⟩, _⟩, _⟩ =>
 some (((q, s, t, u, ()), ()), (0 : Int))
 else
 bif decide (n > (IntKind.wrap .u64 (IntKind.wrap .i64 ((List.length j : Int) - k)))) then
 Option.bind (p91 fu ((j, k, l, m, ()), (11 : Int), c, ())) fun ⟨⟨⟨w, x, y, z, _⟩, _⟩, _⟩ =>
 some (((w, x, y, z, ()), ()), (0 : Int))
 else
 some (((j, k, l, m, ()), ()), IntKind.wrap .i64 n)
def e79 (fu : Nat) : Ent := ⟨79, (.cons Y7 (.cons (.hole (.int .i64)) .nil)), (.cons Y8 .nil), (.hole (.int .i64)), p79 fu⟩
def d79 (fu : Nat) : DC := (.seq (.region [opD 4 (.mov (cD 0))] [[]] false) (.seq (.region [mvD 7 0, opD 8 (.pure .nilc [(tD 7)]), opD 9 (.faddr 1 (tD 8)), opD 10 (.load false 1 (tD 9)), mvD 5 10] [[], [0], [1], [2], [3, 0, 1, 2, 3]] false) (.seq (.region [mvD 11 0, oqD 12 (.call 51 [(tD 11)]) (.ent (e51 fu)), mvD 6 12] [[], [0], [1, 1, 0, 1]] false) (.seq (.seq (.region [mvD 13 0, opD 14 (.pure .nilc [(tD 13)]), opD 15 (.faddr 2 (tD 14)), opD 16 (.load false 1 (tD 15)), opD 17 (.bin .neq (tD 16) (cD 0))] [[], [0], [1], [2], [3]] false) (.cond (.tmp 17) (.seq (.region [opD 4 (.mov (cD 0))] [[]] false) .ret) .skip)) (.seq (.join ⟨[25], (.cons (.hole .bool) .nil), [], .nil, [0, 5, 6], [0]⟩
 (.region [mvD 18 1, opD 19 (.bin .lss (tD 18) (cD 0)), mvD 20 19, ogD 21 20 false (.mov (tD 6)), ogD 22 20 false (.mov (tD 1)), ogD 23 20 false (.conv .u64 (tD 22)), ogD 24 20 false (.bin .gtr (tD 21) (tD 23)), opD 25 (.pick (tD 20) (.const (.bool true)) (tD 24))] [[], [0], [1], [2], [2], [4, 2], [3, 5, 2], [2, 6]] false)
 (.cond (.tmp 25) (.seq (.region [mvD 26 0, mvD 27 5, oqD 28 (.call 91 [(tD 26), (cD 13), (tD 27)]) (.ent (e91 fu))] [[], [], [0, 1]] false) (.seq (.region [opD 4 (.mov (cD 0))] [[]] false) .ret)) .skip)) (.seq (.seq (.region [mvD 29 6, mvD 30 0, opD 31 (.pure .nilc [(tD 30)]), opD 32 (.faddr 0 (tD 31)), opD 33 (.load false 1 (tD 32)), opD 34 (.len false (tD 33)), mvD 35 0, opD 36 (.pure .nilc [(tD 35)]), opD 37 (.faddr 1 (tD 36)), opD 38 (.load false 1 (tD 37)), opD 39 (.bin .sub (tD 34) (tD 38)), opD 40 (.conv .u64 (tD 39)), opD 41 (.bin .gtr (tD 29) (tD 40))] [[], [], [1], [2], [3], [4], [], [6], [7], [8], [5, 9], [10], [0, 11]] true) (.cond (.tmp 41) (.seq (.region [mvD 42 0, mvD 43 5, oqD 44 (.call 91 [(tD 42), (cD 11), (tD 43)]) (.ent (e91 fu))] [[], [], [0, 1]] false) (.seq (.region [opD 4 (.mov (cD 0))] [[]] false) .ret)) .skip)) (.seq (.region [mvD 45 6, opD 46 (.conv .i64 (tD 45)), mvD 4 46] [[], [0], [1, 0, 1]] false) .ret)))))))
set_option maxRecDepth 1000000 in
theorem v79 (fu : Nat) : evF fu (d79 fu) rs79 47 (e79 fu).ash (e79 fu).osh (e79 fu).vsh = p79 fu := by kernel_rfl
set_option maxRecDepth 1000000 in
theorem b79 (fu : Nat) : BodyD Tryd.prog 79 47 (d79 fu).erase rs79 := bodyD_mk Tryd.func79 (by kernel_rfl) (by kernel_rfl) (by kernel_rfl) (by kernel_rfl)
theorem g79 (fu : Nat) : (e79 fu).Good Tryd.prog := good_by orders (b79 fu) (l := [e51 fu, e91 fu, e91 fu]) (by kernel_rfl) ⟨g51 fu, g91 fu, g91 fu, trivial⟩ (by kernel_rfl) (v79 fu)
def rs68 : List RVx := [(.tmp 4)]
/-- (*gazette/gazetteref01.Reader).Bytes -/
def p68 (fu : Nat) : ((List (Int)) × ((Int) × ((Int) × ((Int) × (Unit))))) × ((Int) × (Unit)) → Option ((((List (Int)) × ((Int) × ((Int) × ((Int) × (Unit))))) × (Unit)) × (List (Int))) := fun ⟨⟨a, c, f, h, _⟩, i, _⟩ =>
Option.bind (p79 fu ((a, c, f, h, ()), i, ())) fun ⟨⟨⟨j, k, l, m, _⟩, _⟩, n⟩ =>
bif (l != (0 : Int)) then
 some (((j, k, l, m, ()), ()), [])
else
 bif decide ((0 : Int) ≤ IntKind.wrap .i64 ((IntKind.wrap .i64 (k + n)) - n)) then
 bif decide ((0 : Int) ≤ IntKind.wrap .i64 (k + n)) then
 bif decide (Int.toNat (IntKind.wrap .i64 ((IntKind.wrap .i64 (k + n)) - n)) ≤ Int.toNat (IntKind.wrap .i64 (k + n)) ∧ Int.toNat (IntKind.wrap .i64 (k + n)) ≤ List.length j) then
 bif decide (0 = List.length ([] : List (Int))) then
 bif decide (List.length ([] : List (Int)) + List.length (slice' j (Int.toNat (IntKind.wrap .i64 ((IntKind.wrap .i64 (k + n)) - n))) (some (Int.toNat (IntKind.wrap .i64 (k + n))))) ≤ maxLen ∧ (List.length ([] : List (Int)) + List.length (slice' j (Int.toNat (IntKind.wrap .i64 ((IntKind.wrap .i64 (k + n)) - n))) (some (Int.toNat (IntKind.wrap .i64 (k + n)))))) * 1 ≤ 140737488355328) then
 bif eqL (([] : List (Int)) ++ slice' j (Int.toNat (IntKind.wrap .i64 ((IntKind.wrap .i64 (k + n)) - n))) (some (Int.toNat (IntKind.wrap .i64 (k + n))))) then
 some (((j, IntKind.wrap .i64 (k + n), l, m, ()), ()), (([] : List (Int)) ++ slice' j (Int.toNat (IntKind.wrap .i64 ((IntKind.wrap .i64 (k + n)) - n))) (some (Int.toNat (IntKind.wrap .i64 (k + n))))))
 else none
 else none
 else none
 else none
 else none
 else none
def e68 (fu : Nat) : Ent := ⟨68, (.cons Y7 (.cons (.hole (.int .i64)) .nil)), (.cons Y8 .nil), (.own .own 5 (.int .u8)), p68 fu⟩
def d68 (fu : Nat) : DC := (.seq (.region [opD 4 (.mov (.const vS))] [[]] false) (.seq (.region [mvD 6 0, mvD 7 1, oqD 8 (.call 79 [(tD 6), (tD 7)]) (.ent (e79 fu)), mvD 5 8] [[], [], [0, 1], [2, 2, 0, 1, 2]] false) (.seq (.seq (.region [mvD 9 0, opD 10 (.pure .nilc [(tD 9)]), opD 11 (.faddr 2 (tD 10)), opD 12 (.load false 1 (tD 11)), opD 13 (.bin .neq (tD 12) (cD 0))] [[], [0], [1], [2], [3]] false) (.cond (.tmp 13) (.seq (.region [opD 4 (.mov (.const vS))] [[]] false) .ret) .skip)) (.seq (.region [mvD 14 0, mvD 15 0, opD 16 (.pure .nilc [(tD 15)]), opD 17 (.faddr 1 (tD 16)), opD 18 (.load false 1 (tD 17)), mvD 19 5, opD 20 (.bin .add (tD 18) (tD 19)), opD 21 (.pure .nilc [(tD 14)]), opD 22 (.faddr 1 (tD 21)), onD (.store 1 (tD 22) (tD 20))] [[], [], [1], [2], [3], [], [4, 5], [0, 0, 1, 2, 3, 4, 5, 6], [7, 0, 1, 2, 3, 4, 5, 6], [8, 6, 0, 1, 2, 3, 4, 5, 6]] false) (.seq (.region [oqD 23 (.bslice 5 1 0 [(.int .u8 0)] []) (.ty (.int .u8)), mvD 24 0, opD 25 (.pure .nilc [(tD 24)]), opD 26 (.faddr 0 (tD 25)), opD 27 (.load false 1 (tD 26)), mvD 28 0, opD 29 (.pure .nilc [(tD 28)]), opD 30 (.faddr 1 (tD 29)), opD 31 (.load false 1 (tD 30)), mvD 32 5, opD 33 (.bin .sub (tD 31) (tD 32)), mvD 34 0, opD 35 (.pure .nilc [(tD 34)]), opD 36 (.faddr 1 (tD 35)), opD 37 (.load false 1 (tD 36)), opD 38 (.slc 1 (tD 27) (some (tD 33)) (some (tD 37))), oqD 39 (.app 5 1 [(.int .u8 0)] 1 (tD 23) (tD 38)) (.ty (.int .u8)), mvD 4 39] [[], [], [1], [2], [3], [], [5], [6], [7], [], [8, 9], [], [11], [12], [13], [4, 10, 14], [0, 15], [16, 16, 0, 1, 2, 3, 4, 5, 6, 7, 8, 9, 10, 11, 12, 13, 14, 15, 16]] true) .ret)))))
set_option maxRecDepth 1000000 in
theorem v68 (fu : Nat) : evF fu (d68 fu) rs68 40 (e68 fu).ash (e68 fu).osh (e68 fu).vsh = p68 fu := by kernel_rfl
set_option maxRecDepth 1000000 in
theorem b68 (fu : Nat) : BodyD Tryd.prog 68 40 (d68 fu).erase rs68 := bodyD_mk Tryd.func68 (by kernel_rfl) (by kernel_rfl) (by kernel_rfl) (by kernel_rfl)
theorem g68 (fu : Nat) : (e68 fu).Good Tryd.prog := good_by orders (b68 fu) (l := [e79 fu]) (by kernel_rfl) ⟨g79 fu, trivial⟩ (by kernel_rfl) (v68 fu)
def rs97 : List RVx := [(.tmp 2)]
/-- (*gazette/gazetteref01.Reader).ints -/
def p97 (fu : Nat) : ((List (Int)) × ((Int) × ((Int) × ((Int) × (Unit))))) × (Unit) → Option ((((List (Int)) × ((Int) × ((Int) × ((Int) × (Unit))))) × (Unit)) × (List (Int))) := fun ⟨⟨a, c, f, h, _⟩, _⟩ =>
Option.bind (p79 fu ((a, c, f, h, ()), (7 : Int), ())) fun ⟨⟨⟨i, j, k, l, _⟩, _⟩, m⟩ =>
orK (E := ((List (Int)) × (Unit)) × (((List (Int)) × ((Int) × ((Int) × ((Int) × (Unit))))) × (Unit)))
 (loopO (S := ((List (Int)) × ((Int) × (Unit))) × (((List (Int)) × ((Int) × ((Int) × ((Int) × (Unit))))) × (Unit))) fu (fun ⟨⟨n, o, _⟩, ⟨⟨q, s, t, u, _⟩, _⟩⟩ =>
 bif decide (o < m) then
 bif (t == (0 : Int)) then
 Option.bind (p65 fu ((q, s, t, u, ()), ())) fun ⟨⟨⟨w, x, y, z, _⟩, _⟩, a0⟩ =>
 bif eqL n then
 bif decide (List.length n + List.length ([a0]) ≤ maxLen ∧ (List.length n + List.length ([a0])) * 8 ≤ 140737488355328) then
 bif eqL (n ++ [a0]) then
 some (.inl (((n ++ [a0]), IntKind.wrap .i64 (o + (1 : Int)), ()), ((w, x, y, z, ()), ())))
 else none
 else none
 else none
 else
 inrO (bif eqL n then
 some (.inl ((n, ()), ((q, s, t, u, ()), ())))
 else none)
 else
 inrO (bif eqL n then
 some (.inl ((n, ()), ((q, s, t, u, ()), ())))
 else none))
 (([], (0 : Int), ()), ((i, j, k, l, ()), ())))
 fun ⟨⟨n, _⟩, ⟨⟨q, s, t, u, _⟩, _⟩⟩ =>
bif (t != (0 : Int)) then
 some (((q, s, t, u, ()), ()), [])
else
 bif eqL n then
 some (((q, s, t, u, ()), ()), n)
 else none
def e97 (fu : Nat) : Ent := ⟨97, (.cons Y7 .nil), (.cons Y8 .nil), (.own .own 3 (.int .i64)), p97 fu⟩
def d97 (fu : Nat) : DC := (.seq (.region [opD 2 (.mov (.const vS))] [[]] false) (.seq (.region [mvD 6 0, oqD 7 (.call 79 [(tD 6), (cD 7)]) (.ent (e79 fu)), mvD 3 7] [[], [0], [1, 1, 0, 1]] false) (.seq (.region [opD 4 (.mov (.const vS))] [[]] false) (.join ⟨[4], (.cons (.own .own 3 (.int .i64)) .nil), [(0, 73, 4)], (.cons Y8 .nil), [0], []⟩
 (.seq (.region [opD 5 (.mov (cD 0))] [[]] false) (.block 0 (.loop ⟨[4, 5], (.cons (.own .own 3 (.int .i64)) (.cons (.hole (.int .i64)) .nil)), [(0, 73, 4)], (.cons Y8 .nil), [0, 3], []⟩
 (.seq (.seq (.region [mvD 8 5, mvD 9 3, opD 10 (.bin .lss (tD 8) (tD 9)), mvD 11 10, ogD 12 11 true (.mov (tD 0)), ogD 13 11 true (.pure .nilc [(tD 12)]), ogD 14 11 true (.faddr 2 (tD 13)), ogD 15 11 true (.load false 1 (tD 14)), ogD 16 11 true (.bin .eql (tD 15) (cD 0)), opD 17 (.pick (tD 11) (tD 16) (.const vB))] [[], [], [0, 1], [2], [3], [4, 3], [5, 3], [6, 3], [7, 3], [3, 8]] false) (.cond (.tmp 17) .skip (.exit 0))) (.seq (.block 1 (.region [mvD 20 4, mvD 21 0, oqD 22 (.call 65 [(tD 21)]) (.ent (e65 fu)), oqD 23 (.bslice 3 1 1 [vI] [(0, (tD 22))]) (.ty (.int .i64)), oqD 24 (.app 3 1 [vI] 8 (tD 20) (tD 23)) (.ty (.int .i64)), mvD 4 24] [[], [], [1], [2], [0, 3, 2], [4, 4, 0, 1, 2, 3, 4]] false)) (.region [mvD 18 5, opD 19 (.bin .add (tD 18) (cD 1)), mvD 5 19] [[], [0], [1, 0, 1]] false))))))
 (.seq (.seq (.region [mvD 25 0, opD 26 (.pure .nilc [(tD 25)]), opD 27 (.faddr 2 (tD 26)), opD 28 (.load false 1 (tD 27)), opD 29 (.bin .neq (tD 28) (cD 0))] [[], [0], [1], [2], [3]] false) (.cond (.tmp 29) (.seq (.region [opD 2 (.mov (.const vS))] [[]] false) .ret) .skip)) (.seq (.region [mvD 30 4, mvD 2 30] [[], [0, 0]] false) .ret))))))
set_option maxRecDepth 1000000 in
theorem v97 (fu : Nat) : evF fu (d97 fu) rs97 31 (e97 fu).ash (e97 fu).osh (e97 fu).vsh = p97 fu := by kernel_rfl
set_option maxRecDepth 1000000 in
theorem b97 (fu : Nat) : BodyD Tryd.prog 97 31 (d97 fu).erase rs97 := bodyD_mk Tryd.func97 (by kernel_rfl) (by kernel_rfl) (by kernel_rfl) (by kernel_rfl)
theorem g97 (fu : Nat) : (e97 fu).Good Tryd.prog := good_by orders (b97 fu) (l := [e79 fu, e65 fu]) (by kernel_rfl) ⟨g79 fu, g65 fu, trivial⟩ (by kernel_rfl) (v97 fu)
def rs72 : List RVx := [(.cell 2 true 2)]
/-- (*gazette/gazetteref01.Reader).Conf -/
def p72 (fu : Nat) : ((List (Int)) × ((Int) × ((Int) × ((Int) × (Unit))))) × (Unit) → Option ((((List (Int)) × ((Int) × ((Int) × ((Int) × (Unit))))) × (Unit)) × ((List (Int)) × ((List (Int)) × (Unit)))) := fun ⟨⟨a, c, f, h, _⟩, _⟩ =>
Option.bind (p97 fu ((a, c, f, h, ()), ())) fun ⟨⟨⟨i, j, k, l, _⟩, _⟩, m⟩ =>
Option.bind (p97 fu ((i, j, k, l, ()), ())) fun ⟨⟨⟨n, o, q, s, _⟩, _⟩, t⟩ =>
bif (q != (0 : Int)) then
 some (((n, o, q, s, ()), ()), ([], [], ()))
else
 bif eqL m then
 bif eqL t then
 some (((n, o, q, s, ()), ()), (m, t, ()))
 else none
 else none
def e72 (fu : Nat) : Ent := ⟨72, (.cons Y7 .nil), (.cons Y8 .nil), (.agg 2 (.cons (.own .own 3 (.int .i64)) (.cons (.own .own 3 (.int .i64)) .nil))), p72 fu⟩
def d72 (fu : Nat) : DC := (.seq (.region [opD 2 (.alloc 31 2 [vS, vS])] [[]] false) (.seq (.region [mvD 4 0, oqD 5 (.call 97 [(tD 4)]) (.ent (e97 fu)), opD 6 (.build 2 [vS, vS] [(0, (1, (tD 5)))]), opD 3 (.alloc 31 2 [vS, vS]), onD (.store 2 (tD 3) (tD 6))] [[], [0], [1], [], [3, 2, 1, 0, 1, 2, 3]] false) (.seq (.region [mvD 7 0, oqD 8 (.call 97 [(tD 7)]) (.ent (e97 fu)), opD 9 (.faddr 1 (tD 3)), onD (.store 1 (tD 9) (tD 8))] [[], [0], [0, 1], [2, 1, 1, 0, 1]] false) (.seq (.seq (.region [mvD 10 0, opD 11 (.pure .nilc [(tD 10)]), opD 12 (.faddr 2 (tD 11)), opD 13 (.load false 1 (tD 12)), opD 14 (.bin .neq (tD 13) (cD 0))] [[], [0], [1], [2], [3]] false) (.cond (.tmp 14) (.seq (.region [opD 15 (.build 2 [vS, vS] []), onD (.store 2 (tD 2) (tD 15))] [[], [0, 0]] false) .ret) .skip)) (.seq (.region [opD 16 (.load true 2 (tD 3)), onD (.store 2 (tD 2) (tD 16))] [[], [0, 0]] false) .ret)))))
set_option maxRecDepth 1000000 in
theorem v72 (fu : Nat) : evF fu (d72 fu) rs72 17 (e72 fu).ash (e72 fu).osh (e72 fu).vsh = p72 fu := by kernel_rfl
set_option maxRecDepth 1000000 in
theorem b72 (fu : Nat) : BodyD Tryd.prog 72 17 (d72 fu).erase rs72 := bodyD_mk Tryd.func72 (by kernel_rfl) (by kernel_rfl) (by kernel_rfl) (by kernel_rfl)
theorem g72 (fu : Nat) : (e72 fu).Good Tryd.prog := good_by orders (b72 fu) (l := [e97 fu, e97 fu]) (by kernel_rfl) ⟨g97 fu, g97 fu, trivial⟩ (by kernel_rfl) (v72 fu)
def rs74 : List RVx := [(.cell 2 true 6)]
/-- (*gazette/gazetteref01.Reader).Entry -/
def p74 (fu : Nat) : ((List (Int)) × ((Int) × ((Int) × ((Int) × (Unit))))) × (Unit) → Option ((((List (Int)) × ((Int) × ((Int) × ((Int) × (Unit))))) × (Unit)) × ((Int) × ((Int) × ((Int) × ((List (Int)) × ((List (Int)) × ((List (Int)) × (Unit)))))))) := fun ⟨⟨a, c, f, h, _⟩, _⟩ =>
Option.bind (p51 fu ((a, c, f, h, ()), ())) fun ⟨⟨⟨i, j, k, l, _⟩, _⟩, m⟩ =>
Option.bind (p51 fu ((i, j, k, l, ()), ())) fun ⟨⟨⟨n, o, q, s, _⟩, _⟩, t⟩ =>
Option.bind (p65 fu ((n, o, q, s, ()), ())) fun ⟨⟨⟨u, w, x, y, _⟩, _⟩, z⟩ =>
orK (E := (Unit) × (((List (Int)) × ((Int) × ((Int) × ((Int) × (Unit))))) × (Unit)))
 (orK (E := ((Bool) × (Unit)) × (Unit))
 (bif decide (z < (1 : Int)) then
 some (.inl ((true, ()), ()))
 else
 some (.inl ((decide (z > (3 : Int)), ()), ())))
 fun ⟨⟨a0, _⟩, _⟩ =>
 bif a0 then
 Option.bind (p91 fu ((u, w, x, y, ()), (16 : Int), o, ())) fun ⟨⟨⟨c0, f0, h0, i0, _⟩, _⟩, _⟩ =>
 some (.inl ((), ((c0, f0, h0, i0, ()), ())))
 else
 some (.inl ((), ((u, w, x, y, ()), ()))))
 fun ⟨_, ⟨⟨j0, k0, l0, m0, _⟩, _⟩⟩ =>
Option.bind (p68 fu ((j0, k0, l0, m0, ()), (262144 : Int), ())) fun ⟨⟨⟨n0, o0, q0, s0, _⟩, _⟩, t0⟩ =>
Option.bind (p72 fu ((n0, o0, q0, s0, ()), ())) fun ⟨⟨⟨u0, w0, x0, y0, _⟩, _⟩, ⟨z0, a1, _⟩⟩ =>
bif (x0 != (0 : Int)) then
 some (((u0, w0, x0, y0, ()), ()), ((0 : Int), (0 : Int), (0 : Int), [], [], [], ()))
else
 bif eqL t0 then
 bif eqL z0 then
 bif eqL a1 then
 some (((u0, w0, x0, y0, ()), ()), (m, t, z, t0, z0, a1, ()))
 else none
 else none
 else none
def e74 (fu : Nat) : Ent := ⟨74, (.cons Y7 .nil), (.cons Y8 .nil), Y9, p74 fu⟩
def d74 (fu : Nat) : DC := (.seq (.region [opD 2 (.alloc 33 6 [vU, vU, vI, vS, vS, vS])] [[]] false) (.seq (.region [mvD 5 0, oqD 6 (.call 51 [(tD 5)]) (.ent (e51 fu)), opD 7 (.build 6 [vU, vU, vI, vS, vS, vS] [(0, (1, (tD 6)))]), opD 3 (.alloc 33 6 [vU, vU, vI, vS, vS, vS]), onD (.store 6 (tD 3) (tD 7))] [[], [0], [1], [], [3, 2, 1, 0, 1, 2, 3]] false) (.seq (.region [mvD 8 0, oqD 9 (.call 51 [(tD 8)]) (.ent (e51 fu)), opD 10 (.faddr 1 (tD 3)), onD (.store 1 (tD 10) (tD 9))] [[], [0], [0, 1], [2, 1, 1, 0, 1]] false) (.seq (.region [mvD 11 0, opD 12 (.pure .nilc [(tD 11)]), opD 13 (.faddr 1 (tD 12)), opD 14 (.load false 1 (tD 13)), mvD 4 14] [[], [0], [1], [2], [3, 0, 1, 2, 3]] false) (.seq (.region [mvD 15 0, oqD 16 (.call 65 [(tD 15)]) (.ent (e65 fu)), opD 17 (.faddr 2 (tD 3)), onD (.store 1 (tD 17) (tD 16))] [[], [0], [0, 1], [2, 1, 1, 0, 1]] false) (.join ⟨[], .nil, [(0, 73, 4)], (.cons Y8 .nil), [0, 2, 3], [2, 66]⟩
 (.join ⟨[25], (.cons (.hole .bool) .nil), [], .nil, [0, 2, 3, 4], [0, 2, 66]⟩
 (.region [opD 18 (.faddr 2 (tD 3)), opD 19 (.load false 1 (tD 18)), opD 20 (.bin .lss (tD 19) (cD 1)), mvD 21 20, ogD 22 21 false (.faddr 2 (tD 3)), ogD 23 21 false (.load false 1 (tD 22)), ogD 24 21 false (.bin .gtr (tD 23) (cD 3)), opD 25 (.pick (tD 21) (.const (.bool true)) (tD 24))] [[], [0], [1], [2], [3], [4, 3], [5, 3], [3, 6]] false)
 (.cond (.tmp 25) (.region [mvD 26 0, mvD 27 4, oqD 28 (.call 91 [(tD 26), (cD 16), (tD 27)]) (.ent (e91 fu))] [[], [], [0, 1]] false) .skip))
 (.seq (.region [mvD 29 0, oqD 30 (.call 68 [(tD 29), (cD 262144)]) (.ent (e68 fu)), opD 31 (.faddr 3 (tD 3)), onD (.store 1 (tD 31) (tD 30))] [[], [0], [0, 1], [2, 1, 1, 0, 1]] false) (.seq (.region [mvD 32 0, oqD 33 (.call 72 [(tD 32)]) (.ent (e72 fu)), opD 34 (.faddr 4 (tD 3)), onD (.store 2 (tD 34) (tD 33))] [[], [0], [0, 1], [2, 1, 1, 0, 1]] false) (.seq (.seq (.region [mvD 35 0, opD 36 (.pure .nilc [(tD 35)]), opD 37 (.faddr 2 (tD 36)), opD 38 (.load false 1 (tD 37)), opD 39 (.bin .neq (tD 38) (cD 0))] [[], [0], [1], [2], [3]] false) (.cond (.tmp 39) (.seq (.region [opD 40 (.build 6 [vU, vU, vI, vS, vS, vS] []), onD (.store 6 (tD 2) (tD 40))] [[], [0, 0]] false) .ret) .skip)) (.seq (.region [opD 41 (.load true 6 (tD 3)), onD (.store 6 (tD 2) (tD 41))] [[], [0, 0]] false) .ret))))))))))
set_option maxRecDepth 1000000 in
theorem v74 (fu : Nat) : evF fu (d74 fu) rs74 42 (e74 fu).ash (e74 fu).osh (e74 fu).vsh = p74 fu := by kernel_rfl
set_option maxRecDepth 1000000 in
theorem b74 (fu : Nat) : BodyD Tryd.prog 74 42 (d74 fu).erase rs74 := bodyD_mk Tryd.func74 (by kernel_rfl) (by kernel_rfl) (by kernel_rfl) (by kernel_rfl)
theorem g74 (fu : Nat) : (e74 fu).Good Tryd.prog := good_by orders (b74 fu) (l := [e51 fu, e51 fu, e65 fu, e91 fu, e68 fu, e72 fu]) (by kernel_rfl) ⟨g51 fu, g51 fu, g65 fu, g91 fu, g68 fu, g72 fu, trivial⟩ (by kernel_rfl) (v74 fu)
def rs76 : List RVx := [(.cell 2 true 5)]
/-- (*gazette/gazetteref01.Reader).Snap -/
def p76 (fu : Nat) : ((List (Int)) × ((Int) × ((Int) × ((Int) × (Unit))))) × (Unit) → Option ((((List (Int)) × ((Int) × ((Int) × ((Int) × (Unit))))) × (Unit)) × ((Int) × ((Int) × ((List (Int)) × ((List (Int)) × ((List (Int)) × (Unit))))))) := fun ⟨⟨a, c, f, h, _⟩, _⟩ =>
Option.bind (p51 fu ((a, c, f, h, ()), ())) fun ⟨⟨⟨i, j, k, l, _⟩, _⟩, m⟩ =>
Option.bind (p51 fu ((i, j, k, l, ()), ())) fun ⟨⟨⟨n, o, q, s, _⟩, _⟩, t⟩ =>
Option.bind (p72 fu ((n, o, q, s, ()), ())) fun ⟨⟨⟨u, w, x, y, _⟩, _⟩, ⟨z, a0, _⟩⟩ =>
Option.bind (p68 fu ((u, w, x, y, ()), (262144 : Int), ())) fun ⟨⟨⟨c0, f0, h0, i0, _⟩, _⟩, j0⟩ =>
bif (h0 != (0 : Int)) then
 some (((c0, f0, h0, i0, ()), ()), ((0 : Int), (0 : Int), [], [], [], ()))
else
 bif eqL z then
 bif eqL a0 then
 bif eqL j0 then
 some (((c0, f0, h0, i0, ()), ()), (m, t, z, a0, j0, ()))
 else none
 else none
 else none
def e76 (fu : Nat) : Ent := ⟨76, (.cons Y7 .nil), (.cons Y8 .nil), Y10, p76 fu⟩
def d76 (fu : Nat) : DC := (.seq (.region [opD 2 (.alloc 37 5 [vU, vU, vS, vS, vS])] [[]] false) (.seq (.region [mvD 4 0, oqD 5 (.call 51 [(tD 4)]) (.ent (e51 fu)), opD 6 (.build 5 [vU, vU, vS, vS, vS] [(0, (1, (tD 5)))]), opD 3 (.alloc 37 5 [vU, vU, vS, vS, vS]), onD (.store 5 (tD 3) (tD 6))] [[], [0], [1], [], [3, 2, 1, 0, 1, 2, 3]] false) (.seq (.region [mvD 7 0, oqD 8 (.call 51 [(tD 7)]) (.ent (e51 fu)), opD 9 (.faddr 1 (tD 3)), onD (.store 1 (tD 9) (tD 8))] [[], [0], [0, 1], [2, 1, 1, 0, 1]] false) (.seq (.region [mvD 10 0, oqD 11 (.call 72 [(tD 10)]) (.ent (e72 fu)), opD 12 (.faddr 2 (tD 3)), onD (.store 2 (tD 12) (tD 11))] [[], [0], [0, 1], [2, 1, 1, 0, 1]] false) (.seq (.region [mvD 13 0, oqD 14 (.call 68 [(tD 13), (cD 262144)]) (.ent (e68 fu)), opD 15 (.faddr 4 (tD 3)), onD (.store 1 (tD 15) (tD 14))] [[], [0], [0, 1], [2, 1, 1, 0, 1]] false) (.seq (.seq (.region [mvD 16 0, opD 17 (.pure .nilc [(tD 16)]), opD 18 (.faddr 2 (tD 17)), opD 19 (.load false 1 (tD 18)), opD 20 (.bin .neq (tD 19) (cD 0))] [[], [0], [1], [2], [3]] false) (.cond (.tmp 20) (.seq (.region [opD 21 (.build 5 [vU, vU, vS, vS, vS] []), onD (.store 5 (tD 2) (tD 21))] [[], [0, 0]] false) .ret) .skip)) (.seq (.region [opD 22 (.load true 5 (tD 3)), onD (.store 5 (tD 2) (tD 22))] [[], [0, 0]] false) .ret)))))))
set_option maxRecDepth 1000000 in
theorem v76 (fu : Nat) : evF fu (d76 fu) rs76 23 (e76 fu).ash (e76 fu).osh (e76 fu).vsh = p76 fu := by kernel_rfl
set_option maxRecDepth 1000000 in
theorem b76 (fu : Nat) : BodyD Tryd.prog 76 23 (d76 fu).erase rs76 := bodyD_mk Tryd.func76 (by kernel_rfl) (by kernel_rfl) (by kernel_rfl) (by kernel_rfl)
theorem g76 (fu : Nat) : (e76 fu).Good Tryd.prog := good_by orders (b76 fu) (l := [e51 fu, e51 fu, e72 fu, e68 fu]) (by kernel_rfl) ⟨g51 fu, g51 fu, g72 fu, g68 fu, trivial⟩ (by kernel_rfl) (v76 fu)
def rs29 : List RVx := [(.tmp 2)]
/-- (*gazette/gazetteref01.Reader).Done -/
def p29 (_ : Nat) : ((List (Int)) × ((Int) × ((Int) × ((Int) × (Unit))))) × (Unit) → Option ((Unit) × (Int)) := fun ⟨⟨a, c, f, _, _⟩, _⟩ =>
orK (E := (Unit) × (Unit))
 (bif (f == (0 : Int)) then
 bif decide (c < (List.length a : Int)) then
 inrO (some ((), (15 : Int)))
 else
 some (.inl ((), ()))
 else
 some (.inl ((), ())))
 fun ⟨_, _⟩ =>
some ((), f)
def e29 (fu : Nat) : Ent := ⟨29, (.cons (.look (.cons (.hole (.sl (.int .u8))) (.cons (.hole (.int .i64)) (.cons (.hole (.int .i64)) (.cons (.hole (.int .i64)) .nil))))) .nil), .nil, (.hole (.int .i64)), p29 fu⟩
def d29 (_ : Nat) : DC := (.seq (.region [opD 2 (.mov (cD 0))] [[]] false) (.join ⟨[], .nil, [], .nil, [0], []⟩
 (.seq (.region [mvD 3 0, opD 4 (.pure .nilc [(tD 3)]), opD 5 (.faddr 2 (tD 4)), opD 6 (.load false 1 (tD 5)), opD 7 (.bin .eql (tD 6) (cD 0)), mvD 8 7, ogD 9 8 true (.mov (tD 0)), ogD 10 8 true (.pure .nilc [(tD 9)]), ogD 11 8 true (.faddr 1 (tD 10)), ogD 12 8 true (.load false 1 (tD 11)), ogD 13 8 true (.mov (tD 0)), ogD 14 8 true (.pure .nilc [(tD 13)]), ogD 15 8 true (.faddr 0 (tD 14)), ogD 16 8 true (.load false 1 (tD 15)), ogD 17 8 true (.len false (tD 16)), ogD 18 8 true (.bin .lss (tD 12) (tD 17)), opD 19 (.pick (tD 8) (tD 18) (.const vB))] [[], [0], [1], [2], [3], [4], [5], [6, 5], [7, 5], [8, 5], [5], [10, 5], [11, 5], [12, 5], [13, 5], [9, 14, 5], [5, 15]] true) (.cond (.tmp 19) (.seq (.region [opD 2 (.mov (cD 15))] [[]] false) .ret) .skip))
 (.seq (.region [mvD 20 0, opD 21 (.pure .nilc [(tD 20)]), opD 22 (.faddr 2 (tD 21)), opD 23 (.load false 1 (tD 22)), mvD 2 23] [[], [0], [1], [2], [3, 0, 1, 2, 3]] false) .ret)))
set_option maxRecDepth 1000000 in
theorem v29 (fu : Nat) : evF fu (d29 fu) rs29 24 (e29 fu).ash (e29 fu).osh (e29 fu).vsh = p29 fu := by kernel_rfl
set_option maxRecDepth 1000000 in
theorem b29 (fu : Nat) : BodyD Tryd.prog 29 24 (d29 fu).erase rs29 := bodyD_mk Tryd.func29 (by kernel_rfl) (by kernel_rfl) (by kernel_rfl) (by kernel_rfl)
theorem g29 (fu : Nat) : (e29 fu).Good Tryd.prog := good_by orders (b29 fu) (l := []) (by kernel_rfl) trivial (by kernel_rfl) (v29 fu)
def rs30 : List RVx := [(.cell 2 true 17), (.tmp 3)]
/-- gazette/gazetteref01.ReadItem -/
def p30 (fu : Nat) : (List (Int)) × (Unit) → Option ((Unit) × ((Z0) × ((Int) × (Unit)))) := fun ⟨a, _⟩ =>
Option.bind (p65 fu ((a, (0 : Int), (0 : Int), (0 : Int), ()), ())) fun ⟨⟨⟨c, f, h, i, _⟩, _⟩, j⟩ =>
orK (E := (Unit) × (((List (Int)) × ((Int) × ((Int) × ((Int) × (Unit))))) × (Unit)))
 (bif decide (j < (1 : Int)) then
 Option.bind (p80 fu ((c, f, h, i, ()), (16 : Int), ())) fun ⟨⟨⟨k, l, m, n, _⟩, _⟩, _⟩ =>
 some (.inl ((), ((k, l, m, n, ()), ())))
 else
 bif decide (j > (5 : Int)) then
 Option.bind (p80 fu ((c, f, h, i, ()), (16 : Int), ())) fun ⟨⟨⟨o, q, s, t, _⟩, _⟩, _⟩ =>
 some (.inl ((), ((o, q, s, t, ()), ())))
 else
 some (.inl ((), ((c, f, h, i, ()), ()))))
 fun ⟨_, ⟨⟨u, w, x, y, _⟩, _⟩⟩ =>
Option.bind (p51 fu ((u, w, x, y, ()), ())) fun ⟨⟨⟨z, a0, c0, f0, _⟩, _⟩, h0⟩ =>
orK (E := (Unit) × (((List (Int)) × ((Int) × ((Int) × ((Int) × (Unit))))) × ((Z0) × (Unit))))
 (bif (j == (1 : Int)) then
 Option.bind (p74 fu ((z, a0, c0, f0, ()), ())) fun ⟨⟨⟨i0, j0, k0, l0, _⟩, _⟩, ⟨m0, n0, o0, q0, s0, t0, _⟩⟩ =>
 bif eqL q0 then
 bif eqL s0 then
 bif eqL t0 then
 some (.inl ((), ((i0, j0, k0, l0, ()), (j, h0, m0, n0, o0, q0, s0, t0, (0 : Int), (0 : Int), (0 : Int), (0 : Int), (0 : Int), (0 : Int), [], [], [], ()), ())))
 else none
 else none
 else none
 else
 bif (j == (2 : Int)) then
 Option.bind (p51 fu ((z, a0, c0, f0, ()), ())) fun ⟨⟨⟨u0, w0, x0, y0, _⟩, _⟩, z0⟩ =>
 Option.bind (p65 fu ((u0, w0, x0, y0, ()), ())) fun ⟨⟨⟨a1, c1, f1, h1, _⟩, _⟩, i1⟩ =>
 Option.bind (p51 fu ((a1, c1, f1, h1, ()), ())) fun ⟨⟨⟨j1, k1, l1, m1, _⟩, _⟩, n1⟩ =>
 some (.inl ((), ((j1, k1, l1, m1, ()), (j, h0, (0 : Int), (0 : Int), (0 : Int), [], [], [], z0, i1, n1, (0 : Int), (0 : Int), (0 : Int), [], [], [], ()), ())))
 else
 bif (j == (3 : Int)) then
 Option.bind (p51 fu ((z, a0, c0, f0, ()), ())) fun ⟨⟨⟨o1, q1, s1, t1, _⟩, _⟩, u1⟩ =>
 some (.inl ((), ((o1, q1, s1, t1, ()), (j, h0, (0 : Int), (0 : Int), (0 : Int), [], [], [], (0 : Int), (0 : Int), (0 : Int), u1, (0 : Int), (0 : Int), [], [], [], ()), ())))
 else
 bif (j == (4 : Int)) then
 Option.bind (p76 fu ((z, a0, c0, f0, ()), ())) fun ⟨⟨⟨w1, x1, y1, z1, _⟩, _⟩, ⟨a2, c2, f2, h2, i2, _⟩⟩ =>
 bif eqL f2 then
 bif eqL h2 then
 bif eqL i2 then
 some (.inl ((), ((w1, x1, y1, z1, ()), (j, h0, (0 : Int), (0 : Int), (0 : Int), [], [], [], (0 : Int), (0 : Int), (0 : Int), (0 : Int), a2, c2, f2, h2, i2, ()), ())))
 else none
 else none
 else none
 else
 some (.inl ((), ((z, a0, c0, f0, ()), (j, h0, (0 : Int), (0 : Int), (0 : Int), [], [], [], (0 : Int), (0 : Int), (0 : Int), (0 : Int), (0 : Int), (0 : Int), [], [], [], ()), ()))))
 fun ⟨_, ⟨⟨u, w, x, y, _⟩, ⟨j2, k2, l2, m2, n2, o2, q2, s2, t2, u2, w2, x2, y2, z2, a3, c3, f3, _⟩, _⟩⟩ =>
Option.bind (p29 fu ((u, w, x, y, ()), ())) fun ⟨_, h3⟩ =>
bif (h3 != (0 : Int)) then
 some ((), (((0 : Int), (0 : Int), (0 : Int), (0 : Int), (0 : Int), [], [], [], (0 : Int), (0 : Int), (0 : Int), (0 : Int), (0 : Int), (0 : Int), [], [], [], ()), h3, ()))
else
 bif eqL o2 then
 bif eqL q2 then
 bif eqL s2 then
 bif eqL a3 then
 bif eqL c3 then
 bif eqL f3 then
 some ((), ((j2, k2, l2, m2, n2, o2, q2, s2, t2, u2, w2, x2, y2, z2, a3, c3, f3, ()), (0 : Int), ()))
 else none
 else none
 else none
 else none
 else none
 else none
def e30 (fu : Nat) : Ent := ⟨30, (.cons (.hole (.sl (.int .u8))) .nil), .nil, (.tup 2 (.cons Y11 (.cons (.hole (.int .i64)) .nil))), p30 fu⟩
def d30 (fu : Nat) : DC := (.seq (.region [opD 2 (.alloc 39 17 [vI, vU, vU, vU, vI, vS, vS, vS, vU, vI, vU, vU, vU, vU, vS, vS, vS]), opD 3 (.mov (cD 0))] [[], []] false) (.seq (.region [mvD 7 0, opD 8 (.build 4 [vS, vI, vI, vI] [(0, (1, (tD 7)))]), opD 9 (.box 73 4 (tD 8)), mvD 4 9] [[], [0], [1], [2, 0, 1, 2]] false) (.seq (.region [mvD 10 4, oqD 11 (.call 65 [(tD 10)]) (.ent (e65 fu)), opD 12 (.build 17 [vI, vU, vU, vU, vI, vS, vS, vS, vU, vI, vU, vU, vU, vU, vS, vS, vS] [(0, (1, (tD 11)))]), opD 5 (.alloc 39 17 [vI, vU, vU, vU, vI, vS, vS, vS, vU, vI, vU, vU, vU, vU, vS, vS, vS]), onD (.store 17 (tD 5) (tD 12))] [[], [0], [1], [], [3, 2, 1, 0, 1, 2, 3]] false) (.join ⟨[], .nil, [(64, 73, 4)], (.cons Y8 .nil), [2, 4, 5], [0, 144]⟩
 (.seq (.region [opD 13 (.faddr 0 (tD 5)), opD 14 (.load false 1 (tD 13)), opD 15 (.bin .lss (tD 14) (cD 1)), mvD 16 15, ogD 17 16 false (.faddr 0 (tD 5)), ogD 18 16 false (.load false 1 (tD 17)), ogD 19 16 false (.bin .gtr (tD 18) (cD 5)), opD 20 (.pick (tD 16) (.const (.bool true)) (tD 19))] [[], [0], [1], [2], [3], [4, 3], [5, 3], [3, 6]] false) (.cond (.tmp 20) (.region [mvD 21 4, oqD 22 (.call 80 [(tD 21), (cD 16)]) (.ent (e80 fu))] [[], [0]] false) .skip))
 (.seq (.region [mvD 23 4, oqD 24 (.call 51 [(tD 23)]) (.ent (e51 fu)), opD 25 (.faddr 1 (tD 5)), onD (.store 1 (tD 25) (tD 24))] [[], [0], [0, 1], [2, 1, 1, 0, 1]] false) (.join ⟨[], .nil, [(64, 73, 4), (144, 39, 17)], (.cons Y8 (.cons Y11 .nil)), [2, 4, 5], [0]⟩
 (.seq (.region [opD 26 (.faddr 0 (tD 5)), opD 27 (.load false 1 (tD 26))] [[], [0]] false) (.block 0 (.seq (.region [opD 29 (.bin .eql (tD 27) (cD 1)), mvD 28 29] [[], [0]] false) (.cond (.tmp 28) (.region [mvD 30 4, oqD 31 (.call 74 [(tD 30)]) (.ent (e74 fu)), opD 32 (.faddr 2 (tD 5)), onD (.store 6 (tD 32) (tD 31))] [[], [0], [0, 1], [2, 1, 1, 0, 1]] false) (.seq (.region [opD 34 (.bin .eql (tD 27) (cD 2)), mvD 33 34] [[], [0]] false) (.cond (.tmp 33) (.seq (.region [mvD 35 4, oqD 36 (.call 51 [(tD 35)]) (.ent (e51 fu)), opD 37 (.faddr 8 (tD 5)), opD 38 (.faddr 0 (tD 37)), onD (.store 1 (tD 38) (tD 36))] [[], [0], [0, 1], [2, 0, 1], [3, 1, 1, 0, 1]] false) (.seq (.region [mvD 39 4, oqD 40 (.call 65 [(tD 39)]) (.ent (e65 fu)), opD 41 (.faddr 8 (tD 5)), opD 42 (.faddr 1 (tD 41)), onD (.store 1 (tD 42) (tD 40))] [[], [0], [0, 1], [2, 0, 1], [3, 1, 1, 0, 1]] false) (.region [mvD 43 4, oqD 44 (.call 51 [(tD 43)]) (.ent (e51 fu)), opD 45 (.faddr 8 (tD 5)), opD 46 (.faddr 2 (tD 45)), onD (.store 1 (tD 46) (tD 44))] [[], [0], [0, 1], [2, 0, 1], [3, 1, 1, 0, 1]] false))) (.seq (.region [opD 48 (.bin .eql (tD 27) (cD 3)), mvD 47 48] [[], [0]] false) (.cond (.tmp 47) (.region [mvD 49 4, oqD 50 (.call 51 [(tD 49)]) (.ent (e51 fu)), opD 51 (.faddr 11 (tD 5)), onD (.store 1 (tD 51) (tD 50))] [[], [0], [0, 1], [2, 1, 1, 0, 1]] false) (.seq (.region [opD 53 (.bin .eql (tD 27) (cD 4)), mvD 52 53] [[], [0]] false) (.cond (.tmp 52) (.region [mvD 54 4, oqD 55 (.call 76 [(tD 54)]) (.ent (e76 fu)), opD 56 (.faddr 12 (tD 5)), onD (.store 5 (tD 56) (tD 55))] [[], [0], [0, 1], [2, 1, 1, 0, 1]] false) .skip))))))))))
 (.seq (.region [mvD 57 4, oqD 58 (.call 29 [(tD 57)]) (.ent (e29 fu)), mvD 6 58] [[], [0], [1, 1, 0, 1]] false) (.seq (.seq (.region [mvD 59 6, opD 60 (.bin .neq (tD 59) (cD 0))] [[], [0]] false) (.cond (.tmp 60) (.seq (.region [opD 61 (.build 17 [vI, vU, vU, vU, vI, vS, vS, vS, vU, vI, vU, vU, vU, vU, vS, vS, vS] []), mvD 62 6, onD (.store 17 (tD 2) (tD 61)), mvD 3 62] [[], [], [0, 0], [1, 2, 0, 1, 2]] false) .ret) .skip)) (.seq (.region [opD 63 (.load true 17 (tD 5)), onD (.store 17 (tD 2) (tD 63)), opD 3 (.mov (cD 0))] [[], [0, 0], [1, 0, 1]] false) .ret)))))))))
set_option maxRecDepth 1000000 in
theorem v30 (fu : Nat) : evF fu (d30 fu) rs30 64 (e30 fu).ash (e30 fu).osh (e30 fu).vsh = p30 fu := by kernel_rfl
set_option maxRecDepth 1000000 in
theorem b30 (fu : Nat) : BodyD Tryd.prog 30 64 (d30 fu).erase rs30 := bodyD_mk Tryd.func30 (by kernel_rfl) (by kernel_rfl) (by kernel_rfl) (by kernel_rfl)
theorem g30 (fu : Nat) : (e30 fu).Good Tryd.prog := good_by orders (b30 fu) (l := [e65 fu, e80 fu, e51 fu, e74 fu, e51 fu, e65 fu, e51 fu, e51 fu, e76 fu, e29 fu]) (by kernel_rfl) ⟨g65 fu, g80 fu, g51 fu, g74 fu, g51 fu, g65 fu, g51 fu, g51 fu, g76 fu, g29 fu, trivial⟩ (by kernel_rfl) (v30 fu)
def rs94 : List RVx := [(.tmp 4)]
/-- gazette/gazetteref01.sameInts -/
def p94 (fu : Nat) : (List (Int)) × ((List (Int)) × (Unit)) → Option ((Unit) × (Bool)) := fun ⟨a, c, _⟩ =>
bif ((List.length a : Int) != (List.length c : Int)) then
 some ((), false)
else
 loopO (S := ((Int) × (Unit)) × (Unit)) fu (fun ⟨⟨f, _⟩, _⟩ =>
 bif decide (f < (List.length a : Int)) then
 bif decide ((0 : Int) ≤ f ∧ f < (List.length a : Int)) then
 bif decide (Int.toNat f < List.length a) then
 bif decide ((0 : Int) ≤ f ∧ f < (List.length c : Int)) then
 bif decide (Int.toNat f < List.length c) then
 bif ((List.getD a (Int.toNat f) (dflt (.int .i64))) != (List.getD c (Int.toNat f) (dflt (.int .i64)))) then
 inrO (some ((), false))
 else
 some (.inl ((IntKind.wrap .i64 (f + (1 : Int)), ()), ()))
 else none
 else none
 else none
 else none
 else
 inrO (some ((), true)))
 (((0 : Int), ()), ())
def e94 (fu : Nat) : Ent := ⟨94, (.cons (.hole (.sl (.int .i64))) (.cons (.hole (.sl (.int .i64))) .nil)), .nil, (.hole .bool), p94 fu⟩
def d94 (_ : Nat) : DC := (.seq (.region [opD 4 (.mov (.const vB))] [[]] false) (.seq (.seq (.region [mvD 6 0, opD 7 (.len false (tD 6)), mvD 8 1, opD 9 (.len false (tD 8)), opD 10 (.bin .neq (tD 7) (tD 9))] [[], [0], [], [2], [1, 3]] false) (.cond (.tmp 10) (.seq (.region [opD 4 (.mov (.const vB))] [[]] false) .ret) .skip)) (.seq (.seq (.region [opD 5 (.mov (cD 0))] [[]] false) (.block 0 (.loop ⟨[5], (.cons (.hole (.int .i64)) .nil), [], .nil, [0, 1], []⟩
 (.seq (.seq (.region [mvD 11 5, mvD 12 0, opD 13 (.len false (tD 12)), opD 14 (.bin .lss (tD 11) (tD 13))] [[], [], [1], [0, 2]] false) (.cond (.tmp 14) .skip (.exit 0))) (.seq (.block 1 (.seq (.region [mvD 17 0, mvD 18 5, opD 19 (.iaddr 1 (tD 17) (tD 18)), opD 20 (.load false 1 (tD 19)), mvD 21 1, mvD 22 5, opD 23 (.iaddr 1 (tD 21) (tD 22)), opD 24 (.load false 1 (tD 23)), opD 25 (.bin .neq (tD 20) (tD 24))] [[], [], [0, 1], [2], [], [], [4, 5], [6], [3, 7]] true) (.cond (.tmp 25) (.seq (.region [opD 4 (.mov (.const vB))] [[]] false) .ret) .skip))) (.region [mvD 15 5, opD 16 (.bin .add (tD 15) (cD 1)), mvD 5 16] [[], [0], [1, 0, 1]] false)))))) (.seq (.region [opD 4 (.mov (.const (.bool true)))] [[]] false) .ret))))
set_option maxRecDepth 1000000 in
theorem v94 (fu : Nat) : evF fu (d94 fu) rs94 26 (e94 fu).ash (e94 fu).osh (e94 fu).vsh = p94 fu := by kernel_rfl
set_option maxRecDepth 1000000 in
theorem b94 (fu : Nat) : BodyD Tryd.prog 94 26 (d94 fu).erase rs94 := bodyD_mk Tryd.func94 (by kernel_rfl) (by kernel_rfl) (by kernel_rfl) (by kernel_rfl)
theorem g94 (fu : Nat) : (e94 fu).Good Tryd.prog := good_by orders (b94 fu) (l := []) (by kernel_rfl) trivial (by kernel_rfl) (v94 fu)
def rs70 : List RVx := [(.tmp 4)]
/-- gazette/gazetteref01.SameConf -/
def p70 (fu : Nat) : ((List (Int)) × ((List (Int)) × (Unit))) × (((List (Int)) × ((List (Int)) × (Unit))) × (Unit)) → Option ((Unit) × (Bool)) := fun ⟨⟨a, c, _⟩, ⟨f, h, _⟩, _⟩ =>
Option.bind (p94 fu (a, f, ())) fun ⟨_, i⟩ =>
bif i then
 Option.bind (p94 fu (c, h, ())) fun ⟨_, j⟩ =>
 some ((), j)
else
 some ((), false)
def e70 (fu : Nat) : Ent := ⟨70, (.cons (.agg 2 (.cons (.hole (.sl (.int .i64))) (.cons (.hole (.sl (.int .i64))) .nil))) (.cons (.agg 2 (.cons (.hole (.sl (.int .i64))) (.cons (.hole (.sl (.int .i64))) .nil))) .nil)), .nil, (.hole .bool), p70 fu⟩
def d70 (fu : Nat) : DC := (.seq (.region [opD 2 (.box 31 2 (tD 0)), opD 3 (.box 31 2 (tD 1)), opD 4 (.mov (.const vB))] [[], [], []] false) (.seq (.region [opD 5 (.faddr 0 (tD 2)), opD 6 (.load false 1 (tD 5)), opD 7 (.faddr 0 (tD 3)), opD 8 (.load false 1 (tD 7)), oqD 9 (.call 94 [(tD 6), (tD 8)]) (.ent (e94 fu)), mvD 10 9, ogD 11 10 true (.faddr 1 (tD 2)), ogD 12 10 true (.load false 1 (tD 11)), ogD 13 10 true (.faddr 1 (tD 3)), ogD 14 10 true (.load false 1 (tD 13)), (⟨(some 15), (some (10, true)), (.call 94 [(tD 12), (tD 14)])⟩, (.ent (e94 fu))), opD 16 (.pick (tD 10) (tD 15) (.const vB)), mvD 4 16] [[], [0], [], [2], [1, 3], [4, 4], [5], [6, 5], [5], [8, 5], [7, 9, 5, 5], [5, 10], [11, 10, 0, 1, 2, 3, 4, 5, 6, 7, 8, 9, 10, 11]] false) .ret))
set_option maxRecDepth 1000000 in
theorem v70 (fu : Nat) : evF fu (d70 fu) rs70 17 (e70 fu).ash (e70 fu).osh (e70 fu).vsh = p70 fu := by kernel_rfl
set_option maxRecDepth 1000000 in
theorem b70 (fu : Nat) : BodyD Tryd.prog 70 17 (d70 fu).erase rs70 := bodyD_mk Tryd.func70 (by kernel_rfl) (by kernel_rfl) (by kernel_rfl) (by kernel_rfl)
theorem g70 (fu : Nat) : (e70 fu).Good Tryd.prog := good_by orders (b70 fu) (l := [e94 fu, e94 fu]) (by kernel_rfl) ⟨g94 fu, g94 fu, trivial⟩ (by kernel_rfl) (v70 fu)
def rs73 : List RVx := [(.tmp 4)]
/-- gazette/gazetteref01.SameEntry -/
def p73 (fu : Nat) : (Z1) × ((Z1) × (Unit)) → Option ((Unit) × (Bool)) := fun ⟨⟨a, c, f, h, i, j, _⟩, ⟨k, l, m, n, o, q, _⟩, _⟩ =>
Option.bind (p70 fu ((i, j, ()), (o, q, ()), ())) fun ⟨_, s⟩ =>
bif s then
 bif (a == k) then
 bif (c == l) then
 bif (f == m) then
 some ((), ByteArray.toList (strOfNums h) == ByteArray.toList (strOfNums n))
 else
 some ((), false)
 else
 some ((), false)
 else
 some ((), false)
else
 some ((), false)
def e73 (fu : Nat) : Ent := ⟨73, (.cons Y2 (.cons Y2 .nil)), .nil, (.hole .bool), p73 fu⟩
def d73 (fu : Nat) : DC := (.seq (.region [opD 2 (.box 33 6 (tD 0)), opD 3 (.box 33 6 (tD 1)), opD 4 (.mov (.const vB))] [[], [], []] false) (.seq (.region [opD 6 (.faddr 4 (tD 2)), opD 7 (.load true 2 (tD 6)), opD 8 (.faddr 4 (tD 3)), opD 9 (.load true 2 (tD 8)), oqD 10 (.call 70 [(tD 7), (tD 9)]) (.ent (e70 fu)), mvD 5 10] [[], [0], [], [2], [1, 3], [4, 4, 0, 1, 2, 3, 4]] false) (.seq (.region [mvD 11 5, mvD 12 11, ogD 13 12 true (.faddr 0 (tD 2)), ogD 14 12 true (.load false 1 (tD 13)), ogD 15 12 true (.faddr 0 (tD 3)), ogD 16 12 true (.load false 1 (tD 15)), ogD 17 12 true (.bin .eql (tD 14) (tD 16)), opD 18 (.pick (tD 12) (tD 17) (.const vB)), mvD 19 18, ogD 20 19 true (.faddr 1 (tD 2)), ogD 21 19 true (.load false 1 (tD 20)), ogD 22 19 true (.faddr 1 (tD 3)), ogD 23 19 true (.load false 1 (tD 22)), ogD 24 19 true (.bin .eql (tD 21) (tD 23)), opD 25 (.pick (tD 19) (tD 24) (.const vB)), mvD 26 25, ogD 27 26 true (.faddr 2 (tD 2)), ogD 28 26 true (.load false 1 (tD 27)), ogD 29 26 true (.faddr 2 (tD 3)), ogD 30 26 true (.load false 1 (tD 29)), ogD 31 26 true (.bin .eql (tD 28) (tD 30)), opD 32 (.pick (tD 26) (tD 31) (.const vB)), mvD 33 32, ogD 34 33 true (.faddr 3 (tD 2)), ogD 35 33 true (.load false 1 (tD 34)), ogD 36 33 true (.b2s (tD 35)), ogD 37 33 true (.faddr 3 (tD 3)), ogD 38 33 true (.load false 1 (tD 37)), ogD 39 33 true (.b2s (tD 38)), ogD 40 33 true (.bin .eql (tD 36) (tD 39)), opD 41 (.pick (tD 33) (tD 40) (.const vB)), mvD 4 41] [[], [0], [1], [2, 1], [1], [4, 1], [3, 5, 1], [1, 6], [7, 1], [8], [9, 8], [8], [11, 8], [10, 12, 8], [8, 13], [14, 8], [15], [16, 15], [15], [18, 15], [17, 19, 15], [15, 20], [21, 15], [22], [23, 22], [24, 22], [22], [26, 22], [27, 22], [25, 28, 22], [22, 29], [30, 22, 0, 1, 2, 3, 4, 5, 6, 7, 8, 9, 10, 11, 12, 13, 14, 15, 16, 17, 18, 19, 20, 21, 22, 23, 24, 25, 26, 27, 28, 29, 30]] false) .ret)))
set_option maxRecDepth 1000000 in
theorem v73 (fu : Nat) : evF fu (d73 fu) rs73 42 (e73 fu).ash (e73 fu).osh (e73 fu).vsh = p73 fu := by kernel_rfl
set_option maxRecDepth 1000000 in
theorem b73 (fu : Nat) : BodyD Tryd.prog 73 42 (d73 fu).erase rs73 := bodyD_mk Tryd.func73 (by kernel_rfl) (by kernel_rfl) (by kernel_rfl) (by kernel_rfl)
theorem g73 (fu : Nat) : (e73 fu).Good Tryd.prog := good_by orders (b73 fu) (l := [e70 fu]) (by kernel_rfl) ⟨g70 fu, trivial⟩ (by kernel_rfl) (v73 fu)
def rs75 : List RVx := [(.tmp 4)]
/-- gazette/gazetteref01.SameSnap -/
def p75 (fu : Nat) : ((Int) × ((Int) × ((List (Int)) × ((List (Int)) × ((List (Int)) × (Unit)))))) × (((Int) × ((Int) × ((List (Int)) × ((List (Int)) × ((List (Int)) × (Unit)))))) × (Unit)) → Option ((Unit) × (Bool)) := fun ⟨⟨a, c, f, h, i, _⟩, ⟨j, k, l, m, n, _⟩, _⟩ =>
Option.bind (p70 fu ((f, h, ()), (l, m, ()), ())) fun ⟨_, o⟩ =>
bif o then
 bif (a == j) then
 bif (c == k) then
 some ((), ByteArray.toList (strOfNums i) == ByteArray.toList (strOfNums n))
 else
 some ((), false)
 else
 some ((), false)
else
 some ((), false)
def e75 (fu : Nat) : Ent := ⟨75, (.cons Y3 (.cons Y3 .nil)), .nil, (.hole .bool), p75 fu⟩
def d75 (fu : Nat) : DC := (.seq (.region [opD 2 (.box 37 5 (tD 0)), opD 3 (.box 37 5 (tD 1)), opD 4 (.mov (.const vB))] [[], [], []] false) (.seq (.region [opD 6 (.faddr 2 (tD 2)), opD 7 (.load true 2 (tD 6)), opD 8 (.faddr 2 (tD 3)), opD 9 (.load true 2 (tD 8)), oqD 10 (.call 70 [(tD 7), (tD 9)]) (.ent (e70 fu)), mvD 5 10] [[], [0], [], [2], [1, 3], [4, 4, 0, 1, 2, 3, 4]] false) (.seq (.region [mvD 11 5, mvD 12 11, ogD 13 12 true (.faddr 0 (tD 2)), ogD 14 12 true (.load false 1 (tD 13)), ogD 15 12 true (.faddr 0 (tD 3)), ogD 16 12 true (.load false 1 (tD 15)), ogD 17 12 true (.bin .eql (tD 14) (tD 16)), opD 18 (.pick (tD 12) (tD 17) (.const vB)), mvD 19 18, ogD 20 19 true (.faddr 1 (tD 2)), ogD 21 19 true (.load false 1 (tD 20)), ogD 22 19 true (.faddr 1 (tD 3)), ogD 23 19 true (.load false 1 (tD 22)), ogD 24 19 true (.bin .eql (tD 21) (tD 23)), opD 25 (.pick (tD 19) (tD 24) (.const vB)), mvD 26 25, ogD 27 26 true (.faddr 4 (tD 2)), ogD 28 26 true (.load false 1 (tD 27)), ogD 29 26 true (.b2s (tD 28)), ogD 30 26 true (.faddr 4 (tD 3)), ogD 31 26 true (.load false 1 (tD 30)), ogD 32 26 true (.b2s (tD 31)), ogD 33 26 true (.bin .eql (tD 29) (tD 32)), opD 34 (.pick (tD 26) (tD 33) (.const vB)), mvD 4 34] [[], [0], [1], [2, 1], [1], [4, 1], [3, 5, 1], [1, 6], [7, 1], [8], [9, 8], [8], [11, 8], [10, 12, 8], [8, 13], [14, 8], [15], [16, 15], [17, 15], [15], [19, 15], [20, 15], [18, 21, 15], [15, 22], [23, 15, 0, 1, 2, 3, 4, 5, 6, 7, 8, 9, 10, 11, 12, 13, 14, 15, 16, 17, 18, 19, 20, 21, 22, 23]] false) .ret)))
set_option maxRecDepth 1000000 in
theorem v75 (fu : Nat) : evF fu (d75 fu) rs75 35 (e75 fu).ash (e75 fu).osh (e75 fu).vsh = p75 fu := by kernel_rfl
set_option maxRecDepth 1000000 in
theorem b75 (fu : Nat) : BodyD Tryd.prog 75 35 (d75 fu).erase rs75 := bodyD_mk Tryd.func75 (by kernel_rfl) (by kernel_rfl) (by kernel_rfl) (by kernel_rfl)
theorem g75 (fu : Nat) : (e75 fu).Good Tryd.prog := good_by orders (b75 fu) (l := [e70 fu]) (by kernel_rfl) ⟨g70 fu, trivial⟩ (by kernel_rfl) (v75 fu)
def rs31 : List RVx := [(.tmp 4)]
/-- gazette/gazetteref01.SameItem -/
def p31 (fu : Nat) : (Z0) × ((Z0) × (Unit)) → Option ((Unit) × (Bool)) := fun ⟨⟨a, c, f, h, i, j, k, l, m, n, o, q, s, t, u, w, x, _⟩, ⟨y, z, a0, c0, f0, h0, i0, j0, k0, l0, m0, n0, o0, q0, s0, t0, u0, _⟩, _⟩ =>
Option.bind (p73 fu ((f, h, i, j, k, l, ()), (a0, c0, f0, h0, i0, j0, ()), ())) fun ⟨_, w0⟩ =>
Option.bind (p75 fu ((s, t, u, w, x, ()), (o0, q0, s0, t0, u0, ()), ())) fun ⟨_, x0⟩ =>
bif w0 then
 bif x0 then
 bif (a == y) then
 bif (c == z) then
 bif (m == k0 && (n == l0 && (o == m0 && true))) then
 some ((), (q == n0))
 else
 some ((), false)
 else
 some ((), false)
 else
 some ((), false)
 else
 some ((), false)
else
 some ((), false)
def e31 (fu : Nat) : Ent := ⟨31, (.cons Y4 (.cons Y4 .nil)), .nil, (.hole .bool), p31 fu⟩
def d31 (fu : Nat) : DC := (.seq (.region [opD 2 (.box 39 17 (tD 0)), opD 3 (.box 39 17 (tD 1)), opD 4 (.mov (.const vB))] [[], [], []] false) (.seq (.region [opD 7 (.faddr 2 (tD 2)), opD 8 (.load true 6 (tD 7)), opD 9 (.faddr 2 (tD 3)), opD 10 (.load true 6 (tD 9)), oqD 11 (.call 73 [(tD 8), (tD 10)]) (.ent (e73 fu)), mvD 5 11] [[], [0], [], [2], [1, 3], [4, 4, 0, 1, 2, 3, 4]] false) (.seq (.region [opD 12 (.faddr 12 (tD 2)), opD 13 (.load true 5 (tD 12)), opD 14 (.faddr 12 (tD 3)), opD 15 (.load true 5 (tD 14)), oqD 16 (.call 75 [(tD 13), (tD 15)]) (.ent (e75 fu)), mvD 6 16] [[], [0], [], [2], [1, 3], [4, 4, 0, 1, 2, 3, 4]] false) (.seq (.region [mvD 17 5, mvD 18 17, ogD 19 18 true (.mov (tD 6)), opD 20 (.pick (tD 18) (tD 19) (.const vB)), mvD 21 20, ogD 22 21 true (.faddr 0 (tD 2)), ogD 23 21 true (.load false 1 (tD 22)), ogD 24 21 true (.faddr 0 (tD 3)), ogD 25 21 true (.load false 1 (tD 24)), ogD 26 21 true (.bin .eql (tD 23) (tD 25)), opD 27 (.pick (tD 21) (tD 26) (.const vB)), mvD 28 27, ogD 29 28 true (.faddr 1 (tD 2)), ogD 30 28 true (.load false 1 (tD 29)), ogD 31 28 true (.faddr 1 (tD 3)), ogD 32 28 true (.load false 1 (tD 31)), ogD 33 28 true (.bin .eql (tD 30) (tD 32)), opD 34 (.pick (tD 28) (tD 33) (.const vB)), mvD 35 34, ogD 36 35 true (.faddr 8 (tD 2)), ogD 37 35 true (.load true 3 (tD 36)), ogD 38 35 true (.faddr 8 (tD 3)), ogD 39 35 true (.load true 3 (tD 38)), ogD 40 35 true (.seq false [.int, .int, .int] (tD 37) (tD 39)), opD 41 (.pick (tD 35) (tD 40) (.const vB)), mvD 42 41, ogD 43 42 true (.faddr 11 (tD 2)), ogD 44 42 true (.load false 1 (tD 43)), ogD 45 42 true (.faddr 11 (tD 3)), ogD 46 42 true (.load false 1 (tD 45)), ogD 47 42 true (.bin .eql (tD 44) (tD 46)), opD 48 (.pick (tD 42) (tD 47) (.const vB)), mvD 4 48] [[], [0], [1], [1, 2], [3, 1], [4], [5, 4], [4], [7, 4], [6, 8, 4], [4, 9], [10, 4], [11], [12, 11], [11], [14, 11], [13, 15, 11], [11, 16], [17, 11], [18], [19, 18], [18], [21, 18], [20, 22, 18], [18, 23], [24, 18], [25], [26, 25], [25], [28, 25], [27, 29, 25], [25, 30], [31, 25, 0, 1, 2, 3, 4, 5, 6, 7, 8, 9, 10, 11, 12, 13, 14, 15, 16, 17, 18, 19, 20, 21, 22, 23, 24, 25, 26, 27, 28, 29, 30, 31]] false) .ret))))
set_option maxRecDepth 1000000 in
theorem v31 (fu : Nat) : evF fu (d31 fu) rs31 49 (e31 fu).ash (e31 fu).osh (e31 fu).vsh = p31 fu := by kernel_rfl
set_option maxRecDepth 1000000 in
theorem b31 (fu : Nat) : BodyD Tryd.prog 31 49 (d31 fu).erase rs31 := bodyD_mk Tryd.func31 (by kernel_rfl) (by kernel_rfl) (by kernel_rfl) (by kernel_rfl)
theorem g31 (fu : Nat) : (e31 fu).Good Tryd.prog := good_by orders (b31 fu) (l := [e73 fu, e75 fu]) (by kernel_rfl) ⟨g73 fu, g75 fu, trivial⟩ (by kernel_rfl) (v31 fu)
def rs52 : List RVx := [(.tmp 2)]
/-- gazette/gazetteref01.Uint -/
def p52 (fu : Nat) : (Int) × (Unit) → Option ((Unit) × (List (Int))) := fun ⟨a, _⟩ =>
loopO (S := ((Int) × ((List (Int)) × (Unit))) × (Unit)) fu (fun ⟨⟨c, f, _⟩, _⟩ =>
 bif decide (c ≥ (128 : Int)) then
 bif eqL f then
 bif decide (List.length f + List.length ([IntKind.wrap .u8 ((IntKind.wrap .u8 (IntKind.wrap .u64 ((BitVec.ofInt (IntKind.bits .u64) c &&& BitVec.ofInt (IntKind.bits .u64) (127 : Int)).toNat : Int))) + (128 : Int))]) ≤ maxLen ∧ (List.length f + List.length ([IntKind.wrap .u8 ((IntKind.wrap .u8 (IntKind.wrap .u64 ((BitVec.ofInt (IntKind.bits .u64) c &&& BitVec.ofInt (IntKind.bits .u64) (127 : Int)).toNat : Int))) + (128 : Int))])) * 1 ≤ 140737488355328) then
 bif eqL (f ++ [IntKind.wrap .u8 ((IntKind.wrap .u8 (IntKind.wrap .u64 ((BitVec.ofInt (IntKind.bits .u64) c &&& BitVec.ofInt (IntKind.bits .u64) (127 : Int)).toNat : Int))) + (128 : Int))]) then
 some (.inl ((Int.fdiv c (2 ^ (min (Int.toNat (7 : Int)) (IntKind.bits .u64))), (f ++ [IntKind.wrap .u8 ((IntKind.wrap .u8 (IntKind.wrap .u64 ((BitVec.ofInt (IntKind.bits .u64) c &&& BitVec.ofInt (IntKind.bits .u64) (127 : Int)).toNat : Int))) + (128 : Int))]), ()), ()))
 else none
 else none
 else none
 else
 inrO (bif eqL f then
 bif decide (List.length f + List.length ([IntKind.wrap .u8 c]) ≤ maxLen ∧ (List.length f + List.length ([IntKind.wrap .u8 c])) * 1 ≤ 140737488355328) then
 bif eqL (f ++ [IntKind.wrap .u8 c]) then
 some ((), (f ++ [IntKind.wrap .u8 c]))
 else none
 else none
 else none))
 ((a, [], ()), ())
def e52 (fu : Nat) : Ent := ⟨52, (.cons (.hole (.int .u64)) .nil), .nil, (.own .own 5 (.int .u8)), p52 fu⟩
def d52 (_ : Nat) : DC := (.seq (.region [opD 2 (.mov (.const vS))] [[]] false) (.seq (.region [opD 3 (.mov (.const vS))] [[]] false) (.seq (.block 0 (.loop ⟨[0, 3], (.cons (.hole (.int .u64)) (.cons (.own .own 5 (.int .u8)) .nil)), [], .nil, [], []⟩
 (.seq (.seq (.region [mvD 4 0, opD 5 (.bin .geq (tD 4) (.const (.int .u64 128)))] [[], [0]] false) (.cond (.tmp 5) .skip (.exit 0))) (.block 1 (.seq (.region [mvD 6 3, mvD 7 0, opD 8 (.bin .and (tD 7) (.const (.int .u64 127))), opD 9 (.conv .u8 (tD 8)), opD 10 (.bin .add (tD 9) (.const (.int .u8 128))), oqD 11 (.bslice 5 1 1 [(.int .u8 0)] [(0, (tD 10))]) (.ty (.int .u8)), oqD 12 (.app 5 1 [(.int .u8 0)] 1 (tD 6) (tD 11)) (.ty (.int .u8)), mvD 3 12] [[], [], [1], [2], [3], [4], [0, 5], [6, 6, 0, 1, 2, 3, 4, 5, 6]] false) (.region [mvD 13 0, opD 14 (.bin .shr (tD 13) (.const (.int .u64 7))), mvD 0 14] [[], [0], [1, 0, 1]] false)))))) (.seq (.region [mvD 15 3, mvD 16 0, opD 17 (.conv .u8 (tD 16)), oqD 18 (.bslice 5 1 1 [(.int .u8 0)] [(0, (tD 17))]) (.ty (.int .u8)), oqD 19 (.app 5 1 [(.int .u8 0)] 1 (tD 15) (tD 18)) (.ty (.int .u8)), mvD 2 19] [[], [], [1], [2], [0, 3], [4, 4, 0, 1, 2, 3, 4]] false) .ret))))
set_option maxRecDepth 1000000 in
theorem v52 (fu : Nat) : evF fu (d52 fu) rs52 20 (e52 fu).ash (e52 fu).osh (e52 fu).vsh = p52 fu := by kernel_rfl
set_option maxRecDepth 1000000 in
theorem b52 (fu : Nat) : BodyD Tryd.prog 52 20 (d52 fu).erase rs52 := bodyD_mk Tryd.func52 (by kernel_rfl) (by kernel_rfl) (by kernel_rfl) (by kernel_rfl)
theorem g52 (fu : Nat) : (e52 fu).Good Tryd.prog := good_by orders (b52 fu) (l := []) (by kernel_rfl) trivial (by kernel_rfl) (v52 fu)
def rs53 : List RVx := [(.tmp 2)]
/-- gazette/gazetteref01.Int -/
def p53 (fu : Nat) : (Int) × (Unit) → Option ((Unit) × (List (Int))) := fun ⟨a, _⟩ =>
bif decide (a < (0 : Int)) then
 Option.bind (p52 fu (IntKind.wrap .u64 ((IntKind.wrap .u64 ((2 : Int) * (IntKind.wrap .u64 (IntKind.wrap .i64 (0 - (IntKind.wrap .i64 (a + (1 : Int)))))))) + (1 : Int)), ())) fun ⟨_, c⟩ =>
 bif eqL c then
 some ((), c)
 else none
else
 Option.bind (p52 fu (IntKind.wrap .u64 ((2 : Int) * (IntKind.wrap .u64 a)), ())) fun ⟨_, f⟩ =>
 bif eqL f then
 some ((), f)
 else none
def e53 (fu : Nat) : Ent := ⟨53, (.cons (.hole (.int .i64)) .nil), .nil, (.own .own 5 (.int .u8)), p53 fu⟩
def d53 (fu : Nat) : DC := (.seq (.region [opD 2 (.mov (.const vS))] [[]] false) (.seq (.seq (.region [mvD 3 0, opD 4 (.bin .lss (tD 3) (cD 0))] [[], [0]] false) (.cond (.tmp 4) (.seq (.region [mvD 5 0, opD 6 (.bin .add (tD 5) (cD 1)), opD 7 (.pure .neg [(tD 6)]), opD 8 (.conv .u64 (tD 7)), opD 9 (.bin .mul (.const (.int .u64 2)) (tD 8)), opD 10 (.bin .add (tD 9) (.const (.int .u64 1))), oqD 11 (.call 52 [(tD 10)]) (.ent (e52 fu)), mvD 2 11] [[], [0], [1], [2], [3], [4], [5], [6, 6, 0, 1, 2, 3, 4, 5, 6]] false) .ret) .skip)) (.seq (.region [mvD 12 0, opD 13 (.conv .u64 (tD 12)), opD 14 (.bin .mul (.const (.int .u64 2)) (tD 13)), oqD 15 (.call 52 [(tD 14)]) (.ent (e52 fu)), mvD 2 15] [[], [0], [1], [2], [3, 3, 0, 1, 2, 3]] false) .ret)))
set_option maxRecDepth 1000000 in
theorem v53 (fu : Nat) : evF fu (d53 fu) rs53 16 (e53 fu).ash (e53 fu).osh (e53 fu).vsh = p53 fu := by kernel_rfl
set_option maxRecDepth 1000000 in
theorem b53 (fu : Nat) : BodyD Tryd.prog 53 16 (d53 fu).erase rs53 := bodyD_mk Tryd.func53 (by kernel_rfl) (by kernel_rfl) (by kernel_rfl) (by kernel_rfl)
theorem g53 (fu : Nat) : (e53 fu).Good Tryd.prog := good_by orders (b53 fu) (l := [e52 fu, e52 fu]) (by kernel_rfl) ⟨g52 fu, g52 fu, trivial⟩ (by kernel_rfl) (v53 fu)
def rs56 : List RVx := [(.tmp 2)]
/-- gazette/gazetteref01.Text -/
def p56 (fu : Nat) : (List (Int)) × (Unit) → Option ((Unit) × (List (Int))) := fun ⟨a, _⟩ =>
Option.bind (p52 fu (IntKind.wrap .u64 (List.length a : Int), ())) fun ⟨_, c⟩ =>
bif eqL c then
 bif decide (List.length c + List.length a ≤ maxLen ∧ (List.length c + List.length a) * 1 ≤ 140737488355328) then
 bif eqL (c ++ a) then
 some ((), (c ++ a))
 else none
 else none
else none
def e56 (fu : Nat) : Ent := ⟨56, (.cons (.hole (.sl (.int .u8))) .nil), .nil, (.own .own 5 (.int .u8)), p56 fu⟩
def d56 (fu : Nat) : DC := (.seq (.region [opD 2 (.mov (.const vS))] [[]] false) (.seq (.region [mvD 3 0, opD 4 (.len false (tD 3)), opD 5 (.conv .u64 (tD 4)), oqD 6 (.call 52 [(tD 5)]) (.ent (e52 fu)), mvD 7 0, oqD 8 (.app 5 1 [(.int .u8 0)] 1 (tD 6) (tD 7)) (.ty (.int .u8)), mvD 2 8] [[], [0], [1], [2], [], [3, 4, 3], [5, 5, 0, 1, 2, 3, 4, 5]] false) .ret))
set_option maxRecDepth 1000000 in
theorem v56 (fu : Nat) : evF fu (d56 fu) rs56 9 (e56 fu).ash (e56 fu).osh (e56 fu).vsh = p56 fu := by kernel_rfl
set_option maxRecDepth 1000000 in
theorem b56 (fu : Nat) : BodyD Tryd.prog 56 9 (d56 fu).erase rs56 := bodyD_mk Tryd.func56 (by kernel_rfl) (by kernel_rfl) (by kernel_rfl) (by kernel_rfl)
theorem g56 (fu : Nat) : (e56 fu).Good Tryd.prog := good_by orders (b56 fu) (l := [e52 fu]) (by kernel_rfl) ⟨g52 fu, trivial⟩ (by kernel_rfl) (v56 fu)
def rs93 : List RVx := [(.tmp 2)]
/-- gazette/gazetteref01.ints -/
def p93 (fu : Nat) : (List (Int)) × (Unit) → Option ((Unit) × (List (Int))) := fun ⟨a, _⟩ =>
Option.bind (p52 fu (IntKind.wrap .u64 (List.length a : Int), ())) fun ⟨_, c⟩ =>
bif eqL c then
 loopO (S := ((List (Int)) × ((Int) × (Unit))) × (Unit)) fu (fun ⟨⟨f, h, _⟩, _⟩ =>
 bif decide (h < (List.length a : Int)) then
 bif decide ((0 : Int) ≤ h ∧ h < (List.length a : Int)) then
 bif decide (Int.toNat h < List.length a) then
 Option.bind (p53 fu ((List.getD a (Int.toNat h) (dflt (.int .i64))), ())) fun ⟨_, i⟩ =>
 bif eqL f then
 bif eqL i then
 bif decide (List.length f + List.length i ≤ maxLen ∧ (List.length f + List.length i) * 1 ≤ 140737488355328) then
 bif eqL (f ++ i) then
 some (.inl (((f ++ i), IntKind.wrap .i64 (h + (1 : Int)), ()), ()))
 else none
 else none
 else none
 else none
 else none
 else none
 else
 inrO (bif eqL f then
 some ((), f)
 else none))
 ((c, (0 : Int), ()), ())
else none
def e93 (fu : Nat) : Ent := ⟨93, (.cons (.hole (.sl (.int .i64))) .nil), .nil, (.own .own 5 (.int .u8)), p93 fu⟩
def d93 (fu : Nat) : DC := (.seq (.region [opD 2 (.mov (.const vS))] [[]] false) (.seq (.region [mvD 5 0, opD 6 (.len false (tD 5)), opD 7 (.conv .u64 (tD 6)), oqD 8 (.call 52 [(tD 7)]) (.ent (e52 fu)), mvD 3 8] [[], [0], [1], [2], [3, 3, 0, 1, 2, 3]] false) (.seq (.seq (.region [opD 4 (.mov (cD 0))] [[]] false) (.block 0 (.loop ⟨[3, 4], (.cons (.own .own 5 (.int .u8)) (.cons (.hole (.int .i64)) .nil)), [], .nil, [0], []⟩
 (.seq (.seq (.region [mvD 9 4, mvD 10 0, opD 11 (.len false (tD 10)), opD 12 (.bin .lss (tD 9) (tD 11))] [[], [], [1], [0, 2]] false) (.cond (.tmp 12) .skip (.exit 0))) (.seq (.block 1 (.region [mvD 15 3, mvD 16 0, mvD 17 4, opD 18 (.iaddr 1 (tD 16) (tD 17)), opD 19 (.load false 1 (tD 18)), oqD 20 (.call 53 [(tD 19)]) (.ent (e53 fu)), oqD 21 (.app 5 1 [(.int .u8 0)] 1 (tD 15) (tD 20)) (.ty (.int .u8)), mvD 3 21] [[], [], [], [1, 2], [3], [4], [0, 5, 5], [6, 6, 0, 1, 2, 3, 4, 5, 6]] false)) (.region [mvD 13 4, opD 14 (.bin .add (tD 13) (cD 1)), mvD 4 14] [[], [0], [1, 0, 1]] false)))))) (.seq (.region [mvD 22 3, mvD 2 22] [[], [0, 0]] false) .ret))))
set_option maxRecDepth 1000000 in
theorem v93 (fu : Nat) : evF fu (d93 fu) rs93 23 (e93 fu).ash (e93 fu).osh (e93 fu).vsh = p93 fu := by kernel_rfl
set_option maxRecDepth 1000000 in
theorem b93 (fu : Nat) : BodyD Tryd.prog 93 23 (d93 fu).erase rs93 := bodyD_mk Tryd.func93 (by kernel_rfl) (by kernel_rfl) (by kernel_rfl) (by kernel_rfl)
theorem g93 (fu : Nat) : (e93 fu).Good Tryd.prog := good_by orders (b93 fu) (l := [e52 fu, e53 fu]) (by kernel_rfl) ⟨g52 fu, g53 fu, trivial⟩ (by kernel_rfl) (v93 fu)
def rs58 : List RVx := [(.tmp 2)]
/-- gazette/gazetteref01.Conf -/
def p58 (fu : Nat) : ((List (Int)) × ((List (Int)) × (Unit))) × (Unit) → Option ((Unit) × (List (Int))) := fun ⟨⟨a, c, _⟩, _⟩ =>
Option.bind (p93 fu (a, ())) fun ⟨_, f⟩ =>
Option.bind (p93 fu (c, ())) fun ⟨_, h⟩ =>
bif eqL f then
 bif eqL h then
 bif decide (List.length f + List.length h ≤ maxLen ∧ (List.length f + List.length h) * 1 ≤ 140737488355328) then
 bif eqL (f ++ h) then
 some ((), (f ++ h))
 else none
 else none
 else none
else none
def e58 (fu : Nat) : Ent := ⟨58, (.cons (.agg 2 (.cons (.hole (.sl (.int .i64))) (.cons (.hole (.sl (.int .i64))) .nil))) .nil), .nil, (.own .own 5 (.int .u8)), p58 fu⟩
def d58 (fu : Nat) : DC := (.seq (.region [opD 1 (.box 31 2 (tD 0)), opD 2 (.mov (.const vS))] [[], []] false) (.seq (.region [opD 3 (.faddr 0 (tD 1)), opD 4 (.load false 1 (tD 3)), oqD 5 (.call 93 [(tD 4)]) (.ent (e93 fu)), opD 6 (.faddr 1 (tD 1)), opD 7 (.load false 1 (tD 6)), oqD 8 (.call 93 [(tD 7)]) (.ent (e93 fu)), oqD 9 (.app 5 1 [(.int .u8 0)] 1 (tD 5) (tD 8)) (.ty (.int .u8)), mvD 2 9] [[], [0], [1], [], [3], [4, 2], [2, 5, 5], [6, 6, 0, 1, 2, 3, 4, 5, 6]] true) .ret))
set_option maxRecDepth 1000000 in
theorem v58 (fu : Nat) : evF fu (d58 fu) rs58 10 (e58 fu).ash (e58 fu).osh (e58 fu).vsh = p58 fu := by kernel_rfl
set_option maxRecDepth 1000000 in
theorem b58 (fu : Nat) : BodyD Tryd.prog 58 10 (d58 fu).erase rs58 := bodyD_mk Tryd.func58 (by kernel_rfl) (by kernel_rfl) (by kernel_rfl) (by kernel_rfl)
theorem g58 (fu : Nat) : (e58 fu).Good Tryd.prog := good_by orders (b58 fu) (l := [e93 fu, e93 fu]) (by kernel_rfl) ⟨g93 fu, g93 fu, trivial⟩ (by kernel_rfl) (v58 fu)
def rs59 : List RVx := [(.tmp 2)]
/-- gazette/gazetteref01.Entry -/
def p59 (fu : Nat) : (Z1) × (Unit) → Option ((Unit) × (List (Int))) := fun ⟨⟨a, c, f, h, i, j, _⟩, _⟩ =>
Option.bind (p52 fu (a, ())) fun ⟨_, k⟩ =>
Option.bind (p52 fu (c, ())) fun ⟨_, l⟩ =>
bif eqL k then
 bif eqL l then
 bif decide (List.length k + List.length l ≤ maxLen ∧ (List.length k + List.length l) * 1 ≤ 140737488355328) then
 Option.bind (p53 fu (f, ())) fun ⟨_, m⟩ =>
 bif eqL (k ++ l) then
 bif eqL m then
 bif decide (List.length (k ++ l) + List.length m ≤ maxLen ∧ (List.length (k ++ l) + List.length m) * 1 ≤ 140737488355328) then
 Option.bind (p56 fu (h, ())) fun ⟨_, n⟩ =>
 bif eqL ((k ++ l) ++ m) then
 bif eqL n then
 bif decide (List.length ((k ++ l) ++ m) + List.length n ≤ maxLen ∧ (List.length ((k ++ l) ++ m) + List.length n) * 1 ≤ 140737488355328) then
 Option.bind (p58 fu ((i, j, ()), ())) fun ⟨_, o⟩ =>
 bif eqL (((k ++ l) ++ m) ++ n) then
 bif eqL o then
 bif decide (List.length (((k ++ l) ++ m) ++ n) + List.length o ≤ maxLen ∧ (List.length (((k ++ l) ++ m) ++ n) + List.length o) * 1 ≤ 140737488355328) then
 bif eqL ((((k ++ l) ++ m) ++ n) ++ o) then
 some ((), ((((k ++ l) ++ m) ++ n) ++ o))
 else none
 else none
 else none
 else none
 else none
 else none
 else none
 else none
 else none
 else none
 else none
 else none
else none
def e59 (fu : Nat) : Ent := ⟨59, (.cons Y2 .nil), .nil, (.own .own 5 (.int .u8)), p59 fu⟩
def d59 (fu : Nat) : DC := (.seq (.region [opD 1 (.box 33 6 (tD 0)), opD 2 (.mov (.const vS))] [[], []] false) (.seq (.region [opD 4 (.faddr 0 (tD 1)), opD 5 (.load false 1 (tD 4)), oqD 6 (.call 52 [(tD 5)]) (.ent (e52 fu)), opD 7 (.faddr 1 (tD 1)), opD 8 (.load false 1 (tD 7)), oqD 9 (.call 52 [(tD 8)]) (.ent (e52 fu)), oqD 10 (.app 5 1 [(.int .u8 0)] 1 (tD 6) (tD 9)) (.ty (.int .u8)), mvD 3 10] [[], [0], [1], [], [3], [4, 2], [2, 5, 5], [6, 6, 0, 1, 2, 3, 4, 5, 6]] true) (.seq (.region [mvD 11 3, opD 12 (.faddr 2 (tD 1)), opD 13 (.load false 1 (tD 12)), oqD 14 (.call 53 [(tD 13)]) (.ent (e53 fu)), oqD 15 (.app 5 1 [(.int .u8 0)] 1 (tD 11) (tD 14)) (.ty (.int .u8)), mvD 3 15] [[], [], [1], [2], [0, 3, 3], [4, 4, 0, 1, 2, 3, 4]] false) (.seq (.region [mvD 16 3, opD 17 (.faddr 3 (tD 1)), opD 18 (.load false 1 (tD 17)), oqD 19 (.call 56 [(tD 18)]) (.ent (e56 fu)), oqD 20 (.app 5 1 [(.int .u8 0)] 1 (tD 16) (tD 19)) (.ty (.int .u8)), mvD 3 20] [[], [], [1], [2], [0, 3, 3], [4, 4, 0, 1, 2, 3, 4]] false) (.seq (.region [mvD 21 3, opD 22 (.faddr 4 (tD 1)), opD 23 (.load true 2 (tD 22)), oqD 24 (.call 58 [(tD 23)]) (.ent (e58 fu)), oqD 25 (.app 5 1 [(.int .u8 0)] 1 (tD 21) (tD 24)) (.ty (.int .u8)), mvD 2 25] [[], [], [1], [2], [0, 3, 3], [4, 4, 0, 1, 2, 3, 4]] false) .ret)))))
set_option maxRecDepth 1000000 in
theorem v59 (fu : Nat) : evF fu (d59 fu) rs59 26 (e59 fu).ash (e59 fu).osh (e59 fu).vsh = p59 fu := by kernel_rfl
set_option maxRecDepth 1000000 in
theorem b59 (fu : Nat) : BodyD Tryd.prog 59 26 (d59 fu).erase rs59 := bodyD_mk Tryd.func59 (by kernel_rfl) (by kernel_rfl) (by kernel_rfl) (by kernel_rfl)
theorem g59 (fu : Nat) : (e59 fu).Good Tryd.prog := good_by orders (b59 fu) (l := [e52 fu, e52 fu, e53 fu, e56 fu, e58 fu]) (by kernel_rfl) ⟨g52 fu, g52 fu, g53 fu, g56 fu, g58 fu, trivial⟩ (by kernel_rfl) (v59 fu)
def rs60 : List RVx := [(.tmp 2)]
/-- gazette/gazetteref01.Snap -/
def p60 (fu : Nat) : ((Int) × ((Int) × ((List (Int)) × ((List (Int)) × ((List (Int)) × (Unit)))))) × (Unit) → Option ((Unit) × (List (Int))) := fun ⟨⟨a, c, f, h, i, _⟩, _⟩ =>
Option.bind (p52 fu (a, ())) fun ⟨_, j⟩ =>
Option.bind (p52 fu (c, ())) fun ⟨_, k⟩ =>
bif eqL j then
 bif eqL k then
 bif decide (List.length j + List.length k ≤ maxLen ∧ (List.length j + List.length k) * 1 ≤ 140737488355328) then
 Option.bind (p58 fu ((f, h, ()), ())) fun ⟨_, l⟩ =>
 bif eqL (j ++ k) then
 bif eqL l then
 bif decide (List.length (j ++ k) + List.length l ≤ maxLen ∧ (List.length (j ++ k) + List.length l) * 1 ≤ 140737488355328) then
 Option.bind (p56 fu (i, ())) fun ⟨_, m⟩ =>
 bif eqL ((j ++ k) ++ l) then
 bif eqL m then
 bif decide (List.length ((j ++ k) ++ l) + List.length m ≤ maxLen ∧ (List.length ((j ++ k) ++ l) + List.length m) * 1 ≤ 140737488355328) then
 bif eqL (((j ++ k) ++ l) ++ m) then
 some ((), (((j ++ k) ++ l) ++ m))
 else none
 else none
 else none
 else none
 else none
 else none
 else none
 else none
 else none
else none
def e60 (fu : Nat) : Ent := ⟨60, (.cons Y3 .nil), .nil, (.own .own 5 (.int .u8)), p60 fu⟩
def d60 (fu : Nat) : DC := (.seq (.region [opD 1 (.box 37 5 (tD 0)), opD 2 (.mov (.const vS))] [[], []] false) (.seq (.region [opD 4 (.faddr 0 (tD 1)), opD 5 (.load false 1 (tD 4)), oqD 6 (.call 52 [(tD 5)]) (.ent (e52 fu)), opD 7 (.faddr 1 (tD 1)), opD 8 (.load false 1 (tD 7)), oqD 9 (.call 52 [(tD 8)]) (.ent (e52 fu)), oqD 10 (.app 5 1 [(.int .u8 0)] 1 (tD 6) (tD 9)) (.ty (.int .u8)), mvD 3 10] [[], [0], [1], [], [3], [4, 2], [2, 5, 5], [6, 6, 0, 1, 2, 3, 4, 5, 6]] true) (.seq (.region [mvD 11 3, opD 12 (.faddr 2 (tD 1)), opD 13 (.load true 2 (tD 12)), oqD 14 (.call 58 [(tD 13)]) (.ent (e58 fu)), oqD 15 (.app 5 1 [(.int .u8 0)] 1 (tD 11) (tD 14)) (.ty (.int .u8)), mvD 3 15] [[], [], [1], [2], [0, 3, 3], [4, 4, 0, 1, 2, 3, 4]] false) (.seq (.region [mvD 16 3, opD 17 (.faddr 4 (tD 1)), opD 18 (.load false 1 (tD 17)), oqD 19 (.call 56 [(tD 18)]) (.ent (e56 fu)), oqD 20 (.app 5 1 [(.int .u8 0)] 1 (tD 16) (tD 19)) (.ty (.int .u8)), mvD 2 20] [[], [], [1], [2], [0, 3, 3], [4, 4, 0, 1, 2, 3, 4]] false) .ret))))
set_option maxRecDepth 1000000 in
theorem v60 (fu : Nat) : evF fu (d60 fu) rs60 21 (e60 fu).ash (e60 fu).osh (e60 fu).vsh = p60 fu := by kernel_rfl
set_option maxRecDepth 1000000 in
theorem b60 (fu : Nat) : BodyD Tryd.prog 60 21 (d60 fu).erase rs60 := bodyD_mk Tryd.func60 (by kernel_rfl) (by kernel_rfl) (by kernel_rfl) (by kernel_rfl)
theorem g60 (fu : Nat) : (e60 fu).Good Tryd.prog := good_by orders (b60 fu) (l := [e52 fu, e52 fu, e58 fu, e56 fu]) (by kernel_rfl) ⟨g52 fu, g52 fu, g58 fu, g56 fu, trivial⟩ (by kernel_rfl) (v60 fu)
def rs32 : List RVx := [(.tmp 2)]
/-- gazette/gazetteref01.Item -/
def p32 (fu : Nat) : (Z0) × (Unit) → Option ((Unit) × (List (Int))) := fun ⟨⟨a, c, f, h, i, j, k, l, m, n, o, q, s, t, u, w, x, _⟩, _⟩ =>
Option.bind (p53 fu (a, ())) fun ⟨_, y⟩ =>
Option.bind (p52 fu (c, ())) fun ⟨_, z⟩ =>
bif eqL y then
 bif eqL z then
 bif decide (List.length y + List.length z ≤ maxLen ∧ (List.length y + List.length z) * 1 ≤ 140737488355328) then
 bif (a == (1 : Int)) then
 Option.bind (p59 fu ((f, h, i, j, k, l, ()), ())) fun ⟨_, a0⟩ =>
 bif eqL (y ++ z) then
 bif eqL a0 then
 bif decide (List.length (y ++ z) + List.length a0 ≤ maxLen ∧ (List.length (y ++ z) + List.length a0) * 1 ≤ 140737488355328) then
 bif eqL ((y ++ z) ++ a0) then
 some ((), ((y ++ z) ++ a0))
 else none
 else none
 else none
 else none
 else
 bif (a == (2 : Int)) then
 Option.bind (p52 fu (m, ())) fun ⟨_, c0⟩ =>
 bif eqL (y ++ z) then
 bif eqL c0 then
 bif decide (List.length (y ++ z) + List.length c0 ≤ maxLen ∧ (List.length (y ++ z) + List.length c0) * 1 ≤ 140737488355328) then
 Option.bind (p53 fu (n, ())) fun ⟨_, f0⟩ =>
 bif eqL ((y ++ z) ++ c0) then
 bif eqL f0 then
 bif decide (List.length ((y ++ z) ++ c0) + List.length f0 ≤ maxLen ∧ (List.length ((y ++ z) ++ c0) + List.length f0) * 1 ≤ 140737488355328) then
 Option.bind (p52 fu (o, ())) fun ⟨_, h0⟩ =>
 bif eqL (((y ++ z) ++ c0) ++ f0) then
 bif eqL h0 then
 bif decide (List.length (((y ++ z) ++ c0) ++ f0) + List.length h0 ≤ maxLen ∧ (List.length (((y ++ z) ++ c0) ++ f0) + List.length h0) * 1 ≤ 140737488355328) then
 bif eqL ((((y ++ z) ++ c0) ++ f0) ++ h0) then
 some ((), ((((y ++ z) ++ c0) ++ f0) ++ h0))
 else none
 else none
 else none
 else none
 else none
 else none
 else none
 else none
 else none
 else none
 else
 bif (a == (3 : Int)) then
 Option.bind (p52 fu (q, ())) fun ⟨_, i0⟩ =>
 bif eqL (y ++ z) then
 bif eqL i0 then
 bif decide (List.length (y ++ z) + List.length i0 ≤ maxLen ∧ (List.length (y ++ z) + List.length i0) * 1 ≤ 140737488355328) then
 bif eqL ((y ++ z) ++ i0) then
 some ((), ((y ++ z) ++ i0))
 else none
 else none
 else none
 else none
 else
 bif (a == (4 : Int)) then
 Option.bind (p60 fu ((s, t, u, w, x, ()), ())) fun ⟨_, j0⟩ =>
 bif eqL (y ++ z) then
 bif eqL j0 then
 bif decide (List.length (y ++ z) + List.length j0 ≤ maxLen ∧ (List.length (y ++ z) + List.length j0) * 1 ≤ 140737488355328) then
 bif eqL ((y ++ z) ++ j0) then
 some ((), ((y ++ z) ++ j0))
 else none
 else none
 else none
 else none
 else
 bif (a == (5 : Int)) then
 bif eqL (y ++ z) then
 some ((), (y ++ z))
 else none
 else
 some ((), [])
 else none
 else none
else none
def e32 (fu : Nat) : Ent := ⟨32, (.cons Y4 .nil), .nil, (.own .own 5 (.int .u8)), p32 fu⟩
def d32 (fu : Nat) : DC := (.seq (.region [opD 1 (.box 39 17 (tD 0)), opD 2 (.mov (.const vS))] [[], []] false) (.seq (.region [opD 4 (.faddr 0 (tD 1)), opD 5 (.load false 1 (tD 4)), oqD 6 (.call 53 [(tD 5)]) (.ent (e53 fu)), opD 7 (.faddr 1 (tD 1)), opD 8 (.load false 1 (tD 7)), oqD 9 (.call 52 [(tD 8)]) (.ent (e52 fu)), oqD 10 (.app 5 1 [(.int .u8 0)] 1 (tD 6) (tD 9)) (.ty (.int .u8)), mvD 3 10] [[], [0], [1], [], [3], [4, 2], [2, 5, 5], [6, 6, 0, 1, 2, 3, 4, 5, 6]] true) (.seq (.seq (.region [opD 11 (.faddr 0 (tD 1)), opD 12 (.load false 1 (tD 11))] [[], [0]] false) (.block 0 (.seq (.region [opD 14 (.bin .eql (tD 12) (cD 1)), mvD 13 14] [[], [0]] false) (.cond (.tmp 13) (.seq (.region [mvD 15 3, opD 16 (.faddr 2 (tD 1)), opD 17 (.load true 6 (tD 16)), oqD 18 (.call 59 [(tD 17)]) (.ent (e59 fu)), oqD 19 (.app 5 1 [(.int .u8 0)] 1 (tD 15) (tD 18)) (.ty (.int .u8)), mvD 2 19] [[], [], [1], [2], [0, 3, 3], [4, 4, 0, 1, 2, 3, 4]] false) .ret) (.seq (.region [opD 21 (.bin .eql (tD 12) (cD 2)), mvD 20 21] [[], [0]] false) (.cond (.tmp 20) (.seq (.region [mvD 22 3, opD 23 (.faddr 8 (tD 1)), opD 24 (.faddr 0 (tD 23)), opD 25 (.load false 1 (tD 24)), oqD 26 (.call 52 [(tD 25)]) (.ent (e52 fu)), oqD 27 (.app 5 1 [(.int .u8 0)] 1 (tD 22) (tD 26)) (.ty (.int .u8)), mvD 3 27] [[], [], [1], [2], [3], [0, 4, 4], [5, 5, 0, 1, 2, 3, 4, 5]] false) (.seq (.region [mvD 28 3, opD 29 (.faddr 8 (tD 1)), opD 30 (.faddr 1 (tD 29)), opD 31 (.load false 1 (tD 30)), oqD 32 (.call 53 [(tD 31)]) (.ent (e53 fu)), oqD 33 (.app 5 1 [(.int .u8 0)] 1 (tD 28) (tD 32)) (.ty (.int .u8)), mvD 3 33] [[], [], [1], [2], [3], [0, 4, 4], [5, 5, 0, 1, 2, 3, 4, 5]] false) (.seq (.region [mvD 34 3, opD 35 (.faddr 8 (tD 1)), opD 36 (.faddr 2 (tD 35)), opD 37 (.load false 1 (tD 36)), oqD 38 (.call 52 [(tD 37)]) (.ent (e52 fu)), oqD 39 (.app 5 1 [(.int .u8 0)] 1 (tD 34) (tD 38)) (.ty (.int .u8)), mvD 2 39] [[], [], [1], [2], [3], [0, 4, 4], [5, 5, 0, 1, 2, 3, 4, 5]] false) .ret))) (.seq (.region [opD 41 (.bin .eql (tD 12) (cD 3)), mvD 40 41] [[], [0]] false) (.cond (.tmp 40) (.seq (.region [mvD 42 3, opD 43 (.faddr 11 (tD 1)), opD 44 (.load false 1 (tD 43)), oqD 45 (.call 52 [(tD 44)]) (.ent (e52 fu)), oqD 46 (.app 5 1 [(.int .u8 0)] 1 (tD 42) (tD 45)) (.ty (.int .u8)), mvD 2 46] [[], [], [1], [2], [0, 3, 3], [4, 4, 0, 1, 2, 3, 4]] false) .ret) (.seq (.region [opD 48 (.bin .eql (tD 12) (cD 4)), mvD 47 48] [[], [0]] false) (.cond (.tmp 47) (.seq (.region [mvD 49 3, opD 50 (.faddr 12 (tD 1)), opD 51 (.load true 5 (tD 50)), oqD 52 (.call 60 [(tD 51)]) (.ent (e60 fu)), oqD 53 (.app 5 1 [(.int .u8 0)] 1 (tD 49) (tD 52)) (.ty (.int .u8)), mvD 2 53] [[], [], [1], [2], [0, 3, 3], [4, 4, 0, 1, 2, 3, 4]] false) .ret) (.seq (.region [opD 55 (.bin .eql (tD 12) (cD 5)), mvD 54 55] [[], [0]] false) (.cond (.tmp 54) (.seq (.region [mvD 56 3, mvD 2 56] [[], [0, 0]] false) .ret) .skip)))))))))))) (.seq (.region [opD 2 (.mov (.const vS))] [[]] false) .ret))))
set_option maxRecDepth 1000000 in
theorem v32 (fu : Nat) : evF fu (d32 fu) rs32 57 (e32 fu).ash (e32 fu).osh (e32 fu).vsh = p32 fu := by kernel_rfl
set_option maxRecDepth 1000000 in
theorem b32 (fu : Nat) : BodyD Tryd.prog 32 57 (d32 fu).erase rs32 := bodyD_mk Tryd.func32 (by kernel_rfl) (by kernel_rfl) (by kernel_rfl) (by kernel_rfl)
theorem g32 (fu : Nat) : (e32 fu).Good Tryd.prog := good_by orders (b32 fu) (l := [e53 fu, e52 fu, e59 fu, e52 fu, e53 fu, e52 fu, e52 fu, e60 fu]) (by kernel_rfl) ⟨g53 fu, g52 fu, g59 fu, g52 fu, g53 fu, g52 fu, g52 fu, g60 fu, trivial⟩ (by kernel_rfl) (v32 fu)
def rs7 : List RVx := [(.tmp 4)]
/-- gazette/gazettelaw01.CodecItems -/
def p7 (fu : Nat) : (Z0) × ((List (Int)) × (Unit)) → Option ((Unit) × (Bool)) := fun ⟨⟨a, c, f, h, i, j, k, l, m, n, o, q, s, t, u, w, x, _⟩, y, _⟩ =>
Option.bind (p11 fu ()) fun ⟨_, z⟩ =>
Option.bind (p13 fu ((a, c, f, h, i, j, k, l, m, n, o, q, s, t, u, w, x, ()), ())) fun ⟨_, a0⟩ =>
Option.bind (p20 fu (y, ())) fun ⟨_, ⟨⟨c0, f0, h0, i0, j0, k0, l0, m0, n0, o0, q0, s0, t0, u0, w0, x0, y0, _⟩, z0, _⟩⟩ =>
Option.bind (p30 fu (y, ())) fun ⟨_, ⟨⟨a1, c1, f1, h1, i1, j1, k1, l1, m1, n1, o1, q1, s1, t1, u1, w1, x1, _⟩, y1, _⟩⟩ =>
bif eqL j1 then
 bif eqL k1 then
 bif eqL l1 then
 bif eqL u1 then
 bif eqL w1 then
 bif eqL x1 then
 Option.bind (p31 fu ((c0, f0, h0, i0, j0, k0, l0, m0, n0, o0, q0, s0, t0, u0, w0, x0, y0, ()), (a1, c1, f1, h1, i1, j1, k1, l1, m1, n1, o1, q1, s1, t1, u1, w1, x1, ()), ())) fun ⟨_, z1⟩ =>
 bif z then
 bif eqL a0 then
 Option.bind (p32 fu ((a, c, f, h, i, j, k, l, m, n, o, q, s, t, u, w, x, ()), ())) fun ⟨_, a2⟩ =>
 bif eqL a2 then
 bif ByteArray.toList (strOfNums a0) == ByteArray.toList (strOfNums a2) then
 bif z1 then
 some ((), (z0 == y1))
 else
 some ((), false)
 else
 some ((), false)
 else none
 else none
 else
 some ((), false)
 else none
 else none
 else none
 else none
 else none
else none
def e7 (fu : Nat) : Ent := ⟨7, (.cons Y4 (.cons (.hole (.sl (.int .u8))) .nil)), .nil, (.hole .bool), p7 fu⟩
def d7 (fu : Nat) : DC := (.seq (.region [opD 2 (.box 39 17 (tD 0)), opD 4 (.mov (.const vB))] [[], []] false) (.seq (.region [oqD 12 (.call 11 []) (.ent (e11 fu)), mvD 5 12] [[], [0, 0, 0]] false) (.seq (.region [opD 13 (.load true 17 (tD 2)), oqD 14 (.call 13 [(tD 13)]) (.ent (e13 fu)), mvD 6 14] [[], [0], [1, 1, 0, 1]] false) (.seq (.region [mvD 16 1, oqD 17 (.call 20 [(tD 16)]) (.ent (e20 fu)), mvD 15 17, opD 18 (.ext (tD 15) 0), opD 19 (.ext (tD 15) 1), opD 7 (.alloc 39 17 [vI, vU, vU, vU, vI, vS, vS, vS, vU, vI, vU, vU, vU, vU, vS, vS, vS]), onD (.store 17 (tD 7) (tD 18)), mvD 8 19] [[], [0], [1], [2], [2], [], [5, 3, 1, 0, 1, 2, 3, 5], [4, 6, 0, 1, 2, 3, 4, 5, 6]] false) (.seq (.region [mvD 21 1, oqD 22 (.call 30 [(tD 21)]) (.ent (e30 fu)), mvD 20 22, opD 23 (.ext (tD 20) 0), opD 24 (.ext (tD 20) 1), opD 9 (.alloc 39 17 [vI, vU, vU, vU, vI, vS, vS, vS, vU, vI, vU, vU, vU, vU, vS, vS, vS]), onD (.store 17 (tD 9) (tD 23)), mvD 10 24] [[], [0], [1], [2], [2], [], [5, 3, 1, 0, 1, 2, 3, 5], [4, 6, 0, 1, 2, 3, 4, 5, 6]] false) (.seq (.region [opD 25 (.load true 17 (tD 7)), opD 26 (.load true 17 (tD 9)), oqD 27 (.call 31 [(tD 25), (tD 26)]) (.ent (e31 fu)), mvD 11 27] [[], [], [0, 1], [2, 2, 0, 1, 2]] false) (.seq (.region [mvD 28 5, mvD 29 28, ogD 30 29 true (.mov (tD 6)), ogD 31 29 true (.b2s (tD 30)), ogD 32 29 true (.load true 17 (tD 2)), (⟨(some 33), (some (29, true)), (.call 32 [(tD 32)])⟩, (.ent (e32 fu))), ogD 34 29 true (.b2s (tD 33)), ogD 35 29 true (.bin .eql (tD 31) (tD 34)), opD 36 (.pick (tD 29) (tD 35) (.const vB)), mvD 37 36, ogD 38 37 true (.mov (tD 11)), opD 39 (.pick (tD 37) (tD 38) (.const vB)), mvD 40 39, ogD 41 40 true (.mov (tD 8)), ogD 42 40 true (.mov (tD 10)), ogD 43 40 true (.bin .eql (tD 41) (tD 42)), opD 44 (.pick (tD 40) (tD 43) (.const vB)), mvD 4 44] [[], [0], [1], [2, 1], [1], [4, 1, 1], [5, 1], [3, 6, 1], [1, 7], [8, 5], [9], [9, 10], [11, 9], [12], [12], [13, 14, 12], [12, 15], [16, 12, 0, 1, 2, 3, 4, 5, 6, 7, 8, 9, 10, 11, 12, 13, 14, 15, 16]] true) .ret)))))))
set_option maxRecDepth 1000000 in
theorem v7 (fu : Nat) : evF fu (d7 fu) rs7 45 (e7 fu).ash (e7 fu).osh (e7 fu).vsh = p7 fu := by kernel_rfl
set_option maxRecDepth 1000000 in
theorem b7 (fu : Nat) : BodyD Tryd.prog 7 45 (d7 fu).erase rs7 := bodyD_mk Tryd.func7 (by kernel_rfl) (by kernel_rfl) (by kernel_rfl) (by kernel_rfl)
theorem g7 (fu : Nat) : (e7 fu).Good Tryd.prog := good_by orders (b7 fu) (l := [e11 fu, e13 fu, e20 fu, e30 fu, e31 fu, e32 fu]) (by kernel_rfl) ⟨g11 fu, g13 fu, g20 fu, g30 fu, g31 fu, g32 fu, trivial⟩ (by kernel_rfl) (v7 fu)
end Go.Proofs.YtfhdpeceppafiaaDoor
