/-
  The functions, typed, continued.
-/
import Derived.Test.YtfhdpeceppafiaaDoorPtNA
namespace Go.Proofs.YtfhdpeceppafiaaDoor
open Go.RowKit
def rs49 : List RVx := [(.cell 2 true 5)]
/-- (*gazette/codec.Reader).Snap -/
def p49_2 (fu : Nat) : ((List (Int)) × ((Int) × (((Bool) × (((Int) × ((Int) × (Unit))) × (Unit))) × (Unit)))) × (Unit) → Option ((((List (Int)) × ((Int) × (((Bool) × (((Int) × ((Int) × (Unit))) × (Unit))) × (Unit)))) × ((Unit) × (Unit))) × ((Int) × ((Int) × ((List (Int)) × ((List (Int)) × ((List (Int)) × (Unit))))))) := fun ⟨⟨a, c, ⟨f, ⟨h, i, _⟩, _⟩, _⟩, _⟩ =>
bif f then
 bif decide (List.length a = List.length a) then
 Option.bind (p15_2 fu ((a, c, (true, (h, i, ()), dflt .unit), ()), ())) fun ⟨⟨⟨j, k, ⟨l, ⟨m, n, _⟩, _⟩, _⟩, _, _⟩, o⟩ =>
 bif l then
 bif decide (List.length j = List.length j) then
 Option.bind (p15_2 fu ((j, k, (true, (m, n, ()), dflt .unit), ()), ())) fun ⟨⟨⟨q, s, ⟨t, ⟨u, w, _⟩, _⟩, _⟩, _, _⟩, x⟩ =>
 bif t then
 bif decide (List.length q = List.length q) then
 Option.bind (p71_2 fu ((q, s, (true, (u, w, ()), dflt .unit), ()), ())) fun ⟨⟨⟨y, z, ⟨a0, ⟨c0, f0, _⟩, _⟩, _⟩, _, _⟩, ⟨h0, i0, _⟩⟩ =>
 bif a0 then
 bif decide (List.length y = List.length y) then
 Option.bind (p67_2 fu ((y, z, (true, (c0, f0, ()), dflt .unit), ()), (262144 : Int), ())) fun ⟨⟨⟨j0, k0, ⟨l0, ⟨m0, n0, _⟩, _⟩, _⟩, _, _⟩, o0⟩ =>
 bif l0 then
 bif decide (List.length j0 = List.length j0) then
 bif decide (List.length o0 = List.length o0) then
 Option.bind (p90_4 fu ((j0, k0, (true, (m0, n0, ()), dflt .unit), ()), (o, x, h0, i0, o0, ()), ())) fun ⟨⟨⟨q0, s0, ⟨t0, ⟨u0, w0, _⟩, _⟩, _⟩, _, _⟩, ⟨x0, y0, z0, a1, c1, _⟩⟩ =>
 bif t0 then
 bif decide (List.length q0 = List.length q0) then
 some (((q0, s0, (true, (u0, w0, ()), dflt .unit), ()), (), ()), (x0, y0, z0, a1, c1, ()))
 else none
 else
 bif decide (List.length q0 = List.length q0) then
 some (((q0, s0, (false, dflt (.pair (.int .i64) (.pair (.int .i64) .unit)), ()), ()), (), ()), (x0, y0, z0, a1, c1, ()))
 else none
 else none
 else none
 else
 bif decide (List.length j0 = List.length j0) then
 bif decide (List.length o0 = List.length o0) then
 Option.bind (p90_4 fu ((j0, k0, (false, dflt (.pair (.int .i64) (.pair (.int .i64) .unit)), ()), ()), (o, x, h0, i0, o0, ()), ())) fun ⟨⟨⟨f1, h1, ⟨i1, ⟨j1, k1, _⟩, _⟩, _⟩, _, _⟩, ⟨l1, m1, n1, o1, q1, _⟩⟩ =>
 bif i1 then
 bif decide (List.length f1 = List.length f1) then
 some (((f1, h1, (true, (j1, k1, ()), dflt .unit), ()), (), ()), (l1, m1, n1, o1, q1, ()))
 else none
 else
 bif decide (List.length f1 = List.length f1) then
 some (((f1, h1, (false, dflt (.pair (.int .i64) (.pair (.int .i64) .unit)), ()), ()), (), ()), (l1, m1, n1, o1, q1, ()))
 else none
 else none
 else none
 else none
 else
 bif decide (List.length y = List.length y) then
 Option.bind (p67_2 fu ((y, z, (false, dflt (.pair (.int .i64) (.pair (.int .i64) .unit)), ()), ()), (262144 : Int), ())) fun ⟨⟨⟨s1, t1, ⟨u1, ⟨w1, x1, _⟩, _⟩, _⟩, _, _⟩, y1⟩ =>
 bif u1 then
 bif decide (List.length s1 = List.length s1) then
 bif decide (List.length y1 = List.length y1) then
 Option.bind (p90_4 fu ((s1, t1, (true, (w1, x1, ()), dflt .unit), ()), (o, x, h0, i0, y1, ()), ())) fun ⟨⟨⟨z1, a2, ⟨c2, ⟨f2, h2, _⟩, _⟩, _⟩, _, _⟩, ⟨i2, j2, k2, l2, m2, _⟩⟩ =>
 bif c2 then
 bif decide (List.length z1 = List.length z1) then
 some (((z1, a2, (true, (f2, h2, ()), dflt .unit), ()), (), ()), (i2, j2, k2, l2, m2, ()))
 else none
 else
 bif decide (List.length z1 = List.length z1) then
 some (((z1, a2, (false, dflt (.pair (.int .i64) (.pair (.int .i64) .unit)), ()), ()), (), ()), (i2, j2, k2, l2, m2, ()))
 else none
 else none
 else none
 else
 bif decide (List.length s1 = List.length s1) then
 bif decide (List.length y1 = List.length y1) then
 Option.bind (p90_4 fu ((s1, t1, (false, dflt (.pair (.int .i64) (.pair (.int .i64) .unit)), ()), ()), (o, x, h0, i0, y1, ()), ())) fun ⟨⟨⟨n2, o2, ⟨q2, ⟨s2, t2, _⟩, _⟩, _⟩, _, _⟩, ⟨u2, w2, x2, y2, z2, _⟩⟩ =>
 bif q2 then
 bif decide (List.length n2 = List.length n2) then
 some (((n2, o2, (true, (s2, t2, ()), dflt .unit), ()), (), ()), (u2, w2, x2, y2, z2, ()))
 else none
 else
 bif decide (List.length n2 = List.length n2) then
 some (((n2, o2, (false, dflt (.pair (.int .i64) (.pair (.int .i64) .unit)), ()), ()), (), ()), (u2, w2, x2, y2, z2, ()))
 else none
 else none
 else none
 else none
 else none
 else
 bif decide (List.length q = List.length q) then
 Option.bind (p71_2 fu ((q, s, (false, dflt (.pair (.int .i64) (.pair (.int .i64) .unit)), ()), ()), ())) fun ⟨⟨⟨a3, c3, ⟨f3, ⟨h3, i3, _⟩, _⟩, _⟩, _, _⟩, ⟨j3, k3, _⟩⟩ =>
 bif f3 then
 bif decide (List.length a3 = List.length a3) then
 Option.bind (p67_2 fu ((a3, c3, (true, (h3, i3, ()), dflt .unit), ()), (262144 : Int), ())) fun ⟨⟨⟨l3, m3, ⟨n3, ⟨o3, q3, _⟩, _⟩, _⟩, _, _⟩, s3⟩ =>
 bif n3 then
 bif decide (List.length l3 = List.length l3) then
 bif decide (List.length s3 = List.length s3) then
 Option.bind (p90_4 fu ((l3, m3, (true, (o3, q3, ()), dflt .unit), ()), (o, x, j3, k3, s3, ()), ())) fun ⟨⟨⟨t3, u3, ⟨w3, ⟨x3, y3, _⟩, _⟩, _⟩, _, _⟩, ⟨z3, a4, c4, f4, h4, _⟩⟩ =>
 bif w3 then
 bif decide (List.length t3 = List.length t3) then
 some (((t3, u3, (true, (x3, y3, ()), dflt .unit), ()), (), ()), (z3, a4, c4, f4, h4, ()))
 else none
 else
 bif decide (List.length t3 = List.length t3) then
 some (((t3, u3, (false, dflt (.pair (.int .i64) (.pair (.int .i64) .unit)), ()), ()), (), ()), (z3, a4, c4, f4, h4, ()))
 else none
 else none
 else none
 else
 bif decide (List.length l3 = List.length l3) then
 bif decide (List.length s3 = List.length s3) then
 Option.bind (p90_4 fu ((l3, m3, (false, dflt (.pair (.int .i64) (.pair (.int .i64) .unit)), ()), ()), (o, x, j3, k3, s3, ()), ())) fun ⟨⟨⟨i4, j4, ⟨k4, ⟨l4, m4, _⟩, _⟩, _⟩, _, _⟩, ⟨n4, o4, q4, s4, t4, _⟩⟩ =>
 bif k4 then
 bif decide (List.length i4 = List.length i4) then
 some (((i4, j4, (true, (l4, m4, ()), dflt .unit), ()), (), ()), (n4, o4, q4, s4, t4, ()))
 else none
 else
 bif decide (List.length i4 = List.length i4) then
 some (((i4, j4, (false, dflt (.pair (.int .i64) (.pair (.int .i64) .unit)), ()), ()), (), ()), (n4, o4, q4, s4, t4, ()))
 else none
 else none
 else none
 else none
 else
 bif decide (List.length a3 = List.length a3) then
 Option.bind (p67_2 fu ((a3, c3, (false, dflt (.pair (.int .i64) (.pair (.int .i64) .unit)), ()), ()), (262144 : Int), ())) fun ⟨⟨⟨u4, w4, ⟨x4, ⟨y4, z4, _⟩, _⟩, _⟩, _, _⟩, a5⟩ =>
 bif x4 then
 bif decide (List.length u4 = List.length u4) then
 bif decide (List.length a5 = List.length a5) then
 Option.bind (p90_4 fu ((u4, w4, (true, (y4, z4, ()), dflt .unit), ()), (o, x, j3, k3, a5, ()), ())) fun ⟨⟨⟨c5, f5, ⟨h5, ⟨i5, j5, _⟩, _⟩, _⟩, _, _⟩, ⟨k5, l5, m5, n5, o5, _⟩⟩ =>
 bif h5 then
 bif decide (List.length c5 = List.length c5) then
 some (((c5, f5, (true, (i5, j5, ()), dflt .unit), ()), (), ()), (k5, l5, m5, n5, o5, ()))
 else none
 else
 bif decide (List.length c5 = List.length c5) then
 some (((c5, f5, (false, dflt (.pair (.int .i64) (.pair (.int .i64) .unit)), ()), ()), (), ()), (k5, l5, m5, n5, o5, ()))
 else none
 else none
 else none
 else
 bif decide (List.length u4 = List.length u4) then
 bif decide (List.length a5 = List.length a5) then
 Option.bind (p90_4 fu ((u4, w4, (false, dflt (.pair (.int .i64) (.pair (.int .i64) .unit)), ()), ()), (o, x, j3, k3, a5, ()), ())) fun ⟨⟨⟨q5, s5, ⟨t5, ⟨u5, w5, _⟩, _⟩, _⟩, _, _⟩, ⟨x5, y5, z5, a6, c6, _⟩⟩ =>
 bif t5 then
 bif decide (List.length q5 = List.length q5) then
 some (((q5, s5, (true, (u5, w5, ()), dflt .unit), ()), (), ()), (x5, y5, z5, a6, c6, ()))
 else none
 else
 bif decide (List.length q5 = List.length q5) then
 some (((q5, s5, (false, dflt (.pair (.int .i64) (.pair (.int .i64) .unit)), ()), ()), (), ()), (x5, y5, z5, a6, c6, ()))
 else none
 else none
 else none
 else none
 else none
 else none
 else
 bif decide (List.length j = List.length j) then
 Option.bind (p15_2 fu ((j, k, (false, dflt (.pair (.int .i64) (.pair (.int .i64) .unit)), ()), ()), ())) fun ⟨⟨⟨f6, h6, ⟨i6, ⟨j6, k6, _⟩, _⟩, _⟩, _, _⟩, l6⟩ =>
 bif i6 then
 bif decide (List.length f6 = List.length f6) then
 Option.bind (p71_2 fu ((f6, h6, (true, (j6, k6, ()), dflt .unit), ()), ())) fun ⟨⟨⟨m6, n6, ⟨o6, ⟨q6, s6, _⟩, _⟩, _⟩, _, _⟩, ⟨t6, u6, _⟩⟩ =>
 bif o6 then
 bif decide (List.length m6 = List.length m6) then
 Option.bind (p67_2 fu ((m6, n6, (true, (q6, s6, ()), dflt .unit), ()), (262144 : Int), ())) fun ⟨⟨⟨w6, x6, ⟨y6, ⟨z6, a7, _⟩, _⟩, _⟩, _, _⟩, c7⟩ =>
 bif y6 then
 bif decide (List.length w6 = List.length w6) then
 bif decide (List.length c7 = List.length c7) then
 Option.bind (p90_4 fu ((w6, x6, (true, (z6, a7, ()), dflt .unit), ()), (o, l6, t6, u6, c7, ()), ())) fun ⟨⟨⟨f7, h7, ⟨i7, ⟨j7, k7, _⟩, _⟩, _⟩, _, _⟩, ⟨l7, m7, n7, o7, q7, _⟩⟩ =>
 bif i7 then
 bif decide (List.length f7 = List.length f7) then
 some (((f7, h7, (true, (j7, k7, ()), dflt .unit), ()), (), ()), (l7, m7, n7, o7, q7, ()))
 else none
 else
 bif decide (List.length f7 = List.length f7) then
 some (((f7, h7, (false, dflt (.pair (.int .i64) (.pair (.int .i64) .unit)), ()), ()), (), ()), (l7, m7, n7, o7, q7, ()))
 else none
 else none
 else none
 else
 bif decide (List.length w6 = List.length w6) then
 bif decide (List.length c7 = List.length c7) then
 Option.bind (p90_4 fu ((w6, x6, (false, dflt (.pair (.int .i64) (.pair (.int .i64) .unit)), ()), ()), (o, l6, t6, u6, c7, ()), ())) fun ⟨⟨⟨s7, t7, ⟨u7, ⟨w7, x7, _⟩, _⟩, _⟩, _, _⟩, ⟨y7, z7, a8, c8, f8, _⟩⟩ =>
 bif u7 then
 bif decide (List.length s7 = List.length s7) then
 some (((s7, t7, (true, (w7, x7, ()), dflt .unit), ()), (), ()), (y7, z7, a8, c8, f8, ()))
 else none
 else
 bif decide (List.length s7 = List.length s7) then
 some (((s7, t7, (false, dflt (.pair (.int .i64) (.pair (.int .i64) .unit)), ()), ()), (), ()), (y7, z7, a8, c8, f8, ()))
 else none
 else none
 else none
 else none
 else
 bif decide (List.length m6 = List.length m6) then
 Option.bind (p67_2 fu ((m6, n6, (false, dflt (.pair (.int .i64) (.pair (.int .i64) .unit)), ()), ()), (262144 : Int), ())) fun ⟨⟨⟨h8, i8, ⟨j8, ⟨k8, l8, _⟩, _⟩, _⟩, _, _⟩, m8⟩ =>
 bif j8 then
 bif decide (List.length h8 = List.length h8) then
 bif decide (List.length m8 = List.length m8) then
 Option.bind (p90_4 fu ((h8, i8, (true, (k8, l8, ()), dflt .unit), ()), (o, l6, t6, u6, m8, ()), ())) fun ⟨⟨⟨n8, o8, ⟨q8, ⟨s8, t8, _⟩, _⟩, _⟩, _, _⟩, ⟨u8, w8, x8, y8, z8, _⟩⟩ =>
 bif q8 then
 bif decide (List.length n8 = List.length n8) then
 some (((n8, o8, (true, (s8, t8, ()), dflt .unit), ()), (), ()), (u8, w8, x8, y8, z8, ()))
 else none
 else
 bif decide (List.length n8 = List.length n8) then
 some (((n8, o8, (false, dflt (.pair (.int .i64) (.pair (.int .i64) .unit)), ()), ()), (), ()), (u8, w8, x8, y8, z8, ()))
 else none
 else none
 else none
 else
 bif decide (List.length h8 = List.length h8) then
 bif decide (List.length m8 = List.length m8) then
 Option.bind (p90_4 fu ((h8, i8, (false, dflt (.pair (.int .i64) (.pair (.int .i64) .unit)), ()), ()), (o, l6, t6, u6, m8, ()), ())) fun ⟨⟨⟨a9, c9, ⟨f9, ⟨h9, i9, _⟩, _⟩, _⟩, _, _⟩, ⟨j9, k9, l9, m9, n9, _⟩⟩ =>
 bif f9 then
 bif decide (List.length a9 = List.length a9) then
 some (((a9, c9, (true, (h9, i9, ()), dflt .unit), ()), (), ()), (j9, k9, l9, m9, n9, ()))
 else none
 else
 bif decide (List.length a9 = List.length a9) then
 some (((a9, c9, (false, dflt (.pair (.int .i64) (.pair (.int .i64) .unit)), ()), ()), (), ()), (j9, k9, l9, m9, n9, ()))
 else none
 else none
 else none
 else none
 else none
 else
 bif decide (List.length f6 = List.length f6) then
 Option.bind (p71_2 fu ((f6, h6, (false, dflt (.pair (.int .i64) (.pair (.int .i64) .unit)), ()), ()), ())) fun ⟨⟨⟨o9, q9, ⟨s9, ⟨t9, u9, _⟩, _⟩, _⟩, _, _⟩, ⟨w9, x9, _⟩⟩ =>
 bif s9 then
 bif decide (List.length o9 = List.length o9) then
 Option.bind (p67_2 fu ((o9, q9, (true, (t9, u9, ()), dflt .unit), ()), (262144 : Int), ())) fun ⟨⟨⟨y9, z9, ⟨a10, ⟨c10, f10, _⟩, _⟩, _⟩, _, _⟩, h10⟩ =>
 bif a10 then
 bif decide (List.length y9 = List.length y9) then
 bif decide (List.length h10 = List.length h10) then
 Option.bind (p90_4 fu ((y9, z9, (true, (c10, f10, ()), dflt .unit), ()), (o, l6, w9, x9, h10, ()), ())) fun ⟨⟨⟨i10, j10, ⟨k10, ⟨l10, m10, _⟩, _⟩, _⟩, _, _⟩, ⟨n10, o10, q10, s10, t10, _⟩⟩ =>
 bif k10 then
 bif decide (List.length i10 = List.length i10) then
 some (((i10, j10, (true, (l10, m10, ()), dflt .unit), ()), (), ()), (n10, o10, q10, s10, t10, ()))
 else none
 else
 bif decide (List.length i10 = List.length i10) then
 some (((i10, j10, (false, dflt (.pair (.int .i64) (.pair (.int .i64) .unit)), ()), ()), (), ()), (n10, o10, q10, s10, t10, ()))
 else none
 else none
 else none
 else
 bif decide (List.length y9 = List.length y9) then
 bif decide (List.length h10 = List.length h10) then
 Option.bind (p90_4 fu ((y9, z9, (false, dflt (.pair (.int .i64) (.pair (.int .i64) .unit)), ()), ()), (o, l6, w9, x9, h10, ()), ())) fun ⟨⟨⟨u10, w10, ⟨x10, ⟨y10, z10, _⟩, _⟩, _⟩, _, _⟩, ⟨a11, c11, f11, h11, i11, _⟩⟩ =>
 bif x10 then
 bif decide (List.length u10 = List.length u10) then
 some (((u10, w10, (true, (y10, z10, ()), dflt .unit), ()), (), ()), (a11, c11, f11, h11, i11, ()))
 else none
 else
 bif decide (List.length u10 = List.length u10) then
 some (((u10, w10, (false, dflt (.pair (.int .i64) (.pair (.int .i64) .unit)), ()), ()), (), ()), (a11, c11, f11, h11, i11, ()))
 else none
 else none
 else none
 else none
 else
 bif decide (List.length o9 = List.length o9) then
 Option.bind (p67_2 fu ((o9, q9, (false, dflt (.pair (.int .i64) (.pair (.int .i64) .unit)), ()), ()), (262144 : Int), ())) fun ⟨⟨⟨j11, k11, ⟨l11, ⟨m11, n11, _⟩, _⟩, _⟩, _, _⟩, o11⟩ =>
 bif l11 then
 bif decide (List.length j11 = List.length j11) then
 bif decide (List.length o11 = List.length o11) then
 Option.bind (p90_4 fu ((j11, k11, (true, (m11, n11, ()), dflt .unit), ()), (o, l6, w9, x9, o11, ()), ())) fun ⟨⟨⟨q11, s11, ⟨t11, ⟨u11, w11, _⟩, _⟩, _⟩, _, _⟩, ⟨x11, y11, z11, a12, c12, _⟩⟩ =>
 bif t11 then
 bif decide (List.length q11 = List.length q11) then
 some (((q11, s11, (true, (u11, w11, ()), dflt .unit), ()), (), ()), (x11, y11, z11, a12, c12, ()))
 else none
 else
 bif decide (List.length q11 = List.length q11) then
 some (((q11, s11, (false, dflt (.pair (.int .i64) (.pair (.int .i64) .unit)), ()), ()), (), ()), (x11, y11, z11, a12, c12, ()))
 else none
 else none
 else none
 else
 bif decide (List.length j11 = List.length j11) then
 bif decide (List.length o11 = List.length o11) then
 Option.bind (p90_4 fu ((j11, k11, (false, dflt (.pair (.int .i64) (.pair (.int .i64) .unit)), ()), ()), (o, l6, w9, x9, o11, ()), ())) fun ⟨⟨⟨f12, h12, ⟨i12, ⟨j12, k12, _⟩, _⟩, _⟩, _, _⟩, ⟨l12, m12, n12, o12, q12, _⟩⟩ =>
 bif i12 then
 bif decide (List.length f12 = List.length f12) then
 some (((f12, h12, (true, (j12, k12, ()), dflt .unit), ()), (), ()), (l12, m12, n12, o12, q12, ()))
 else none
 else
 bif decide (List.length f12 = List.length f12) then
 some (((f12, h12, (false, dflt (.pair (.int .i64) (.pair (.int .i64) .unit)), ()), ()), (), ()), (l12, m12, n12, o12, q12, ()))
 else none
 else none
 else none
 else none
 else none
 else none
 else none
else
 bif decide (List.length a = List.length a) then
 Option.bind (p15_2 fu ((a, c, (false, dflt (.pair (.int .i64) (.pair (.int .i64) .unit)), ()), ()), ())) fun ⟨⟨⟨s12, t12, ⟨u12, ⟨w12, x12, _⟩, _⟩, _⟩, _, _⟩, y12⟩ =>
 bif u12 then
 bif decide (List.length s12 = List.length s12) then
 Option.bind (p15_2 fu ((s12, t12, (true, (w12, x12, ()), dflt .unit), ()), ())) fun ⟨⟨⟨z12, a13, ⟨c13, ⟨f13, h13, _⟩, _⟩, _⟩, _, _⟩, i13⟩ =>
 bif c13 then
 bif decide (List.length z12 = List.length z12) then
 Option.bind (p71_2 fu ((z12, a13, (true, (f13, h13, ()), dflt .unit), ()), ())) fun ⟨⟨⟨j13, k13, ⟨l13, ⟨m13, n13, _⟩, _⟩, _⟩, _, _⟩, ⟨o13, q13, _⟩⟩ =>
 bif l13 then
 bif decide (List.length j13 = List.length j13) then
 Option.bind (p67_2 fu ((j13, k13, (true, (m13, n13, ()), dflt .unit), ()), (262144 : Int), ())) fun ⟨⟨⟨s13, t13, ⟨u13, ⟨w13, x13, _⟩, _⟩, _⟩, _, _⟩, y13⟩ =>
 bif u13 then
 bif decide (List.length s13 = List.length s13) then
 bif decide (List.length y13 = List.length y13) then
 Option.bind (p90_4 fu ((s13, t13, (true, (w13, x13, ()), dflt .unit), ()), (y12, i13, o13, q13, y13, ()), ())) fun ⟨⟨⟨z13, a14, ⟨c14, ⟨f14, h14, _⟩, _⟩, _⟩, _, _⟩, ⟨i14, j14, k14, l14, m14, _⟩⟩ =>
 bif c14 then
 bif decide (List.length z13 = List.length z13) then
 some (((z13, a14, (true, (f14, h14, ()), dflt .unit), ()), (), ()), (i14, j14, k14, l14, m14, ()))
 else none
 else
 bif decide (List.length z13 = List.length z13) then
 some (((z13, a14, (false, dflt (.pair (.int .i64) (.pair (.int .i64) .unit)), ()), ()), (), ()), (i14, j14, k14, l14, m14, ()))
 else none
 else none
 else none
 else
 bif decide (List.length s13 = List.length s13) then
 bif decide (List.length y13 = List.length y13) then
 Option.bind (p90_4 fu ((s13, t13, (false, dflt (.pair (.int .i64) (.pair (.int .i64) .unit)), ()), ()), (y12, i13, o13, q13, y13, ()), ())) fun ⟨⟨⟨n14, o14, ⟨q14, ⟨s14, t14, _⟩, _⟩, _⟩, _, _⟩, ⟨u14, w14, x14, y14, z14, _⟩⟩ =>
 bif q14 then
 bif decide (List.length n14 = List.length n14) then
 some (((n14, o14, (true, (s14, t14, ()), dflt .unit), ()), (), ()), (u14, w14, x14, y14, z14, ()))
 else none
 else
 bif decide (List.length n14 = List.length n14) then
 some (((n14, o14, (false, dflt (.pair (.int .i64) (.pair (.int .i64) .unit)), ()), ()), (), ()), (u14, w14, x14, y14, z14, ()))
 else none
 else none
 else none
 else none
 else
 bif decide (List.length j13 = List.length j13) then
 Option.bind (p67_2 fu ((j13, k13, (false, dflt (.pair (.int .i64) (.pair (.int .i64) .unit)), ()), ()), (262144 : Int), ())) fun ⟨⟨⟨a15, c15, ⟨f15, ⟨h15, i15, _⟩, _⟩, _⟩, _, _⟩, j15⟩ =>
 bif f15 then
 bif decide (List.length a15 = List.length a15) then
 bif decide (List.length j15 = List.length j15) then
 Option.bind (p90_4 fu ((a15, c15, (true, (h15, i15, ()), dflt .unit), ()), (y12, i13, o13, q13, j15, ()), ())) fun ⟨⟨⟨k15, l15, ⟨m15, ⟨n15, o15, _⟩, _⟩, _⟩, _, _⟩, ⟨q15, s15, t15, u15, w15, _⟩⟩ =>
 bif m15 then
 bif decide (List.length k15 = List.length k15) then
 some (((k15, l15, (true, (n15, o15, ()), dflt .unit), ()), (), ()), (q15, s15, t15, u15, w15, ()))
 else none
 else
 bif decide (List.length k15 = List.length k15) then
 some (((k15, l15, (false, dflt (.pair (.int .i64) (.pair (.int .i64) .unit)), ()), ()), (), ()), (q15, s15, t15, u15, w15, ()))
 else none
 else none
 else none
 else
 bif decide (List.length a15 = List.length a15) then
 bif decide (List.length j15 = List.length j15) then
 Option.bind (p90_4 fu ((a15, c15, (false, dflt (.pair (.int .i64) (.pair (.int .i64) .unit)), ()), ()), (y12, i13, o13, q13, j15, ()), ())) fun ⟨⟨⟨x15, y15, ⟨z15, ⟨a16, c16, _⟩, _⟩, _⟩, _, _⟩, ⟨f16, h16, i16, j16, k16, _⟩⟩ =>
 bif z15 then
 bif decide (List.length x15 = List.length x15) then
 some (((x15, y15, (true, (a16, c16, ()), dflt .unit), ()), (), ()), (f16, h16, i16, j16, k16, ()))
 else none
 else
 bif decide (List.length x15 = List.length x15) then
 some (((x15, y15, (false, dflt (.pair (.int .i64) (.pair (.int .i64) .unit)), ()), ()), (), ()), (f16, h16, i16, j16, k16, ()))
 else none
 else none
 else none
 else none
 else none
 else
 bif decide (List.length z12 = List.length z12) then
 Option.bind (p71_2 fu ((z12, a13, (false, dflt (.pair (.int .i64) (.pair (.int .i64) .unit)), ()), ()), ())) fun ⟨⟨⟨l16, m16, ⟨n16, ⟨o16, q16, _⟩, _⟩, _⟩, _, _⟩, ⟨s16, t16, _⟩⟩ =>
 bif n16 then
 bif decide (List.length l16 = List.length l16) then
 Option.bind (p67_2 fu ((l16, m16, (true, (o16, q16, ()), dflt .unit), ()), (262144 : Int), ())) fun ⟨⟨⟨u16, w16, ⟨x16, ⟨y16, z16, _⟩, _⟩, _⟩, _, _⟩, a17⟩ =>
 bif x16 then
 bif decide (List.length u16 = List.length u16) then
 bif decide (List.length a17 = List.length a17) then
 Option.bind (p90_4 fu ((u16, w16, (true, (y16, z16, ()), dflt .unit), ()), (y12, i13, s16, t16, a17, ()), ())) fun ⟨⟨⟨c17, f17, ⟨h17, ⟨i17, j17, _⟩, _⟩, _⟩, _, _⟩, ⟨k17, l17, m17, n17, o17, _⟩⟩ =>
 bif h17 then
 bif decide (List.length c17 = List.length c17) then
 some (((c17, f17, (true, (i17, j17, ()), dflt .unit), ()), (), ()), (k17, l17, m17, n17, o17, ()))
 else none
 else
 bif decide (List.length c17 = List.length c17) then
 some (((c17, f17, (false, dflt (.pair (.int .i64) (.pair (.int .i64) .unit)), ()), ()), (), ()), (k17, l17, m17, n17, o17, ()))
 else none
 else none
 else none
 else
 bif decide (List.length u16 = List.length u16) then
 bif decide (List.length a17 = List.length a17) then
 Option.bind (p90_4 fu ((u16, w16, (false, dflt (.pair (.int .i64) (.pair (.int .i64) .unit)), ()), ()), (y12, i13, s16, t16, a17, ()), ())) fun ⟨⟨⟨q17, s17, ⟨t17, ⟨u17, w17, _⟩, _⟩, _⟩, _, _⟩, ⟨x17, y17, z17, a18, c18, _⟩⟩ =>
 bif t17 then
 bif decide (List.length q17 = List.length q17) then
 some (((q17, s17, (true, (u17, w17, ()), dflt .unit), ()), (), ()), (x17, y17, z17, a18, c18, ()))
 else none
 else
 bif decide (List.length q17 = List.length q17) then
 some (((q17, s17, (false, dflt (.pair (.int .i64) (.pair (.int .i64) .unit)), ()), ()), (), ()), (x17, y17, z17, a18, c18, ()))
 else none
 else none
 else none
 else none
 else
 bif decide (List.length l16 = List.length l16) then
 Option.bind (p67_2 fu ((l16, m16, (false, dflt (.pair (.int .i64) (.pair (.int .i64) .unit)), ()), ()), (262144 : Int), ())) fun ⟨⟨⟨f18, h18, ⟨i18, ⟨j18, k18, _⟩, _⟩, _⟩, _, _⟩, l18⟩ =>
 bif i18 then
 bif decide (List.length f18 = List.length f18) then
 bif decide (List.length l18 = List.length l18) then
 Option.bind (p90_4 fu ((f18, h18, (true, (j18, k18, ()), dflt .unit), ()), (y12, i13, s16, t16, l18, ()), ())) fun ⟨⟨⟨m18, n18, ⟨o18, ⟨q18, s18, _⟩, _⟩, _⟩, _, _⟩, ⟨t18, u18, w18, x18, y18, _⟩⟩ =>
 bif o18 then
 bif decide (List.length m18 = List.length m18) then
 some (((m18, n18, (true, (q18, s18, ()), dflt .unit), ()), (), ()), (t18, u18, w18, x18, y18, ()))
 else none
 else
 bif decide (List.length m18 = List.length m18) then
 some (((m18, n18, (false, dflt (.pair (.int .i64) (.pair (.int .i64) .unit)), ()), ()), (), ()), (t18, u18, w18, x18, y18, ()))
 else none
 else none
 else none
 else
 bif decide (List.length f18 = List.length f18) then
 bif decide (List.length l18 = List.length l18) then
 Option.bind (p90_4 fu ((f18, h18, (false, dflt (.pair (.int .i64) (.pair (.int .i64) .unit)), ()), ()), (y12, i13, s16, t16, l18, ()), ())) fun ⟨⟨⟨z18, a19, ⟨c19, ⟨f19, h19, _⟩, _⟩, _⟩, _, _⟩, ⟨i19, j19, k19, l19, m19, _⟩⟩ =>
 bif c19 then
 bif decide (List.length z18 = List.length z18) then
 some (((z18, a19, (true, (f19, h19, ()), dflt .unit), ()), (), ()), (i19, j19, k19, l19, m19, ()))
 else none
 else
 bif decide (List.length z18 = List.length z18) then
 some (((z18, a19, (false, dflt (.pair (.int .i64) (.pair (.int .i64) .unit)), ()), ()), (), ()), (i19, j19, k19, l19, m19, ()))
 else none
 else none
 else none
 else none
 else none
 else none
 else
 bif decide (List.length s12 = List.length s12) then
 Option.bind (p15_2 fu ((s12, t12, (false, dflt (.pair (.int .i64) (.pair (.int .i64) .unit)), ()), ()), ())) fun ⟨⟨⟨n19, o19, ⟨q19, ⟨s19, t19, _⟩, _⟩, _⟩, _, _⟩, u19⟩ =>
 bif q19 then
 bif decide (List.length n19 = List.length n19) then
 Option.bind (p71_2 fu ((n19, o19, (true, (s19, t19, ()), dflt .unit), ()), ())) fun ⟨⟨⟨w19, x19, ⟨y19, ⟨z19, a20, _⟩, _⟩, _⟩, _, _⟩, ⟨c20, f20, _⟩⟩ =>
 bif y19 then
 bif decide (List.length w19 = List.length w19) then
 Option.bind (p67_2 fu ((w19, x19, (true, (z19, a20, ()), dflt .unit), ()), (262144 : Int), ())) fun ⟨⟨⟨h20, i20, ⟨j20, ⟨k20, l20, _⟩, _⟩, _⟩, _, _⟩, m20⟩ =>
 bif j20 then
 bif decide (List.length h20 = List.length h20) then
 bif decide (List.length m20 = List.length m20) then
 Option.bind (p90_4 fu ((h20, i20, (true, (k20, l20, ()), dflt .unit), ()), (y12, u19, c20, f20, m20, ()), ())) fun ⟨⟨⟨n20, o20, ⟨q20, ⟨s20, t20, _⟩, _⟩, _⟩, _, _⟩, ⟨u20, w20, x20, y20, z20, _⟩⟩ =>
 bif q20 then
 bif decide (List.length n20 = List.length n20) then
 some (((n20, o20, (true, (s20, t20, ()), dflt .unit), ()), (), ()), (u20, w20, x20, y20, z20, ()))
 else none
 else
 bif decide (List.length n20 = List.length n20) then
 some (((n20, o20, (false, dflt (.pair (.int .i64) (.pair (.int .i64) .unit)), ()), ()), (), ()), (u20, w20, x20, y20, z20, ()))
 else none
 else none
 else none
 else
 bif decide (List.length h20 = List.length h20) then
 bif decide (List.length m20 = List.length m20) then
 Option.bind (p90_4 fu ((h20, i20, (false, dflt (.pair (.int .i64) (.pair (.int .i64) .unit)), ()), ()), (y12, u19, c20, f20, m20, ()), ())) fun ⟨⟨⟨a21, c21, ⟨f21, ⟨h21, i21, _⟩, _⟩, _⟩, _, _⟩, ⟨j21, k21, l21, m21, n21, _⟩⟩ =>
 bif f21 then
 bif decide (List.length a21 = List.length a21) then
 some (((a21, c21, (true, (h21, i21, ()), dflt .unit), ()), (), ()), (j21, k21, l21, m21, n21, ()))
 else none
 else
 bif decide (List.length a21 = List.length a21) then
 some (((a21, c21, (false, dflt (.pair (.int .i64) (.pair (.int .i64) .unit)), ()), ()), (), ()), (j21, k21, l21, m21, n21, ()))
 else none
 else none
 else none
 else none
 else
 bif decide (List.length w19 = List.length w19) then
 Option.bind (p67_2 fu ((w19, x19, (false, dflt (.pair (.int .i64) (.pair (.int .i64) .unit)), ()), ()), (262144 : Int), ())) fun ⟨⟨⟨o21, q21, ⟨s21, ⟨t21, u21, _⟩, _⟩, _⟩, _, _⟩, w21⟩ =>
 bif s21 then
 bif decide (List.length o21 = List.length o21) then
 bif decide (List.length w21 = List.length w21) then
 Option.bind (p90_4 fu ((o21, q21, (true, (t21, u21, ()), dflt .unit), ()), (y12, u19, c20, f20, w21, ()), ())) fun ⟨⟨⟨x21, y21, ⟨z21, ⟨a22, c22, _⟩, _⟩, _⟩, _, _⟩, ⟨f22, h22, i22, j22, k22, _⟩⟩ =>
 bif z21 then
 bif decide (List.length x21 = List.length x21) then
 some (((x21, y21, (true, (a22, c22, ()), dflt .unit), ()), (), ()), (f22, h22, i22, j22, k22, ()))
 else none
 else
 bif decide (List.length x21 = List.length x21) then
 some (((x21, y21, (false, dflt (.pair (.int .i64) (.pair (.int .i64) .unit)), ()), ()), (), ()), (f22, h22, i22, j22, k22, ()))
 else none
 else none
 else none
 else
 bif decide (List.length o21 = List.length o21) then
 bif decide (List.length w21 = List.length w21) then
 Option.bind (p90_4 fu ((o21, q21, (false, dflt (.pair (.int .i64) (.pair (.int .i64) .unit)), ()), ()), (y12, u19, c20, f20, w21, ()), ())) fun ⟨⟨⟨l22, m22, ⟨n22, ⟨o22, q22, _⟩, _⟩, _⟩, _, _⟩, ⟨s22, t22, u22, w22, x22, _⟩⟩ =>
 bif n22 then
 bif decide (List.length l22 = List.length l22) then
 some (((l22, m22, (true, (o22, q22, ()), dflt .unit), ()), (), ()), (s22, t22, u22, w22, x22, ()))
 else none
 else
 bif decide (List.length l22 = List.length l22) then
 some (((l22, m22, (false, dflt (.pair (.int .i64) (.pair (.int .i64) .unit)), ()), ()), (), ()), (s22, t22, u22, w22, x22, ()))
 else none
 else none
 else none
 else none
 else none
 else
 bif decide (List.length n19 = List.length n19) then
 Option.bind (p71_2 fu ((n19, o19, (false, dflt (.pair (.int .i64) (.pair (.int .i64) .unit)), ()), ()), ())) fun ⟨⟨⟨y22, z22, ⟨a23, ⟨c23, f23, _⟩, _⟩, _⟩, _, _⟩, ⟨h23, i23, _⟩⟩ =>
 bif a23 then
 bif decide (List.length y22 = List.length y22) then
 Option.bind (p67_2 fu ((y22, z22, (true, (c23, f23, ()), dflt .unit), ()), (262144 : Int), ())) fun ⟨⟨⟨j23, k23, ⟨l23, ⟨m23, n23, _⟩, _⟩, _⟩, _, _⟩, o23⟩ =>
 bif l23 then
 bif decide (List.length j23 = List.length j23) then
 bif decide (List.length o23 = List.length o23) then
 Option.bind (p90_4 fu ((j23, k23, (true, (m23, n23, ()), dflt .unit), ()), (y12, u19, h23, i23, o23, ()), ())) fun ⟨⟨⟨q23, s23, ⟨t23, ⟨u23, w23, _⟩, _⟩, _⟩, _, _⟩, ⟨x23, y23, z23, a24, c24, _⟩⟩ =>
 bif t23 then
 bif decide (List.length q23 = List.length q23) then
 some (((q23, s23, (true, (u23, w23, ()), dflt .unit), ()), (), ()), (x23, y23, z23, a24, c24, ()))
 else none
 else
 bif decide (List.length q23 = List.length q23) then
 some (((q23, s23, (false, dflt (.pair (.int .i64) (.pair (.int .i64) .unit)), ()), ()), (), ()), (x23, y23, z23, a24, c24, ()))
 else none
 else none
 else none
 else
 bif decide (List.length j23 = List.length j23) then
 bif decide (List.length o23 = List.length o23) then
 Option.bind (p90_4 fu ((j23, k23, (false, dflt (.pair (.int .i64) (.pair (.int .i64) .unit)), ()), ()), (y12, u19, h23, i23, o23, ()), ())) fun ⟨⟨⟨f24, h24, ⟨i24, ⟨j24, k24, _⟩, _⟩, _⟩, _, _⟩, ⟨l24, m24, n24, o24, q24, _⟩⟩ =>
 bif i24 then
 bif decide (List.length f24 = List.length f24) then
 some (((f24, h24, (true, (j24, k24, ()), dflt .unit), ()), (), ()), (l24, m24, n24, o24, q24, ()))
 else none
 else
 bif decide (List.length f24 = List.length f24) then
 some (((f24, h24, (false, dflt (.pair (.int .i64) (.pair (.int .i64) .unit)), ()), ()), (), ()), (l24, m24, n24, o24, q24, ()))
 else none
 else none
 else none
 else none
 else
 bif decide (List.length y22 = List.length y22) then
 Option.bind (p67_2 fu ((y22, z22, (false, dflt (.pair (.int .i64) (.pair (.int .i64) .unit)), ()), ()), (262144 : Int), ())) fun ⟨⟨⟨s24, t24, ⟨u24, ⟨w24, x24, _⟩, _⟩, _⟩, _, _⟩, y24⟩ =>
 bif u24 then
 bif decide (List.length s24 = List.length s24) then
 bif decide (List.length y24 = List.length y24) then
 Option.bind (p90_4 fu ((s24, t24, (true, (w24, x24, ()), dflt .unit), ()), (y12, u19, h23, i23, y24, ()), ())) fun ⟨⟨⟨z24, a25, ⟨c25, ⟨f25, h25, _⟩, _⟩, _⟩, _, _⟩, ⟨i25, j25, k25, l25, m25, _⟩⟩ =>
 bif c25 then
 bif decide (List.length z24 = List.length z24) then
 some (((z24, a25, (true, (f25, h25, ()), dflt .unit), ()), (), ()), (i25, j25, k25, l25, m25, ()))
 else none
 else
 bif decide (List.length z24 = List.length z24) then
 some (((z24, a25, (false, dflt (.pair (.int .i64) (.pair (.int .i64) .unit)), ()), ()), (), ()), (i25, j25, k25, l25, m25, ()))
 else none
 else none
 else none
 else
 bif decide (List.length s24 = List.length s24) then
 bif decide (List.length y24 = List.length y24) then
 Option.bind (p90_4 fu ((s24, t24, (false, dflt (.pair (.int .i64) (.pair (.int .i64) .unit)), ()), ()), (y12, u19, h23, i23, y24, ()), ())) fun ⟨⟨⟨n25, o25, ⟨q25, ⟨s25, t25, _⟩, _⟩, _⟩, _, _⟩, ⟨u25, w25, x25, y25, z25, _⟩⟩ =>
 bif q25 then
 bif decide (List.length n25 = List.length n25) then
 some (((n25, o25, (true, (s25, t25, ()), dflt .unit), ()), (), ()), (u25, w25, x25, y25, z25, ()))
 else none
 else
 bif decide (List.length n25 = List.length n25) then
 some (((n25, o25, (false, dflt (.pair (.int .i64) (.pair (.int .i64) .unit)), ()), ()), (), ()), (u25, w25, x25, y25, z25, ()))
 else none
 else none
 else none
 else none
 else none
 else none
 else none
def e49_2 (fu : Nat) : Ent := ⟨49, (.cons Y6 .nil), (.cons Y5 (.cons .dead .nil)), Y3, p49_2 fu⟩
def d49_2 (fu : Nat) : DC := (.seq (.region [opD 2 (.alloc 37 5 [vU, vU, vS, vS, vS])] [[]] false) (.seq (.region [mvD 3 0, mvD 4 0, oqD 5 (.call 15 [(tD 4)]) (.ent (e15_2 fu)), mvD 6 0, oqD 7 (.call 15 [(tD 6)]) (.ent (e15_2 fu)), mvD 8 0, oqD 9 (.call 71 [(tD 8)]) (.ent (e71_2 fu)), mvD 10 0, oqD 11 (.call 67 [(tD 10), (cD 262144)]) (.ent (e67_2 fu)), opD 12 (.build 5 [vU, vU, vS, vS, vS] [(0, (1, (tD 5))), (1, (1, (tD 7))), (2, (2, (tD 9))), (4, (1, (tD 11)))]), oqD 13 (.call 90 [(tD 3), (tD 12)]) (.ent (e90_4 fu)), onD (.store 5 (tD 2) (tD 13))] [[], [], [1], [], [3, 2], [], [5, 4], [], [7, 6], [2, 4, 6, 8], [0, 9, 8], [10, 10, 0, 1, 2, 3, 4, 5, 6, 7, 8, 9, 10]] false) .ret))
set_option maxRecDepth 1000000 in
theorem v49_2 (fu : Nat) : evF fu (d49_2 fu) rs49 14 (e49_2 fu).ash (e49_2 fu).osh (e49_2 fu).vsh = p49_2 fu := by kernel_rfl
set_option maxRecDepth 1000000 in
theorem b49_2 (fu : Nat) : BodyD Tryd.prog 49 14 (d49_2 fu).erase rs49 := bodyD_mk Tryd.func49 (by kernel_rfl) (by kernel_rfl) (by kernel_rfl) (by kernel_rfl)
theorem g49_2 (fu : Nat) : (e49_2 fu).Good Tryd.prog := good_by orders (b49_2 fu) (l := [e15_2 fu, e15_2 fu, e71_2 fu, e67_2 fu, e90_4 fu]) (by kernel_rfl) ⟨g15_2 fu, g15_2 fu, g71_2 fu, g67_2 fu, g90_4 fu, trivial⟩ (by kernel_rfl) (v49_2 fu)
def rs20 : List RVx := [(.cell 2 true 17), (.tmp 3)]
/-- gazette/codec.ReadItem -/
def p20 (fu : Nat) : (List (Int)) × (Unit) → Option ((Unit) × ((Z0) × ((Int) × (Unit)))) := fun ⟨a, _⟩ =>
Option.bind (p14 fu (a, ())) fun ⟨_, ⟨c, f, _, _⟩⟩ =>
bif decide (List.length c = List.length c) then
 Option.bind (p46 fu ((c, f, (), ()), ())) fun ⟨⟨⟨h, i, ⟨j, ⟨k, l, _⟩, _⟩, _⟩, _, _⟩, m⟩ =>
 bif j then
 bif decide (List.length h = List.length h) then
 Option.bind (p15_2 fu ((h, i, (true, (k, l, ()), dflt .unit), ()), ())) fun ⟨⟨⟨n, o, ⟨q, ⟨s, t, _⟩, _⟩, _⟩, _, _⟩, u⟩ =>
 bif q then
 orK (E := (Unit) × (((List (Int)) × ((Int) × (((Bool) × (((Int) × ((Int) × (Unit))) × (Unit))) × (Unit)))) × ((Z0) × (Unit))))
 (bif (m == (1 : Int)) then
 bif decide (List.length n = List.length n) then
 Option.bind (p47_2 fu ((n, o, (true, (s, t, ()), dflt .unit), ()), ())) fun ⟨⟨⟨w, x, ⟨y, ⟨z, a0, _⟩, _⟩, _⟩, _, _⟩, ⟨c0, f0, h0, i0, j0, k0, _⟩⟩ =>
 bif y then
 bif decide (List.length w = List.length w) then
 some (.inl ((), ((w, x, (true, (z, a0, ()), dflt .unit), ()), (m, u, c0, f0, h0, i0, j0, k0, (0 : Int), (0 : Int), (0 : Int), (0 : Int), (0 : Int), (0 : Int), [], [], [], ()), ())))
 else none
 else
 bif decide (List.length w = List.length w) then
 some (.inl ((), ((w, x, (false, dflt (.pair (.int .i64) (.pair (.int .i64) .unit)), ()), ()), (m, u, c0, f0, h0, i0, j0, k0, (0 : Int), (0 : Int), (0 : Int), (0 : Int), (0 : Int), (0 : Int), [], [], [], ()), ())))
 else none
 else none
 else
 bif (m == (2 : Int)) then
 bif decide (List.length n = List.length n) then
 Option.bind (p15_2 fu ((n, o, (true, (s, t, ()), dflt .unit), ()), ())) fun ⟨⟨⟨l0, m0, ⟨n0, ⟨o0, q0, _⟩, _⟩, _⟩, _, _⟩, s0⟩ =>
 bif n0 then
 bif decide (List.length l0 = List.length l0) then
 Option.bind (p48_2 fu ((l0, m0, (true, (o0, q0, ()), dflt .unit), ()), ())) fun ⟨⟨⟨t0, u0, ⟨w0, ⟨x0, y0, _⟩, _⟩, _⟩, _, _⟩, z0⟩ =>
 bif w0 then
 bif decide (List.length t0 = List.length t0) then
 Option.bind (p15_2 fu ((t0, u0, (true, (x0, y0, ()), dflt .unit), ()), ())) fun ⟨⟨⟨a1, c1, ⟨f1, ⟨h1, i1, _⟩, _⟩, _⟩, _, _⟩, j1⟩ =>
 bif f1 then
 bif decide (List.length a1 = List.length a1) then
 some (.inl ((), ((a1, c1, (true, (h1, i1, ()), dflt .unit), ()), (m, u, (0 : Int), (0 : Int), (0 : Int), [], [], [], s0, z0, j1, (0 : Int), (0 : Int), (0 : Int), [], [], [], ()), ())))
 else none
 else
 bif decide (List.length a1 = List.length a1) then
 some (.inl ((), ((a1, c1, (false, dflt (.pair (.int .i64) (.pair (.int .i64) .unit)), ()), ()), (m, u, (0 : Int), (0 : Int), (0 : Int), [], [], [], s0, z0, j1, (0 : Int), (0 : Int), (0 : Int), [], [], [], ()), ())))
 else none
 else none
 else
 bif decide (List.length t0 = List.length t0) then
 Option.bind (p15_2 fu ((t0, u0, (false, dflt (.pair (.int .i64) (.pair (.int .i64) .unit)), ()), ()), ())) fun ⟨⟨⟨k1, l1, ⟨m1, ⟨n1, o1, _⟩, _⟩, _⟩, _, _⟩, q1⟩ =>
 bif m1 then
 bif decide (List.length k1 = List.length k1) then
 some (.inl ((), ((k1, l1, (true, (n1, o1, ()), dflt .unit), ()), (m, u, (0 : Int), (0 : Int), (0 : Int), [], [], [], s0, z0, q1, (0 : Int), (0 : Int), (0 : Int), [], [], [], ()), ())))
 else none
 else
 bif decide (List.length k1 = List.length k1) then
 some (.inl ((), ((k1, l1, (false, dflt (.pair (.int .i64) (.pair (.int .i64) .unit)), ()), ()), (m, u, (0 : Int), (0 : Int), (0 : Int), [], [], [], s0, z0, q1, (0 : Int), (0 : Int), (0 : Int), [], [], [], ()), ())))
 else none
 else none
 else none
 else
 bif decide (List.length l0 = List.length l0) then
 Option.bind (p48_2 fu ((l0, m0, (false, dflt (.pair (.int .i64) (.pair (.int .i64) .unit)), ()), ()), ())) fun ⟨⟨⟨s1, t1, ⟨u1, ⟨w1, x1, _⟩, _⟩, _⟩, _, _⟩, y1⟩ =>
 bif u1 then
 bif decide (List.length s1 = List.length s1) then
 Option.bind (p15_2 fu ((s1, t1, (true, (w1, x1, ()), dflt .unit), ()), ())) fun ⟨⟨⟨z1, a2, ⟨c2, ⟨f2, h2, _⟩, _⟩, _⟩, _, _⟩, i2⟩ =>
 bif c2 then
 bif decide (List.length z1 = List.length z1) then
 some (.inl ((), ((z1, a2, (true, (f2, h2, ()), dflt .unit), ()), (m, u, (0 : Int), (0 : Int), (0 : Int), [], [], [], s0, y1, i2, (0 : Int), (0 : Int), (0 : Int), [], [], [], ()), ())))
 else none
 else
 bif decide (List.length z1 = List.length z1) then
 some (.inl ((), ((z1, a2, (false, dflt (.pair (.int .i64) (.pair (.int .i64) .unit)), ()), ()), (m, u, (0 : Int), (0 : Int), (0 : Int), [], [], [], s0, y1, i2, (0 : Int), (0 : Int), (0 : Int), [], [], [], ()), ())))
 else none
 else none
 else
 bif decide (List.length s1 = List.length s1) then
 Option.bind (p15_2 fu ((s1, t1, (false, dflt (.pair (.int .i64) (.pair (.int .i64) .unit)), ()), ()), ())) fun ⟨⟨⟨j2, k2, ⟨l2, ⟨m2, n2, _⟩, _⟩, _⟩, _, _⟩, o2⟩ =>
 bif l2 then
 bif decide (List.length j2 = List.length j2) then
 some (.inl ((), ((j2, k2, (true, (m2, n2, ()), dflt .unit), ()), (m, u, (0 : Int), (0 : Int), (0 : Int), [], [], [], s0, y1, o2, (0 : Int), (0 : Int), (0 : Int), [], [], [], ()), ())))
 else none
 else
 bif decide (List.length j2 = List.length j2) then
 some (.inl ((), ((j2, k2, (false, dflt (.pair (.int .i64) (.pair (.int .i64) .unit)), ()), ()), (m, u, (0 : Int), (0 : Int), (0 : Int), [], [], [], s0, y1, o2, (0 : Int), (0 : Int), (0 : Int), [], [], [], ()), ())))
 else none
 else none
 else none
 else none
 else
 bif (m == (3 : Int)) then
 bif decide (List.length n = List.length n) then
 Option.bind (p15_2 fu ((n, o, (true, (s, t, ()), dflt .unit), ()), ())) fun ⟨⟨⟨q2, s2, ⟨t2, ⟨u2, w2, _⟩, _⟩, _⟩, _, _⟩, x2⟩ =>
 bif t2 then
 bif decide (List.length q2 = List.length q2) then
 some (.inl ((), ((q2, s2, (true, (u2, w2, ()), dflt .unit), ()), (m, u, (0 : Int), (0 : Int), (0 : Int), [], [], [], (0 : Int), (0 : Int), (0 : Int), x2, (0 : Int), (0 : Int), [], [], [], ()), ())))
 else none
 else
 bif decide (List.length q2 = List.length q2) then
 some (.inl ((), ((q2, s2, (false, dflt (.pair (.int .i64) (.pair (.int .i64) .unit)), ()), ()), (m, u, (0 : Int), (0 : Int), (0 : Int), [], [], [], (0 : Int), (0 : Int), (0 : Int), x2, (0 : Int), (0 : Int), [], [], [], ()), ())))
 else none
 else none
 else
 bif (m == (4 : Int)) then
 bif decide (List.length n = List.length n) then
 Option.bind (p49_2 fu ((n, o, (true, (s, t, ()), dflt .unit), ()), ())) fun ⟨⟨⟨y2, z2, ⟨a3, ⟨c3, f3, _⟩, _⟩, _⟩, _, _⟩, ⟨h3, i3, j3, k3, l3, _⟩⟩ =>
 bif a3 then
 bif decide (List.length y2 = List.length y2) then
 some (.inl ((), ((y2, z2, (true, (c3, f3, ()), dflt .unit), ()), (m, u, (0 : Int), (0 : Int), (0 : Int), [], [], [], (0 : Int), (0 : Int), (0 : Int), (0 : Int), h3, i3, j3, k3, l3, ()), ())))
 else none
 else
 bif decide (List.length y2 = List.length y2) then
 some (.inl ((), ((y2, z2, (false, dflt (.pair (.int .i64) (.pair (.int .i64) .unit)), ()), ()), (m, u, (0 : Int), (0 : Int), (0 : Int), [], [], [], (0 : Int), (0 : Int), (0 : Int), (0 : Int), h3, i3, j3, k3, l3, ()), ())))
 else none
 else none
 else
 bif decide (List.length n = List.length n) then
 some (.inl ((), ((n, o, (true, (s, t, ()), dflt .unit), ()), (m, u, (0 : Int), (0 : Int), (0 : Int), [], [], [], (0 : Int), (0 : Int), (0 : Int), (0 : Int), (0 : Int), (0 : Int), [], [], [], ()), ())))
 else none)
 fun ⟨_, ⟨⟨m3, n3, ⟨o3, ⟨q3, s3, _⟩, _⟩, _⟩, ⟨t3, u3, w3, x3, y3, z3, a4, c4, f4, h4, i4, j4, k4, l4, m4, n4, o4, _⟩, _⟩⟩ =>
 bif o3 then
 bif decide (List.length m3 = List.length m3) then
 Option.bind (p19_2 fu ((m3, n3, (true, (q3, s3, ()), dflt .unit), ()), ())) fun ⟨⟨⟨_, _, ⟨q4, ⟨_, _, _⟩, _⟩, _⟩, _, _⟩, s4⟩ =>
 bif q4 then
 bif (s4 != (0 : Int)) then
 some ((), (((0 : Int), (0 : Int), (0 : Int), (0 : Int), (0 : Int), [], [], [], (0 : Int), (0 : Int), (0 : Int), (0 : Int), (0 : Int), (0 : Int), [], [], [], ()), s4, ()))
 else
 some ((), ((t3, u3, w3, x3, y3, z3, a4, c4, f4, h4, i4, j4, k4, l4, m4, n4, o4, ()), (0 : Int), ()))
 else
 bif (s4 != (0 : Int)) then
 some ((), (((0 : Int), (0 : Int), (0 : Int), (0 : Int), (0 : Int), [], [], [], (0 : Int), (0 : Int), (0 : Int), (0 : Int), (0 : Int), (0 : Int), [], [], [], ()), s4, ()))
 else
 some ((), ((t3, u3, w3, x3, y3, z3, a4, c4, f4, h4, i4, j4, k4, l4, m4, n4, o4, ()), (0 : Int), ()))
 else none
 else
 bif decide (List.length m3 = List.length m3) then
 Option.bind (p19_2 fu ((m3, n3, (false, dflt (.pair (.int .i64) (.pair (.int .i64) .unit)), ()), ()), ())) fun ⟨⟨⟨_, _, ⟨t4, ⟨_, _, _⟩, _⟩, _⟩, _, _⟩, u4⟩ =>
 bif t4 then
 bif (u4 != (0 : Int)) then
 some ((), (((0 : Int), (0 : Int), (0 : Int), (0 : Int), (0 : Int), [], [], [], (0 : Int), (0 : Int), (0 : Int), (0 : Int), (0 : Int), (0 : Int), [], [], [], ()), u4, ()))
 else
 some ((), ((t3, u3, w3, x3, y3, z3, a4, c4, f4, h4, i4, j4, k4, l4, m4, n4, o4, ()), (0 : Int), ()))
 else
 bif (u4 != (0 : Int)) then
 some ((), (((0 : Int), (0 : Int), (0 : Int), (0 : Int), (0 : Int), [], [], [], (0 : Int), (0 : Int), (0 : Int), (0 : Int), (0 : Int), (0 : Int), [], [], [], ()), u4, ()))
 else
 some ((), ((t3, u3, w3, x3, y3, z3, a4, c4, f4, h4, i4, j4, k4, l4, m4, n4, o4, ()), (0 : Int), ()))
 else none
 else
 orK (E := (Unit) × (((List (Int)) × ((Int) × (((Bool) × (((Int) × ((Int) × (Unit))) × (Unit))) × (Unit)))) × ((Z0) × (Unit))))
 (bif (m == (1 : Int)) then
 bif decide (List.length n = List.length n) then
 Option.bind (p47_2 fu ((n, o, (false, dflt (.pair (.int .i64) (.pair (.int .i64) .unit)), ()), ()), ())) fun ⟨⟨⟨w4, x4, ⟨y4, ⟨z4, a5, _⟩, _⟩, _⟩, _, _⟩, ⟨c5, f5, h5, i5, j5, k5, _⟩⟩ =>
 bif y4 then
 bif decide (List.length w4 = List.length w4) then
 some (.inl ((), ((w4, x4, (true, (z4, a5, ()), dflt .unit), ()), (m, u, c5, f5, h5, i5, j5, k5, (0 : Int), (0 : Int), (0 : Int), (0 : Int), (0 : Int), (0 : Int), [], [], [], ()), ())))
 else none
 else
 bif decide (List.length w4 = List.length w4) then
 some (.inl ((), ((w4, x4, (false, dflt (.pair (.int .i64) (.pair (.int .i64) .unit)), ()), ()), (m, u, c5, f5, h5, i5, j5, k5, (0 : Int), (0 : Int), (0 : Int), (0 : Int), (0 : Int), (0 : Int), [], [], [], ()), ())))
 else none
 else none
 else
 bif (m == (2 : Int)) then
 bif decide (List.length n = List.length n) then
 Option.bind (p15_2 fu ((n, o, (false, dflt (.pair (.int .i64) (.pair (.int .i64) .unit)), ()), ()), ())) fun ⟨⟨⟨l5, m5, ⟨n5, ⟨o5, q5, _⟩, _⟩, _⟩, _, _⟩, s5⟩ =>
 bif n5 then
 bif decide (List.length l5 = List.length l5) then
 Option.bind (p48_2 fu ((l5, m5, (true, (o5, q5, ()), dflt .unit), ()), ())) fun ⟨⟨⟨t5, u5, ⟨w5, ⟨x5, y5, _⟩, _⟩, _⟩, _, _⟩, z5⟩ =>
 bif w5 then
 bif decide (List.length t5 = List.length t5) then
 Option.bind (p15_2 fu ((t5, u5, (true, (x5, y5, ()), dflt .unit), ()), ())) fun ⟨⟨⟨a6, c6, ⟨f6, ⟨h6, i6, _⟩, _⟩, _⟩, _, _⟩, j6⟩ =>
 bif f6 then
 bif decide (List.length a6 = List.length a6) then
 some (.inl ((), ((a6, c6, (true, (h6, i6, ()), dflt .unit), ()), (m, u, (0 : Int), (0 : Int), (0 : Int), [], [], [], s5, z5, j6, (0 : Int), (0 : Int), (0 : Int), [], [], [], ()), ())))
 else none
 else
 bif decide (List.length a6 = List.length a6) then
 some (.inl ((), ((a6, c6, (false, dflt (.pair (.int .i64) (.pair (.int .i64) .unit)), ()), ()), (m, u, (0 : Int), (0 : Int), (0 : Int), [], [], [], s5, z5, j6, (0 : Int), (0 : Int), (0 : Int), [], [], [], ()), ())))
 else none
 else none
 else
 bif decide (List.length t5 = List.length t5) then
 Option.bind (p15_2 fu ((t5, u5, (false, dflt (.pair (.int .i64) (.pair (.int .i64) .unit)), ()), ()), ())) fun ⟨⟨⟨k6, l6, ⟨m6, ⟨n6, o6, _⟩, _⟩, _⟩, _, _⟩, q6⟩ =>
 bif m6 then
 bif decide (List.length k6 = List.length k6) then
 some (.inl ((), ((k6, l6, (true, (n6, o6, ()), dflt .unit), ()), (m, u, (0 : Int), (0 : Int), (0 : Int), [], [], [], s5, z5, q6, (0 : Int), (0 : Int), (0 : Int), [], [], [], ()), ())))
 else none
 else
 bif decide (List.length k6 = List.length k6) then
 some (.inl ((), ((k6, l6, (false, dflt (.pair (.int .i64) (.pair (.int .i64) .unit)), ()), ()), (m, u, (0 : Int), (0 : Int), (0 : Int), [], [], [], s5, z5, q6, (0 : Int), (0 : Int), (0 : Int), [], [], [], ()), ())))
 else none
 else none
 else none
 else
 bif decide (List.length l5 = List.length l5) then
 Option.bind (p48_2 fu ((l5, m5, (false, dflt (.pair (.int .i64) (.pair (.int .i64) .unit)), ()), ()), ())) fun ⟨⟨⟨s6, t6, ⟨u6, ⟨w6, x6, _⟩, _⟩, _⟩, _, _⟩, y6⟩ =>
 bif u6 then
 bif decide (List.length s6 = List.length s6) then
 Option.bind (p15_2 fu ((s6, t6, (true, (w6, x6, ()), dflt .unit), ()), ())) fun ⟨⟨⟨z6, a7, ⟨c7, ⟨f7, h7, _⟩, _⟩, _⟩, _, _⟩, i7⟩ =>
 bif c7 then
 bif decide (List.length z6 = List.length z6) then
 some (.inl ((), ((z6, a7, (true, (f7, h7, ()), dflt .unit), ()), (m, u, (0 : Int), (0 : Int), (0 : Int), [], [], [], s5, y6, i7, (0 : Int), (0 : Int), (0 : Int), [], [], [], ()), ())))
 else none
 else
 bif decide (List.length z6 = List.length z6) then
 some (.inl ((), ((z6, a7, (false, dflt (.pair (.int .i64) (.pair (.int .i64) .unit)), ()), ()), (m, u, (0 : Int), (0 : Int), (0 : Int), [], [], [], s5, y6, i7, (0 : Int), (0 : Int), (0 : Int), [], [], [], ()), ())))
 else none
 else none
 else
 bif decide (List.length s6 = List.length s6) then
 Option.bind (p15_2 fu ((s6, t6, (false, dflt (.pair (.int .i64) (.pair (.int .i64) .unit)), ()), ()), ())) fun ⟨⟨⟨j7, k7, ⟨l7, ⟨m7, n7, _⟩, _⟩, _⟩, _, _⟩, o7⟩ =>
 bif l7 then
 bif decide (List.length j7 = List.length j7) then
 some (.inl ((), ((j7, k7, (true, (m7, n7, ()), dflt .unit), ()), (m, u, (0 : Int), (0 : Int), (0 : Int), [], [], [], s5, y6, o7, (0 : Int), (0 : Int), (0 : Int), [], [], [], ()), ())))
 else none
 else
 bif decide (List.length j7 = List.length j7) then
 some (.inl ((), ((j7, k7, (false, dflt (.pair (.int .i64) (.pair (.int .i64) .unit)), ()), ()), (m, u, (0 : Int), (0 : Int), (0 : Int), [], [], [], s5, y6, o7, (0 : Int), (0 : Int), (0 : Int), [], [], [], ()), ())))
 else none
 else none
 else none
 else none
 else
 bif (m == (3 : Int)) then
 bif decide (List.length n = List.length n) then
 Option.bind (p15_2 fu ((n, o, (false, dflt (.pair (.int .i64) (.pair (.int .i64) .unit)), ()), ()), ())) fun ⟨⟨⟨q7, s7, ⟨t7, ⟨u7, w7, _⟩, _⟩, _⟩, _, _⟩, x7⟩ =>
 bif t7 then
 bif decide (List.length q7 = List.length q7) then
 some (.inl ((), ((q7, s7, (true, (u7, w7, ()), dflt .unit), ()), (m, u, (0 : Int), (0 : Int), (0 : Int), [], [], [], (0 : Int), (0 : Int), (0 : Int), x7, (0 : Int), (0 : Int), [], [], [], ()), ())))
 else none
 else
 bif decide (List.length q7 = List.length q7) then
 some (.inl ((), ((q7, s7, (false, dflt (.pair (.int .i64) (.pair (.int .i64) .unit)), ()), ()), (m, u, (0 : Int), (0 : Int), (0 : Int), [], [], [], (0 : Int), (0 : Int), (0 : Int), x7, (0 : Int), (0 : Int), [], [], [], ()), ())))
 else none
 else none
 else
 bif (m == (4 : Int)) then
 bif decide (List.length n = List.length n) then
 Option.bind (p49_2 fu ((n, o, (false, dflt (.pair (.int .i64) (.pair (.int .i64) .unit)), ()), ()), ())) fun ⟨⟨⟨y7, z7, ⟨a8, ⟨c8, f8, _⟩, _⟩, _⟩, _, _⟩, ⟨h8, i8, j8, k8, l8, _⟩⟩ =>
 bif a8 then
 bif decide (List.length y7 = List.length y7) then
 some (.inl ((), ((y7, z7, (true, (c8, f8, ()), dflt .unit), ()), (m, u, (0 : Int), (0 : Int), (0 : Int), [], [], [], (0 : Int), (0 : Int), (0 : Int), (0 : Int), h8, i8, j8, k8, l8, ()), ())))
 else none
 else
 bif decide (List.length y7 = List.length y7) then
 some (.inl ((), ((y7, z7, (false, dflt (.pair (.int .i64) (.pair (.int .i64) .unit)), ()), ()), (m, u, (0 : Int), (0 : Int), (0 : Int), [], [], [], (0 : Int), (0 : Int), (0 : Int), (0 : Int), h8, i8, j8, k8, l8, ()), ())))
 else none
 else none
 else
 bif decide (List.length n = List.length n) then
 some (.inl ((), ((n, o, (false, dflt (.pair (.int .i64) (.pair (.int .i64) .unit)), ()), ()), (m, u, (0 : Int), (0 : Int), (0 : Int), [], [], [], (0 : Int), (0 : Int), (0 : Int), (0 : Int), (0 : Int), (0 : Int), [], [], [], ()), ())))
 else none)
 fun ⟨_, ⟨⟨m3, n3, ⟨o3, ⟨q3, s3, _⟩, _⟩, _⟩, ⟨t3, u3, w3, x3, y3, z3, a4, c4, f4, h4, i4, j4, k4, l4, m4, n4, o4, _⟩, _⟩⟩ =>
 bif o3 then
 bif decide (List.length m3 = List.length m3) then
 Option.bind (p19_2 fu ((m3, n3, (true, (q3, s3, ()), dflt .unit), ()), ())) fun ⟨⟨⟨_, _, ⟨m8, ⟨_, _, _⟩, _⟩, _⟩, _, _⟩, n8⟩ =>
 bif m8 then
 bif (n8 != (0 : Int)) then
 some ((), (((0 : Int), (0 : Int), (0 : Int), (0 : Int), (0 : Int), [], [], [], (0 : Int), (0 : Int), (0 : Int), (0 : Int), (0 : Int), (0 : Int), [], [], [], ()), n8, ()))
 else
 some ((), ((t3, u3, w3, x3, y3, z3, a4, c4, f4, h4, i4, j4, k4, l4, m4, n4, o4, ()), (0 : Int), ()))
 else
 bif (n8 != (0 : Int)) then
 some ((), (((0 : Int), (0 : Int), (0 : Int), (0 : Int), (0 : Int), [], [], [], (0 : Int), (0 : Int), (0 : Int), (0 : Int), (0 : Int), (0 : Int), [], [], [], ()), n8, ()))
 else
 some ((), ((t3, u3, w3, x3, y3, z3, a4, c4, f4, h4, i4, j4, k4, l4, m4, n4, o4, ()), (0 : Int), ()))
 else none
 else
 bif decide (List.length m3 = List.length m3) then
 Option.bind (p19_2 fu ((m3, n3, (false, dflt (.pair (.int .i64) (.pair (.int .i64) .unit)), ()), ()), ())) fun ⟨⟨⟨_, _, ⟨o8, ⟨_, _, _⟩, _⟩, _⟩, _, _⟩, q8⟩ =>
 bif o8 then
 bif (q8 != (0 : Int)) then
 some ((), (((0 : Int), (0 : Int), (0 : Int), (0 : Int), (0 : Int), [], [], [], (0 : Int), (0 : Int), (0 : Int), (0 : Int), (0 : Int), (0 : Int), [], [], [], ()), q8, ()))
 else
 some ((), ((t3, u3, w3, x3, y3, z3, a4, c4, f4, h4, i4, j4, k4, l4, m4, n4, o4, ()), (0 : Int), ()))
 else
 bif (q8 != (0 : Int)) then
 some ((), (((0 : Int), (0 : Int), (0 : Int), (0 : Int), (0 : Int), [], [], [], (0 : Int), (0 : Int), (0 : Int), (0 : Int), (0 : Int), (0 : Int), [], [], [], ()), q8, ()))
 else
 some ((), ((t3, u3, w3, x3, y3, z3, a4, c4, f4, h4, i4, j4, k4, l4, m4, n4, o4, ()), (0 : Int), ()))
 else none
 else none
 else
 bif decide (List.length h = List.length h) then
 Option.bind (p15_2 fu ((h, i, (false, dflt (.pair (.int .i64) (.pair (.int .i64) .unit)), ()), ()), ())) fun ⟨⟨⟨s8, t8, ⟨u8, ⟨w8, x8, _⟩, _⟩, _⟩, _, _⟩, y8⟩ =>
 bif u8 then
 orK (E := (Unit) × (((List (Int)) × ((Int) × (((Bool) × (((Int) × ((Int) × (Unit))) × (Unit))) × (Unit)))) × ((Z0) × (Unit))))
 (bif (m == (1 : Int)) then
 bif decide (List.length s8 = List.length s8) then
 Option.bind (p47_2 fu ((s8, t8, (true, (w8, x8, ()), dflt .unit), ()), ())) fun ⟨⟨⟨z8, a9, ⟨c9, ⟨f9, h9, _⟩, _⟩, _⟩, _, _⟩, ⟨i9, j9, k9, l9, m9, n9, _⟩⟩ =>
 bif c9 then
 bif decide (List.length z8 = List.length z8) then
 some (.inl ((), ((z8, a9, (true, (f9, h9, ()), dflt .unit), ()), (m, y8, i9, j9, k9, l9, m9, n9, (0 : Int), (0 : Int), (0 : Int), (0 : Int), (0 : Int), (0 : Int), [], [], [], ()), ())))
 else none
 else
 bif decide (List.length z8 = List.length z8) then
 some (.inl ((), ((z8, a9, (false, dflt (.pair (.int .i64) (.pair (.int .i64) .unit)), ()), ()), (m, y8, i9, j9, k9, l9, m9, n9, (0 : Int), (0 : Int), (0 : Int), (0 : Int), (0 : Int), (0 : Int), [], [], [], ()), ())))
 else none
 else none
 else
 bif (m == (2 : Int)) then
 bif decide (List.length s8 = List.length s8) then
 Option.bind (p15_2 fu ((s8, t8, (true, (w8, x8, ()), dflt .unit), ()), ())) fun ⟨⟨⟨o9, q9, ⟨s9, ⟨t9, u9, _⟩, _⟩, _⟩, _, _⟩, w9⟩ =>
 bif s9 then
 bif decide (List.length o9 = List.length o9) then
 Option.bind (p48_2 fu ((o9, q9, (true, (t9, u9, ()), dflt .unit), ()), ())) fun ⟨⟨⟨x9, y9, ⟨z9, ⟨a10, c10, _⟩, _⟩, _⟩, _, _⟩, f10⟩ =>
 bif z9 then
 bif decide (List.length x9 = List.length x9) then
 Option.bind (p15_2 fu ((x9, y9, (true, (a10, c10, ()), dflt .unit), ()), ())) fun ⟨⟨⟨h10, i10, ⟨j10, ⟨k10, l10, _⟩, _⟩, _⟩, _, _⟩, m10⟩ =>
 bif j10 then
 bif decide (List.length h10 = List.length h10) then
 some (.inl ((), ((h10, i10, (true, (k10, l10, ()), dflt .unit), ()), (m, y8, (0 : Int), (0 : Int), (0 : Int), [], [], [], w9, f10, m10, (0 : Int), (0 : Int), (0 : Int), [], [], [], ()), ())))
 else none
 else
 bif decide (List.length h10 = List.length h10) then
 some (.inl ((), ((h10, i10, (false, dflt (.pair (.int .i64) (.pair (.int .i64) .unit)), ()), ()), (m, y8, (0 : Int), (0 : Int), (0 : Int), [], [], [], w9, f10, m10, (0 : Int), (0 : Int), (0 : Int), [], [], [], ()), ())))
 else none
 else none
 else
 bif decide (List.length x9 = List.length x9) then
 Option.bind (p15_2 fu ((x9, y9, (false, dflt (.pair (.int .i64) (.pair (.int .i64) .unit)), ()), ()), ())) fun ⟨⟨⟨n10, o10, ⟨q10, ⟨s10, t10, _⟩, _⟩, _⟩, _, _⟩, u10⟩ =>
 bif q10 then
 bif decide (List.length n10 = List.length n10) then
 some (.inl ((), ((n10, o10, (true, (s10, t10, ()), dflt .unit), ()), (m, y8, (0 : Int), (0 : Int), (0 : Int), [], [], [], w9, f10, u10, (0 : Int), (0 : Int), (0 : Int), [], [], [], ()), ())))
 else none
 else
 bif decide (List.length n10 = List.length n10) then
 some (.inl ((), ((n10, o10, (false, dflt (.pair (.int .i64) (.pair (.int .i64) .unit)), ()), ()), (m, y8, (0 : Int), (0 : Int), (0 : Int), [], [], [], w9, f10, u10, (0 : Int), (0 : Int), (0 : Int), [], [], [], ()), ())))
 else none
 else none
 else none
 else
 bif decide (List.length o9 = List.length o9) then
 Option.bind (p48_2 fu ((o9, q9, (false, dflt (.pair (.int .i64) (.pair (.int .i64) .unit)), ()), ()), ())) fun ⟨⟨⟨w10, x10, ⟨y10, ⟨z10, a11, _⟩, _⟩, _⟩, _, _⟩, c11⟩ =>
 bif y10 then
 bif decide (List.length w10 = List.length w10) then
 Option.bind (p15_2 fu ((w10, x10, (true, (z10, a11, ()), dflt .unit), ()), ())) fun ⟨⟨⟨f11, h11, ⟨i11, ⟨j11, k11, _⟩, _⟩, _⟩, _, _⟩, l11⟩ =>
 bif i11 then
 bif decide (List.length f11 = List.length f11) then
 some (.inl ((), ((f11, h11, (true, (j11, k11, ()), dflt .unit), ()), (m, y8, (0 : Int), (0 : Int), (0 : Int), [], [], [], w9, c11, l11, (0 : Int), (0 : Int), (0 : Int), [], [], [], ()), ())))
 else none
 else
 bif decide (List.length f11 = List.length f11) then
 some (.inl ((), ((f11, h11, (false, dflt (.pair (.int .i64) (.pair (.int .i64) .unit)), ()), ()), (m, y8, (0 : Int), (0 : Int), (0 : Int), [], [], [], w9, c11, l11, (0 : Int), (0 : Int), (0 : Int), [], [], [], ()), ())))
 else none
 else none
 else
 bif decide (List.length w10 = List.length w10) then
 Option.bind (p15_2 fu ((w10, x10, (false, dflt (.pair (.int .i64) (.pair (.int .i64) .unit)), ()), ()), ())) fun ⟨⟨⟨m11, n11, ⟨o11, ⟨q11, s11, _⟩, _⟩, _⟩, _, _⟩, t11⟩ =>
 bif o11 then
 bif decide (List.length m11 = List.length m11) then
 some (.inl ((), ((m11, n11, (true, (q11, s11, ()), dflt .unit), ()), (m, y8, (0 : Int), (0 : Int), (0 : Int), [], [], [], w9, c11, t11, (0 : Int), (0 : Int), (0 : Int), [], [], [], ()), ())))
 else none
 else
 bif decide (List.length m11 = List.length m11) then
 some (.inl ((), ((m11, n11, (false, dflt (.pair (.int .i64) (.pair (.int .i64) .unit)), ()), ()), (m, y8, (0 : Int), (0 : Int), (0 : Int), [], [], [], w9, c11, t11, (0 : Int), (0 : Int), (0 : Int), [], [], [], ()), ())))
 else none
 else none
 else none
 else none
 else
 bif (m == (3 : Int)) then
 bif decide (List.length s8 = List.length s8) then
 Option.bind (p15_2 fu ((s8, t8, (true, (w8, x8, ()), dflt .unit), ()), ())) fun ⟨⟨⟨u11, w11, ⟨x11, ⟨y11, z11, _⟩, _⟩, _⟩, _, _⟩, a12⟩ =>
 bif x11 then
 bif decide (List.length u11 = List.length u11) then
 some (.inl ((), ((u11, w11, (true, (y11, z11, ()), dflt .unit), ()), (m, y8, (0 : Int), (0 : Int), (0 : Int), [], [], [], (0 : Int), (0 : Int), (0 : Int), a12, (0 : Int), (0 : Int), [], [], [], ()), ())))
 else none
 else
 bif decide (List.length u11 = List.length u11) then
 some (.inl ((), ((u11, w11, (false, dflt (.pair (.int .i64) (.pair (.int .i64) .unit)), ()), ()), (m, y8, (0 : Int), (0 : Int), (0 : Int), [], [], [], (0 : Int), (0 : Int), (0 : Int), a12, (0 : Int), (0 : Int), [], [], [], ()), ())))
 else none
 else none
 else
 bif (m == (4 : Int)) then
 bif decide (List.length s8 = List.length s8) then
 Option.bind (p49_2 fu ((s8, t8, (true, (w8, x8, ()), dflt .unit), ()), ())) fun ⟨⟨⟨c12, f12, ⟨h12, ⟨i12, j12, _⟩, _⟩, _⟩, _, _⟩, ⟨k12, l12, m12, n12, o12, _⟩⟩ =>
 bif h12 then
 bif decide (List.length c12 = List.length c12) then
 some (.inl ((), ((c12, f12, (true, (i12, j12, ()), dflt .unit), ()), (m, y8, (0 : Int), (0 : Int), (0 : Int), [], [], [], (0 : Int), (0 : Int), (0 : Int), (0 : Int), k12, l12, m12, n12, o12, ()), ())))
 else none
 else
 bif decide (List.length c12 = List.length c12) then
 some (.inl ((), ((c12, f12, (false, dflt (.pair (.int .i64) (.pair (.int .i64) .unit)), ()), ()), (m, y8, (0 : Int), (0 : Int), (0 : Int), [], [], [], (0 : Int), (0 : Int), (0 : Int), (0 : Int), k12, l12, m12, n12, o12, ()), ())))
 else none
 else none
 else
 bif decide (List.length s8 = List.length s8) then
 some (.inl ((), ((s8, t8, (true, (w8, x8, ()), dflt .unit), ()), (m, y8, (0 : Int), (0 : Int), (0 : Int), [], [], [], (0 : Int), (0 : Int), (0 : Int), (0 : Int), (0 : Int), (0 : Int), [], [], [], ()), ())))
 else none)
 fun ⟨_, ⟨⟨m3, n3, ⟨o3, ⟨q3, s3, _⟩, _⟩, _⟩, ⟨t3, u3, w3, x3, y3, z3, a4, c4, f4, h4, i4, j4, k4, l4, m4, n4, o4, _⟩, _⟩⟩ =>
 bif o3 then
 bif decide (List.length m3 = List.length m3) then
 Option.bind (p19_2 fu ((m3, n3, (true, (q3, s3, ()), dflt .unit), ()), ())) fun ⟨⟨⟨_, _, ⟨q12, ⟨_, _, _⟩, _⟩, _⟩, _, _⟩, s12⟩ =>
 bif q12 then
 bif (s12 != (0 : Int)) then
 some ((), (((0 : Int), (0 : Int), (0 : Int), (0 : Int), (0 : Int), [], [], [], (0 : Int), (0 : Int), (0 : Int), (0 : Int), (0 : Int), (0 : Int), [], [], [], ()), s12, ()))
 else
 some ((), ((t3, u3, w3, x3, y3, z3, a4, c4, f4, h4, i4, j4, k4, l4, m4, n4, o4, ()), (0 : Int), ()))
 else
 bif (s12 != (0 : Int)) then
 some ((), (((0 : Int), (0 : Int), (0 : Int), (0 : Int), (0 : Int), [], [], [], (0 : Int), (0 : Int), (0 : Int), (0 : Int), (0 : Int), (0 : Int), [], [], [], ()), s12, ()))
 else
 some ((), ((t3, u3, w3, x3, y3, z3, a4, c4, f4, h4, i4, j4, k4, l4, m4, n4, o4, ()), (0 : Int), ()))
 else none
 else
 bif decide (List.length m3 = List.length m3) then
 Option.bind (p19_2 fu ((m3, n3, (false, dflt (.pair (.int .i64) (.pair (.int .i64) .unit)), ()), ()), ())) fun ⟨⟨⟨_, _, ⟨t12, ⟨_, _, _⟩, _⟩, _⟩, _, _⟩, u12⟩ =>
 bif t12 then
 bif (u12 != (0 : Int)) then
 some ((), (((0 : Int), (0 : Int), (0 : Int), (0 : Int), (0 : Int), [], [], [], (0 : Int), (0 : Int), (0 : Int), (0 : Int), (0 : Int), (0 : Int), [], [], [], ()), u12, ()))
 else
 some ((), ((t3, u3, w3, x3, y3, z3, a4, c4, f4, h4, i4, j4, k4, l4, m4, n4, o4, ()), (0 : Int), ()))
 else
 bif (u12 != (0 : Int)) then
 some ((), (((0 : Int), (0 : Int), (0 : Int), (0 : Int), (0 : Int), [], [], [], (0 : Int), (0 : Int), (0 : Int), (0 : Int), (0 : Int), (0 : Int), [], [], [], ()), u12, ()))
 else
 some ((), ((t3, u3, w3, x3, y3, z3, a4, c4, f4, h4, i4, j4, k4, l4, m4, n4, o4, ()), (0 : Int), ()))
 else none
 else
 orK (E := (Unit) × (((List (Int)) × ((Int) × (((Bool) × (((Int) × ((Int) × (Unit))) × (Unit))) × (Unit)))) × ((Z0) × (Unit))))
 (bif (m == (1 : Int)) then
 bif decide (List.length s8 = List.length s8) then
 Option.bind (p47_2 fu ((s8, t8, (false, dflt (.pair (.int .i64) (.pair (.int .i64) .unit)), ()), ()), ())) fun ⟨⟨⟨w12, x12, ⟨y12, ⟨z12, a13, _⟩, _⟩, _⟩, _, _⟩, ⟨c13, f13, h13, i13, j13, k13, _⟩⟩ =>
 bif y12 then
 bif decide (List.length w12 = List.length w12) then
 some (.inl ((), ((w12, x12, (true, (z12, a13, ()), dflt .unit), ()), (m, y8, c13, f13, h13, i13, j13, k13, (0 : Int), (0 : Int), (0 : Int), (0 : Int), (0 : Int), (0 : Int), [], [], [], ()), ())))
 else none
 else
 bif decide (List.length w12 = List.length w12) then
 some (.inl ((), ((w12, x12, (false, dflt (.pair (.int .i64) (.pair (.int .i64) .unit)), ()), ()), (m, y8, c13, f13, h13, i13, j13, k13, (0 : Int), (0 : Int), (0 : Int), (0 : Int), (0 : Int), (0 : Int), [], [], [], ()), ())))
 else none
 else none
 else
 bif (m == (2 : Int)) then
 bif decide (List.length s8 = List.length s8) then
 Option.bind (p15_2 fu ((s8, t8, (false, dflt (.pair (.int .i64) (.pair (.int .i64) .unit)), ()), ()), ())) fun ⟨⟨⟨l13, m13, ⟨n13, ⟨o13, q13, _⟩, _⟩, _⟩, _, _⟩, s13⟩ =>
 bif n13 then
 bif decide (List.length l13 = List.length l13) then
 Option.bind (p48_2 fu ((l13, m13, (true, (o13, q13, ()), dflt .unit), ()), ())) fun ⟨⟨⟨t13, u13, ⟨w13, ⟨x13, y13, _⟩, _⟩, _⟩, _, _⟩, z13⟩ =>
 bif w13 then
 bif decide (List.length t13 = List.length t13) then
 Option.bind (p15_2 fu ((t13, u13, (true, (x13, y13, ()), dflt .unit), ()), ())) fun ⟨⟨⟨a14, c14, ⟨f14, ⟨h14, i14, _⟩, _⟩, _⟩, _, _⟩, j14⟩ =>
 bif f14 then
 bif decide (List.length a14 = List.length a14) then
 some (.inl ((), ((a14, c14, (true, (h14, i14, ()), dflt .unit), ()), (m, y8, (0 : Int), (0 : Int), (0 : Int), [], [], [], s13, z13, j14, (0 : Int), (0 : Int), (0 : Int), [], [], [], ()), ())))
 else none
 else
 bif decide (List.length a14 = List.length a14) then
 some (.inl ((), ((a14, c14, (false, dflt (.pair (.int .i64) (.pair (.int .i64) .unit)), ()), ()), (m, y8, (0 : Int), (0 : Int), (0 : Int), [], [], [], s13, z13, j14, (0 : Int), (0 : Int), (0 : Int), [], [], [], ()), ())))
 else none
 else none
 else
 bif decide (List.length t13 = List.length t13) then
 Option.bind (p15_2 fu ((t13, u13, (false, dflt (.pair (.int .i64) (.pair (.int .i64) .unit)), ()), ()), ())) fun ⟨⟨⟨k14, l14, ⟨m14, ⟨n14, o14, _⟩, _⟩, _⟩, _, _⟩, q14⟩ =>
 bif m14 then
 bif decide (List.length k14 = List.length k14) then
 some (.inl ((), ((k14, l14, (true, (n14, o14, ()), dflt .unit), ()), (m, y8, (0 : Int), (0 : Int), (0 : Int), [], [], [], s13, z13, q14, (0 : Int), (0 : Int), (0 : Int), [], [], [], ()), ())))
 else none
 else
 bif decide (List.length k14 = List.length k14) then
 some (.inl ((), ((k14, l14, (false, dflt (.pair (.int .i64) (.pair (.int .i64) .unit)), ()), ()), (m, y8, (0 : Int), (0 : Int), (0 : Int), [], [], [], s13, z13, q14, (0 : Int), (0 : Int), (0 : Int), [], [], [], ()), ())))
 else none
 else none
 else none
 else
 bif decide (List.length l13 = List.length l13) then
 Option.bind (p48_2 fu ((l13, m13, (false, dflt (.pair (.int .i64) (.pair (.int .i64) .unit)), ()), ()), ())) fun ⟨⟨⟨s14, t14, ⟨u14, ⟨w14, x14, _⟩, _⟩, _⟩, _, _⟩, y14⟩ =>
 bif u14 then
 bif decide (List.length s14 = List.length s14) then
 Option.bind (p15_2 fu ((s14, t14, (true, (w14, x14, ()), dflt .unit), ()), ())) fun ⟨⟨⟨z14, a15, ⟨c15, ⟨f15, h15, _⟩, _⟩, _⟩, _, _⟩, i15⟩ =>
 bif c15 then
 bif decide (List.length z14 = List.length z14) then
 some (.inl ((), ((z14, a15, (true, (f15, h15, ()), dflt .unit), ()), (m, y8, (0 : Int), (0 : Int), (0 : Int), [], [], [], s13, y14, i15, (0 : Int), (0 : Int), (0 : Int), [], [], [], ()), ())))
 else none
 else
 bif decide (List.length z14 = List.length z14) then
 some (.inl ((), ((z14, a15, (false, dflt (.pair (.int .i64) (.pair (.int .i64) .unit)), ()), ()), (m, y8, (0 : Int), (0 : Int), (0 : Int), [], [], [], s13, y14, i15, (0 : Int), (0 : Int), (0 : Int), [], [], [], ()), ())))
 else none
 else none
 else
 bif decide (List.length s14 = List.length s14) then
 Option.bind (p15_2 fu ((s14, t14, (false, dflt (.pair (.int .i64) (.pair (.int .i64) .unit)), ()), ()), ())) fun ⟨⟨⟨j15, k15, ⟨l15, ⟨m15, n15, _⟩, _⟩, _⟩, _, _⟩, o15⟩ =>
 bif l15 then
 bif decide (List.length j15 = List.length j15) then
 some (.inl ((), ((j15, k15, (true, (m15, n15, ()), dflt .unit), ()), (m, y8, (0 : Int), (0 : Int), (0 : Int), [], [], [], s13, y14, o15, (0 : Int), (0 : Int), (0 : Int), [], [], [], ()), ())))
 else none
 else
 bif decide (List.length j15 = List.length j15) then
 some (.inl ((), ((j15, k15, (false, dflt (.pair (.int .i64) (.pair (.int .i64) .unit)), ()), ()), (m, y8, (0 : Int), (0 : Int), (0 : Int), [], [], [], s13, y14, o15, (0 : Int), (0 : Int), (0 : Int), [], [], [], ()), ())))
 else none
 else none
 else none
 else none
 else
 bif (m == (3 : Int)) then
 bif decide (List.length s8 = List.length s8) then
 Option.bind (p15_2 fu ((s8, t8, (false, dflt (.pair (.int .i64) (.pair (.int .i64) .unit)), ()), ()), ())) fun ⟨⟨⟨q15, s15, ⟨t15, ⟨u15, w15, _⟩, _⟩, _⟩, _, _⟩, x15⟩ =>
 bif t15 then
 bif decide (List.length q15 = List.length q15) then
 some (.inl ((), ((q15, s15, (true, (u15, w15, ()), dflt .unit), ()), (m, y8, (0 : Int), (0 : Int), (0 : Int), [], [], [], (0 : Int), (0 : Int), (0 : Int), x15, (0 : Int), (0 : Int), [], [], [], ()), ())))
 else none
 else
 bif decide (List.length q15 = List.length q15) then
 some (.inl ((), ((q15, s15, (false, dflt (.pair (.int .i64) (.pair (.int .i64) .unit)), ()), ()), (m, y8, (0 : Int), (0 : Int), (0 : Int), [], [], [], (0 : Int), (0 : Int), (0 : Int), x15, (0 : Int), (0 : Int), [], [], [], ()), ())))
 else none
 else none
 else
 bif (m == (4 : Int)) then
 bif decide (List.length s8 = List.length s8) then
 Option.bind (p49_2 fu ((s8, t8, (false, dflt (.pair (.int .i64) (.pair (.int .i64) .unit)), ()), ()), ())) fun ⟨⟨⟨y15, z15, ⟨a16, ⟨c16, f16, _⟩, _⟩, _⟩, _, _⟩, ⟨h16, i16, j16, k16, l16, _⟩⟩ =>
 bif a16 then
 bif decide (List.length y15 = List.length y15) then
 some (.inl ((), ((y15, z15, (true, (c16, f16, ()), dflt .unit), ()), (m, y8, (0 : Int), (0 : Int), (0 : Int), [], [], [], (0 : Int), (0 : Int), (0 : Int), (0 : Int), h16, i16, j16, k16, l16, ()), ())))
 else none
 else
 bif decide (List.length y15 = List.length y15) then
 some (.inl ((), ((y15, z15, (false, dflt (.pair (.int .i64) (.pair (.int .i64) .unit)), ()), ()), (m, y8, (0 : Int), (0 : Int), (0 : Int), [], [], [], (0 : Int), (0 : Int), (0 : Int), (0 : Int), h16, i16, j16, k16, l16, ()), ())))
 else none
 else none
 else
 bif decide (List.length s8 = List.length s8) then
 some (.inl ((), ((s8, t8, (false, dflt (.pair (.int .i64) (.pair (.int .i64) .unit)), ()), ()), (m, y8, (0 : Int), (0 : Int), (0 : Int), [], [], [], (0 : Int), (0 : Int), (0 : Int), (0 : Int), (0 : Int), (0 : Int), [], [], [], ()), ())))
 else none)
 fun ⟨_, ⟨⟨m3, n3, ⟨o3, ⟨q3, s3, _⟩, _⟩, _⟩, ⟨t3, u3, w3, x3, y3, z3, a4, c4, f4, h4, i4, j4, k4, l4, m4, n4, o4, _⟩, _⟩⟩ =>
 bif o3 then
 bif decide (List.length m3 = List.length m3) then
 Option.bind (p19_2 fu ((m3, n3, (true, (q3, s3, ()), dflt .unit), ()), ())) fun ⟨⟨⟨_, _, ⟨m16, ⟨_, _, _⟩, _⟩, _⟩, _, _⟩, n16⟩ =>
 bif m16 then
 bif (n16 != (0 : Int)) then
 some ((), (((0 : Int), (0 : Int), (0 : Int), (0 : Int), (0 : Int), [], [], [], (0 : Int), (0 : Int), (0 : Int), (0 : Int), (0 : Int), (0 : Int), [], [], [], ()), n16, ()))
 else
 some ((), ((t3, u3, w3, x3, y3, z3, a4, c4, f4, h4, i4, j4, k4, l4, m4, n4, o4, ()), (0 : Int), ()))
 else
 bif (n16 != (0 : Int)) then
 some ((), (((0 : Int), (0 : Int), (0 : Int), (0 : Int), (0 : Int), [], [], [], (0 : Int), (0 : Int), (0 : Int), (0 : Int), (0 : Int), (0 : Int), [], [], [], ()), n16, ()))
 else
 some ((), ((t3, u3, w3, x3, y3, z3, a4, c4, f4, h4, i4, j4, k4, l4, m4, n4, o4, ()), (0 : Int), ()))
 else none
 else
 bif decide (List.length m3 = List.length m3) then
 Option.bind (p19_2 fu ((m3, n3, (false, dflt (.pair (.int .i64) (.pair (.int .i64) .unit)), ()), ()), ())) fun ⟨⟨⟨_, _, ⟨o16, ⟨_, _, _⟩, _⟩, _⟩, _, _⟩, q16⟩ =>
 bif o16 then
 bif (q16 != (0 : Int)) then
 some ((), (((0 : Int), (0 : Int), (0 : Int), (0 : Int), (0 : Int), [], [], [], (0 : Int), (0 : Int), (0 : Int), (0 : Int), (0 : Int), (0 : Int), [], [], [], ()), q16, ()))
 else
 some ((), ((t3, u3, w3, x3, y3, z3, a4, c4, f4, h4, i4, j4, k4, l4, m4, n4, o4, ()), (0 : Int), ()))
 else
 bif (q16 != (0 : Int)) then
 some ((), (((0 : Int), (0 : Int), (0 : Int), (0 : Int), (0 : Int), [], [], [], (0 : Int), (0 : Int), (0 : Int), (0 : Int), (0 : Int), (0 : Int), [], [], [], ()), q16, ()))
 else
 some ((), ((t3, u3, w3, x3, y3, z3, a4, c4, f4, h4, i4, j4, k4, l4, m4, n4, o4, ()), (0 : Int), ()))
 else none
 else none
else none
def e20 (fu : Nat) : Ent := ⟨20, (.cons (.hole (.sl (.int .u8))) .nil), .nil, (.tup 2 (.cons Y4 (.cons (.hole (.int .i64)) .nil))), p20 fu⟩
def d20 (fu : Nat) : DC := (.seq (.region [opD 2 (.alloc 39 17 [vI, vU, vU, vU, vI, vS, vS, vS, vU, vI, vU, vU, vU, vU, vS, vS, vS]), opD 3 (.mov (cD 0))] [[], []] false) (.seq (.region [mvD 7 0, oqD 8 (.call 14 [(tD 7)]) (.ent (e14 fu)), mvD 4 8] [[], [0], [1, 1, 0, 1]] false) (.seq (.region [mvD 9 4, oqD 10 (.call 46 [(tD 9)]) (.ent (e46 fu)), mvD 11 4, oqD 12 (.call 15 [(tD 11)]) (.ent (e15_2 fu)), opD 13 (.build 17 [vI, vU, vU, vU, vI, vS, vS, vS, vU, vI, vU, vU, vU, vU, vS, vS, vS] [(0, (1, (tD 10))), (1, (1, (tD 12)))]), opD 5 (.alloc 39 17 [vI, vU, vU, vU, vI, vS, vS, vS, vU, vI, vU, vU, vU, vU, vS, vS, vS]), onD (.store 17 (tD 5) (tD 13))] [[], [0], [], [2, 1], [1, 3], [], [5, 4, 3, 0, 1, 2, 3, 4, 5]] false) (.join ⟨[], .nil, [(48, 95, 3), (160, 39, 17)], (.cons Y5 (.cons Y4 .nil)), [2, 4, 5], [0]⟩
 (.seq (.region [opD 14 (.faddr 0 (tD 5)), opD 15 (.load false 1 (tD 14))] [[], [0]] false) (.block 0 (.seq (.region [opD 17 (.bin .eql (tD 15) (cD 1)), mvD 16 17] [[], [0]] false) (.cond (.tmp 16) (.region [mvD 18 4, oqD 19 (.call 47 [(tD 18)]) (.ent (e47_2 fu)), opD 20 (.faddr 2 (tD 5)), onD (.store 6 (tD 20) (tD 19))] [[], [0], [0, 1], [2, 1, 1, 0, 1]] false) (.seq (.region [opD 22 (.bin .eql (tD 15) (cD 2)), mvD 21 22] [[], [0]] false) (.cond (.tmp 21) (.region [mvD 23 4, oqD 24 (.call 15 [(tD 23)]) (.ent (e15_2 fu)), mvD 25 4, oqD 26 (.call 48 [(tD 25)]) (.ent (e48_2 fu)), mvD 27 4, oqD 28 (.call 15 [(tD 27)]) (.ent (e15_2 fu)), opD 29 (.build 3 [vU, vI, vU] [(0, (1, (tD 24))), (1, (1, (tD 26))), (2, (1, (tD 28)))]), opD 30 (.faddr 8 (tD 5)), onD (.store 3 (tD 30) (tD 29))] [[], [0], [], [2, 1], [], [4, 3], [1, 3, 5], [0, 1, 2, 3, 4, 5, 6], [7, 6, 5, 0, 1, 2, 3, 4, 5, 6]] false) (.seq (.region [opD 32 (.bin .eql (tD 15) (cD 3)), mvD 31 32] [[], [0]] false) (.cond (.tmp 31) (.region [mvD 33 4, oqD 34 (.call 15 [(tD 33)]) (.ent (e15_2 fu)), opD 35 (.faddr 11 (tD 5)), onD (.store 1 (tD 35) (tD 34))] [[], [0], [0, 1], [2, 1, 1, 0, 1]] false) (.seq (.region [opD 37 (.bin .eql (tD 15) (cD 4)), mvD 36 37] [[], [0]] false) (.cond (.tmp 36) (.region [mvD 38 4, oqD 39 (.call 49 [(tD 38)]) (.ent (e49_2 fu)), opD 40 (.faddr 12 (tD 5)), onD (.store 5 (tD 40) (tD 39))] [[], [0], [0, 1], [2, 1, 1, 0, 1]] false) .skip))))))))))
 (.seq (.seq (.region [mvD 41 4, oqD 42 (.call 19 [(tD 41)]) (.ent (e19_2 fu)), mvD 6 42] [[], [0], [1, 1, 0, 1]] false) (.seq (.region [mvD 43 6, opD 44 (.bin .neq (tD 43) (cD 0))] [[], [0]] false) (.cond (.tmp 44) (.seq (.region [opD 45 (.build 17 [vI, vU, vU, vU, vI, vS, vS, vS, vU, vI, vU, vU, vU, vU, vS, vS, vS] []), mvD 46 6, onD (.store 17 (tD 2) (tD 45)), mvD 3 46] [[], [], [0, 0], [1, 2, 0, 1, 2]] false) .ret) .skip))) (.seq (.region [opD 47 (.load true 17 (tD 5)), onD (.store 17 (tD 2) (tD 47)), opD 3 (.mov (cD 0))] [[], [0, 0], [1, 0, 1]] false) .ret))))))
set_option maxRecDepth 1000000 in
theorem v20 (fu : Nat) : evF fu (d20 fu) rs20 48 (e20 fu).ash (e20 fu).osh (e20 fu).vsh = p20 fu := by kernel_rfl
set_option maxRecDepth 1000000 in
theorem b20 (fu : Nat) : BodyD Tryd.prog 20 48 (d20 fu).erase rs20 := bodyD_mk Tryd.func20 (by kernel_rfl) (by kernel_rfl) (by kernel_rfl) (by kernel_rfl)
theorem g20 (fu : Nat) : (e20 fu).Good Tryd.prog := good_by orders (b20 fu) (l := [e14 fu, e46 fu, e15_2 fu, e47_2 fu, e15_2 fu, e48_2 fu, e15_2 fu, e15_2 fu, e49_2 fu, e19_2 fu]) (by kernel_rfl) ⟨g14 fu, g46 fu, g15_2 fu, g47_2 fu, g15_2 fu, g48_2 fu, g15_2 fu, g15_2 fu, g49_2 fu, g19_2 fu, trivial⟩ (by kernel_rfl) (v20 fu)
/-- (*gazette/codec.Reader).failAt -/
def p43_3 (_ : Nat) : ((List (Int)) × ((Int) × ((Unit) × (Unit)))) × ((Int) × ((Int) × (Unit))) → Option ((((List (Int)) × ((Int) × (((Bool) × (((Int) × ((Int) × (Unit))) × (Unit))) × (Unit)))) × (Unit)) × (Unit)) := fun ⟨⟨a, c, _, _⟩, f, h, _⟩ =>
bif (h != (0 : Int)) then
 some (((a, c, (true, (h, f, ()), dflt .unit), ()), ()), ())
else
 some (((a, c, (false, dflt (.pair (.int .i64) (.pair (.int .i64) .unit)), ()), ()), ()), ())
def e43_3 (fu : Nat) : Ent := ⟨43, (.cons (.box 95 3 (.cons (.hole (.sl (.int .u8))) (.cons (.hole (.int .i64)) (.cons (.nilv 1) .nil)))) (.cons (.hole (.int .i64)) (.cons (.hole (.int .i64)) .nil))), (.cons Y7 .nil), (.tup 0 .nil), p43_3 fu⟩
def d43_3 (_ : Nat) : DC := (.seq (.region [mvD 6 0, opD 7 (.pure .nilc [(tD 6)]), opD 8 (.faddr 2 (tD 7)), opD 9 (.load false 1 (tD 8)), opD 10 (.pure (.nilq 1 false) [(tD 9)]), mvD 11 10, ogD 12 11 true (.mov (tD 2)), ogD 13 11 true (.bin .neq (tD 12) (cD 0)), opD 14 (.pick (tD 11) (tD 13) (.const vB))] [[], [0], [1], [2], [3], [4], [5], [6, 5], [5, 7]] false) (.cond (.tmp 14) (.region [mvD 15 0, mvD 16 2, mvD 17 1, opD 18 (.build 2 [vI, vI] [(0, (1, (tD 16))), (1, (1, (tD 17)))]), opD 19 (.box 103 2 (tD 18)), opD 20 (.ifc 99 (tD 19)), opD 21 (.pure .nilc [(tD 15)]), opD 22 (.faddr 2 (tD 21)), onD (.store 1 (tD 22) (tD 20))] [[], [], [], [1, 2], [3], [4], [0, 0, 1, 2, 3, 4, 5], [6, 0, 1, 2, 3, 4, 5], [7, 5, 0, 1, 2, 3, 4, 5]] false) .skip))
set_option maxRecDepth 1000000 in
theorem v43_3 (fu : Nat) : evF fu (d43_3 fu) rs43 23 (e43_3 fu).ash (e43_3 fu).osh (e43_3 fu).vsh = p43_3 fu := by kernel_rfl
set_option maxRecDepth 1000000 in
theorem b43_3 (fu : Nat) : BodyD Tryd.prog 43 23 (d43_3 fu).erase rs43 := bodyD_mk Tryd.func43 (by kernel_rfl) (by kernel_rfl) (by kernel_rfl) (by kernel_rfl)
theorem g43_3 (fu : Nat) : (e43_3 fu).Good Tryd.prog := good_by orders (b43_3 fu) (l := []) (by kernel_rfl) trivial (by kernel_rfl) (v43_3 fu)
/-- (*gazette/codec.Reader).Fail -/
def p41_1 (fu : Nat) : ((List (Int)) × ((Int) × ((Unit) × (Unit)))) × ((Int) × (Unit)) → Option ((((List (Int)) × ((Int) × (((Bool) × (((Int) × ((Int) × (Unit))) × (Unit))) × (Unit)))) × (Unit)) × (Unit)) := fun ⟨⟨a, c, _, _⟩, f, _⟩ =>
Option.bind (p43_3 fu ((a, c, (), ()), c, f, ())) fun ⟨⟨⟨h, i, ⟨j, ⟨k, l, _⟩, _⟩, _⟩, _⟩, _⟩ =>
bif j then
 some (((h, i, (true, (k, l, ()), dflt .unit), ()), ()), ())
else
 some (((h, i, (false, dflt (.pair (.int .i64) (.pair (.int .i64) .unit)), ()), ()), ()), ())
def e41_1 (fu : Nat) : Ent := ⟨41, (.cons (.box 95 3 (.cons (.hole (.sl (.int .u8))) (.cons (.hole (.int .i64)) (.cons (.nilv 1) .nil)))) (.cons (.hole (.int .i64)) .nil)), (.cons Y7 .nil), (.tup 0 .nil), p41_1 fu⟩
def d41_1 (fu : Nat) : DC := (.region [mvD 4 0, mvD 5 0, opD 6 (.pure .nilc [(tD 5)]), opD 7 (.faddr 1 (tD 6)), opD 8 (.load false 1 (tD 7)), mvD 9 1, oqD 10 (.call 43 [(tD 4), (tD 8), (tD 9)]) (.ent (e43_3 fu))] [[], [], [1], [2], [3], [], [0, 4, 5]] false)
set_option maxRecDepth 1000000 in
theorem v41_1 (fu : Nat) : evF fu (d41_1 fu) rs41 11 (e41_1 fu).ash (e41_1 fu).osh (e41_1 fu).vsh = p41_1 fu := by kernel_rfl
set_option maxRecDepth 1000000 in
theorem b41_1 (fu : Nat) : BodyD Tryd.prog 41 11 (d41_1 fu).erase rs41 := bodyD_mk Tryd.func41 (by kernel_rfl) (by kernel_rfl) (by kernel_rfl) (by kernel_rfl)
theorem g41_1 (fu : Nat) : (e41_1 fu).Good Tryd.prog := good_by orders (b41_1 fu) (l := [e43_3 fu]) (by kernel_rfl) ⟨g43_3 fu, trivial⟩ (by kernel_rfl) (v41_1 fu)
/-- (*gazette/codec.Reader).Uint -/
def p15_3 (fu : Nat) : ((List (Int)) × ((Int) × ((Unit) × (Unit)))) × (Unit) → Option ((((List (Int)) × ((Int) × (((Bool) × (((Int) × ((Int) × (Unit))) × (Unit))) × (Unit)))) × (Unit)) × (Int)) := fun ⟨⟨a, c, _, _⟩, _⟩ =>
bif decide ((0 : Int) ≤ c) then
 bif decide (Int.toNat c ≤ List.length a) then
 Option.bind (p40 fu (slice' a (Int.toNat c) none, ())) fun ⟨_, ⟨f, h, i, _⟩⟩ =>
 Option.bind (p41_1 fu ((a, c, (), ()), i, ())) fun ⟨⟨⟨j, k, ⟨l, ⟨m, n, _⟩, _⟩, _⟩, _⟩, _⟩ =>
 bif l then
 some (((j, IntKind.wrap .i64 (k + h), (true, (m, n, ()), dflt .unit), ()), ()), f)
 else
 some (((j, IntKind.wrap .i64 (k + h), (false, dflt (.pair (.int .i64) (.pair (.int .i64) .unit)), ()), ()), ()), f)
 else none
else none
def e15_3 (fu : Nat) : Ent := ⟨15, (.cons (.box 95 3 (.cons (.hole (.sl (.int .u8))) (.cons (.hole (.int .i64)) (.cons (.nilv 1) .nil)))) .nil), (.cons Y7 .nil), (.hole (.int .u64)), p15_3 fu⟩
def d15_3 (fu : Nat) : DC := (.seq (.region [opD 2 (.mov (.const vU))] [[]] false) (.seq (.seq (.region [mvD 6 0, opD 7 (.pure .nilc [(tD 6)]), opD 8 (.faddr 2 (tD 7)), opD 9 (.load false 1 (tD 8)), opD 10 (.pure (.nilq 1 true) [(tD 9)])] [[], [0], [1], [2], [3]] false) (.cond (.tmp 10) (.seq (.region [opD 2 (.mov (.const vU))] [[]] false) .ret) .skip)) (.seq (.region [mvD 12 0, opD 13 (.pure .nilc [(tD 12)]), opD 14 (.faddr 0 (tD 13)), opD 15 (.load false 1 (tD 14)), mvD 16 0, opD 17 (.pure .nilc [(tD 16)]), opD 18 (.faddr 1 (tD 17)), opD 19 (.load false 1 (tD 18)), opD 20 (.slc 1 (tD 15) (some (tD 19)) none), oqD 21 (.call 40 [(tD 20)]) (.ent (e40 fu)), mvD 11 21, opD 22 (.ext (tD 11) 0), opD 23 (.ext (tD 11) 1), opD 24 (.ext (tD 11) 2), mvD 3 22, mvD 4 23, mvD 5 24] [[], [0], [1], [2], [], [4], [5], [6], [3, 7], [8], [9], [10], [10], [10], [11, 9, 0, 1, 2, 3, 4, 5, 6, 7, 8, 9, 10, 11], [12, 14, 0, 1, 2, 3, 4, 5, 6, 7, 8, 9, 10, 11, 12, 14], [13, 15, 0, 1, 2, 3, 4, 5, 6, 7, 8, 9, 10, 11, 12, 13, 14, 15]] true) (.seq (.region [mvD 25 0, mvD 26 5, oqD 27 (.call 41 [(tD 25), (tD 26)]) (.ent (e41_1 fu))] [[], [], [0, 1]] false) (.seq (.region [mvD 28 0, opD 29 (.pure .nilc [(tD 28)]), opD 30 (.faddr 1 (tD 29)), opD 31 (.load false 1 (tD 30)), mvD 32 4, opD 33 (.bin .add (tD 31) (tD 32)), opD 34 (.pure .nilc [(tD 28)]), opD 35 (.faddr 1 (tD 34)), onD (.store 1 (tD 35) (tD 33))] [[], [0], [1], [2], [], [3, 4], [0, 0, 1, 2, 3, 4, 5], [6, 0, 1, 2, 3, 4, 5], [7, 5, 0, 1, 2, 3, 4, 5]] false) (.seq (.region [mvD 36 3, mvD 2 36] [[], [0, 0]] false) .ret))))))
set_option maxRecDepth 1000000 in
theorem v15_3 (fu : Nat) : evF fu (d15_3 fu) rs15 37 (e15_3 fu).ash (e15_3 fu).osh (e15_3 fu).vsh = p15_3 fu := by kernel_rfl
set_option maxRecDepth 1000000 in
theorem b15_3 (fu : Nat) : BodyD Tryd.prog 15 37 (d15_3 fu).erase rs15 := bodyD_mk Tryd.func15 (by kernel_rfl) (by kernel_rfl) (by kernel_rfl) (by kernel_rfl)
theorem g15_3 (fu : Nat) : (e15_3 fu).Good Tryd.prog := good_by orders (b15_3 fu) (l := [e40 fu, e41_1 fu]) (by kernel_rfl) ⟨g40 fu, g41_1 fu, trivial⟩ (by kernel_rfl) (v15_3 fu)
/-- (*gazette/codec.Reader).failAt -/
def p43_5 (_ : Nat) : ((List (Int)) × ((Int) × (((Bool) × (((Int) × ((Int) × (Unit))) × (Unit))) × (Unit)))) × ((Int) × ((Int) × (Unit))) → Option ((((List (Int)) × ((Int) × (((Bool) × (((Int) × ((Int) × (Unit))) × (Unit))) × (Unit)))) × (Unit)) × (Unit)) := fun ⟨⟨a, c, ⟨f, ⟨h, i, _⟩, _⟩, _⟩, j, k, _⟩ =>
bif f then
 some (((a, c, (true, (h, i, ()), dflt .unit), ()), ()), ())
else
 bif (k != (0 : Int)) then
 some (((a, c, (true, (k, j, ()), dflt .unit), ()), ()), ())
 else
 some (((a, c, (false, dflt (.pair (.int .i64) (.pair (.int .i64) .unit)), ()), ()), ()), ())
def e43_5 (fu : Nat) : Ent := ⟨43, (.cons Y8 (.cons (.hole (.int .i64)) (.cons (.hole (.int .i64)) .nil))), (.cons Y7 .nil), (.tup 0 .nil), p43_5 fu⟩
def d43_5 (_ : Nat) : DC := (.seq (.region [mvD 6 0, opD 7 (.pure .nilc [(tD 6)]), opD 8 (.faddr 2 (tD 7)), opD 9 (.load false 1 (tD 8)), opD 10 (.pure (.nilq 1 false) [(tD 9)]), mvD 11 10, ogD 12 11 true (.mov (tD 2)), ogD 13 11 true (.bin .neq (tD 12) (cD 0)), opD 14 (.pick (tD 11) (tD 13) (.const vB))] [[], [0], [1], [2], [3], [4], [5], [6, 5], [5, 7]] false) (.cond (.tmp 14) (.region [mvD 15 0, mvD 16 2, mvD 17 1, opD 18 (.build 2 [vI, vI] [(0, (1, (tD 16))), (1, (1, (tD 17)))]), opD 19 (.box 103 2 (tD 18)), opD 20 (.ifc 99 (tD 19)), opD 21 (.pure .nilc [(tD 15)]), opD 22 (.faddr 2 (tD 21)), onD (.store 1 (tD 22) (tD 20))] [[], [], [], [1, 2], [3], [4], [0, 0, 1, 2, 3, 4, 5], [6, 0, 1, 2, 3, 4, 5], [7, 5, 0, 1, 2, 3, 4, 5]] false) .skip))
set_option maxRecDepth 1000000 in
theorem v43_5 (fu : Nat) : evF fu (d43_5 fu) rs43 23 (e43_5 fu).ash (e43_5 fu).osh (e43_5 fu).vsh = p43_5 fu := by kernel_rfl
set_option maxRecDepth 1000000 in
theorem b43_5 (fu : Nat) : BodyD Tryd.prog 43 23 (d43_5 fu).erase rs43 := bodyD_mk Tryd.func43 (by kernel_rfl) (by kernel_rfl) (by kernel_rfl) (by kernel_rfl)
theorem g43_5 (fu : Nat) : (e43_5 fu).Good Tryd.prog := good_by orders (b43_5 fu) (l := []) (by kernel_rfl) trivial (by kernel_rfl) (v43_5 fu)
/-- (*gazette/codec.Reader).Fail -/
def p41_3 (fu : Nat) : ((List (Int)) × ((Int) × (((Bool) × (((Int) × ((Int) × (Unit))) × (Unit))) × (Unit)))) × ((Int) × (Unit)) → Option ((((List (Int)) × ((Int) × (((Bool) × (((Int) × ((Int) × (Unit))) × (Unit))) × (Unit)))) × (Unit)) × (Unit)) := fun ⟨⟨a, c, ⟨f, ⟨h, i, _⟩, _⟩, _⟩, j, _⟩ =>
bif f then
 Option.bind (p43_5 fu ((a, c, (true, (h, i, ()), dflt .unit), ()), c, j, ())) fun ⟨⟨⟨k, l, ⟨m, ⟨n, o, _⟩, _⟩, _⟩, _⟩, _⟩ =>
 bif m then
 some (((k, l, (true, (n, o, ()), dflt .unit), ()), ()), ())
 else
 some (((k, l, (false, dflt (.pair (.int .i64) (.pair (.int .i64) .unit)), ()), ()), ()), ())
else
 Option.bind (p43_5 fu ((a, c, (false, dflt (.pair (.int .i64) (.pair (.int .i64) .unit)), ()), ()), c, j, ())) fun ⟨⟨⟨q, s, ⟨t, ⟨u, w, _⟩, _⟩, _⟩, _⟩, _⟩ =>
 bif t then
 some (((q, s, (true, (u, w, ()), dflt .unit), ()), ()), ())
 else
 some (((q, s, (false, dflt (.pair (.int .i64) (.pair (.int .i64) .unit)), ()), ()), ()), ())
def e41_3 (fu : Nat) : Ent := ⟨41, (.cons Y8 (.cons (.hole (.int .i64)) .nil)), (.cons Y7 .nil), (.tup 0 .nil), p41_3 fu⟩
def d41_3 (fu : Nat) : DC := (.region [mvD 4 0, mvD 5 0, opD 6 (.pure .nilc [(tD 5)]), opD 7 (.faddr 1 (tD 6)), opD 8 (.load false 1 (tD 7)), mvD 9 1, oqD 10 (.call 43 [(tD 4), (tD 8), (tD 9)]) (.ent (e43_5 fu))] [[], [], [1], [2], [3], [], [0, 4, 5]] false)
set_option maxRecDepth 1000000 in
theorem v41_3 (fu : Nat) : evF fu (d41_3 fu) rs41 11 (e41_3 fu).ash (e41_3 fu).osh (e41_3 fu).vsh = p41_3 fu := by kernel_rfl
set_option maxRecDepth 1000000 in
theorem b41_3 (fu : Nat) : BodyD Tryd.prog 41 11 (d41_3 fu).erase rs41 := bodyD_mk Tryd.func41 (by kernel_rfl) (by kernel_rfl) (by kernel_rfl) (by kernel_rfl)
theorem g41_3 (fu : Nat) : (e41_3 fu).Good Tryd.prog := good_by orders (b41_3 fu) (l := [e43_5 fu]) (by kernel_rfl) ⟨g43_5 fu, trivial⟩ (by kernel_rfl) (v41_3 fu)
/-- (*gazette/codec.Reader).take -/
def p45_5 (fu : Nat) : ((List (Int)) × ((Int) × (((Bool) × (((Int) × ((Int) × (Unit))) × (Unit))) × (Unit)))) × ((Int) × (Unit)) → Option ((((List (Int)) × ((Int) × (((Bool) × (((Int) × ((Int) × (Unit))) × (Unit))) × (Unit)))) × (Unit)) × (List (Int))) := fun ⟨⟨a, c, ⟨f, ⟨h, i, _⟩, _⟩, _⟩, j, _⟩ =>
bif f then
 some (((a, c, (true, (h, i, ()), dflt .unit), ()), ()), [])
else
 bif decide (j > (IntKind.wrap .i64 ((List.length a : Int) - c))) then
 Option.bind (p41_1 fu ((a, c, (), ()), (11 : Int), ())) fun ⟨⟨⟨k, l, ⟨m, ⟨n, o, _⟩, _⟩, _⟩, _⟩, _⟩ =>
 bif m then
 some (((k, l, (true, (n, o, ()), dflt .unit), ()), ()), [])
 else
 bif decide ((0 : Int) ≤ IntKind.wrap .i64 ((IntKind.wrap .i64 (l + j)) - j)) then
 bif decide ((0 : Int) ≤ IntKind.wrap .i64 (l + j)) then
 bif decide (Int.toNat (IntKind.wrap .i64 ((IntKind.wrap .i64 (l + j)) - j)) ≤ Int.toNat (IntKind.wrap .i64 (l + j)) ∧ Int.toNat (IntKind.wrap .i64 (l + j)) ≤ List.length k) then
 bif decide (List.length (slice' k (Int.toNat (IntKind.wrap .i64 ((IntKind.wrap .i64 (l + j)) - j))) (some (Int.toNat (IntKind.wrap .i64 (l + j))))) ≤ maxLen ∧ List.length (slice' k (Int.toNat (IntKind.wrap .i64 ((IntKind.wrap .i64 (l + j)) - j))) (some (Int.toNat (IntKind.wrap .i64 (l + j))))) * 1 ≤ 140737488355328) then
 bif decide (List.length (slice' k (Int.toNat (IntKind.wrap .i64 ((IntKind.wrap .i64 (l + j)) - j))) (some (Int.toNat (IntKind.wrap .i64 (l + j))))) = List.length (slice' k (Int.toNat (IntKind.wrap .i64 ((IntKind.wrap .i64 (l + j)) - j))) (some (Int.toNat (IntKind.wrap .i64 (l + j)))))) then
 some (((k, IntKind.wrap .i64 (l + j), (false, dflt (.pair (.int .i64) (.pair (.int .i64) .unit)), ()), ()), ()), slice' k (Int.toNat (IntKind.wrap .i64 ((IntKind.wrap .i64 (l + j)) - j))) (some (Int.toNat (IntKind.wrap .i64 (l + j)))))
 else none
 else none
 else none
 else none
 else none
 else
 bif decide ((0 : Int) ≤ IntKind.wrap .i64 ((IntKind.wrap .i64 (c + j)) - j)) then
 bif decide ((0 : Int) ≤ IntKind.wrap .i64 (c + j)) then
 bif decide (Int.toNat (IntKind.wrap .i64 ((IntKind.wrap .i64 (c + j)) - j)) ≤ Int.toNat (IntKind.wrap .i64 (c + j)) ∧ Int.toNat (IntKind.wrap .i64 (c + j)) ≤ List.length a) then
 bif decide (List.length (slice' a (Int.toNat (IntKind.wrap .i64 ((IntKind.wrap .i64 (c + j)) - j))) (some (Int.toNat (IntKind.wrap .i64 (c + j))))) ≤ maxLen ∧ List.length (slice' a (Int.toNat (IntKind.wrap .i64 ((IntKind.wrap .i64 (c + j)) - j))) (some (Int.toNat (IntKind.wrap .i64 (c + j))))) * 1 ≤ 140737488355328) then
 bif decide (List.length (slice' a (Int.toNat (IntKind.wrap .i64 ((IntKind.wrap .i64 (c + j)) - j))) (some (Int.toNat (IntKind.wrap .i64 (c + j))))) = List.length (slice' a (Int.toNat (IntKind.wrap .i64 ((IntKind.wrap .i64 (c + j)) - j))) (some (Int.toNat (IntKind.wrap .i64 (c + j)))))) then
 some (((a, IntKind.wrap .i64 (c + j), (false, dflt (.pair (.int .i64) (.pair (.int .i64) .unit)), ()), ()), ()), slice' a (Int.toNat (IntKind.wrap .i64 ((IntKind.wrap .i64 (c + j)) - j))) (some (Int.toNat (IntKind.wrap .i64 (c + j)))))
 else none
 else none
 else none
 else none
 else none
def e45_5 (fu : Nat) : Ent := ⟨45, (.cons Y8 (.cons (.hole (.int .i64)) .nil)), (.cons Y7 .nil), (.own .own 5 (.int .u8)), p45_5 fu⟩
def d45_5 (fu : Nat) : DC := (.seq (.region [opD 4 (.mov (.const vS))] [[]] false) (.seq (.seq (.region [mvD 5 0, opD 6 (.pure .nilc [(tD 5)]), opD 7 (.faddr 2 (tD 6)), opD 8 (.load false 1 (tD 7)), opD 9 (.pure (.nilq 1 false) [(tD 8)]), mvD 10 9, ogD 11 10 true (.mov (tD 1)), ogD 12 10 true (.mov (tD 0)), ogD 13 10 true (.pure .nilc [(tD 12)]), ogD 14 10 true (.faddr 0 (tD 13)), ogD 15 10 true (.load false 1 (tD 14)), ogD 16 10 true (.len false (tD 15)), ogD 17 10 true (.mov (tD 0)), ogD 18 10 true (.pure .nilc [(tD 17)]), ogD 19 10 true (.faddr 1 (tD 18)), ogD 20 10 true (.load false 1 (tD 19)), ogD 21 10 true (.bin .sub (tD 16) (tD 20)), ogD 22 10 true (.bin .gtr (tD 11) (tD 21)), opD 23 (.pick (tD 10) (tD 22) (.const vB))] [[], [0], [1], [2], [3], [4], [5], [5], [7, 5], [8, 5], [9, 5], [10, 5], [5], [12, 5], [13, 5], [14, 5], [11, 15, 5], [6, 16, 5], [5, 17]] true) (.cond (.tmp 23) (.region [mvD 24 0, oqD 25 (.call 41 [(tD 24), (cD 11)]) (.ent (e41_1 fu))] [[], [0]] false) .skip)) (.seq (.seq (.region [mvD 26 0, opD 27 (.pure .nilc [(tD 26)]), opD 28 (.faddr 2 (tD 27)), opD 29 (.load false 1 (tD 28)), opD 30 (.pure (.nilq 1 true) [(tD 29)])] [[], [0], [1], [2], [3]] false) (.cond (.tmp 30) (.seq (.region [opD 4 (.mov (.const vS))] [[]] false) .ret) .skip)) (.seq (.region [mvD 31 0, opD 32 (.pure .nilc [(tD 31)]), opD 33 (.faddr 1 (tD 32)), opD 34 (.load false 1 (tD 33)), mvD 35 1, opD 36 (.bin .add (tD 34) (tD 35)), opD 37 (.pure .nilc [(tD 31)]), opD 38 (.faddr 1 (tD 37)), onD (.store 1 (tD 38) (tD 36))] [[], [0], [1], [2], [], [3, 4], [0, 0, 1, 2, 3, 4, 5], [6, 0, 1, 2, 3, 4, 5], [7, 5, 0, 1, 2, 3, 4, 5]] false) (.seq (.region [mvD 39 0, opD 40 (.pure .nilc [(tD 39)]), opD 41 (.faddr 0 (tD 40)), opD 42 (.load false 1 (tD 41)), mvD 43 0, opD 44 (.pure .nilc [(tD 43)]), opD 45 (.faddr 1 (tD 44)), opD 46 (.load false 1 (tD 45)), mvD 47 1, opD 48 (.bin .sub (tD 46) (tD 47)), mvD 49 0, opD 50 (.pure .nilc [(tD 49)]), opD 51 (.faddr 1 (tD 50)), opD 52 (.load false 1 (tD 51)), opD 53 (.slc 1 (tD 42) (some (tD 48)) (some (tD 52))), oqD 54 (.app 5 1 [(.int .u8 0)] 1 (.const vS) (tD 53)) (.ty (.int .u8)), mvD 4 54] [[], [0], [1], [2], [], [4], [5], [6], [], [7, 8], [], [10], [11], [12], [3, 9, 13], [14], [15, 15, 0, 1, 2, 3, 4, 5, 6, 7, 8, 9, 10, 11, 12, 13, 14, 15]] true) .ret)))))
set_option maxRecDepth 1000000 in
theorem v45_5 (fu : Nat) : evF fu (d45_5 fu) rs45 55 (e45_5 fu).ash (e45_5 fu).osh (e45_5 fu).vsh = p45_5 fu := by kernel_rfl
set_option maxRecDepth 1000000 in
theorem b45_5 (fu : Nat) : BodyD Tryd.prog 45 55 (d45_5 fu).erase rs45 := bodyD_mk Tryd.func45 (by kernel_rfl) (by kernel_rfl) (by kernel_rfl) (by kernel_rfl)
theorem g45_5 (fu : Nat) : (e45_5 fu).Good Tryd.prog := good_by orders (b45_5 fu) (l := [e41_1 fu]) (by kernel_rfl) ⟨g41_1 fu, trivial⟩ (by kernel_rfl) (v45_5 fu)
def rs50 : List RVx := [(.tmp 2)]
/-- gazette/codec.littleEndian -/
def p50 (fu : Nat) : (List (Int)) × (Unit) → Option ((Unit) × (Int)) := fun ⟨a, _⟩ =>
loopO (S := ((Int) × ((Int) × (Unit))) × (Unit)) fu (fun ⟨⟨c, f, _⟩, _⟩ =>
 bif decide (f < (List.length a : Int)) then
 bif decide ((0 : Int) ≤ f ∧ f < (List.length a : Int)) then
 bif decide (Int.toNat f < List.length a) then
 bif decide ((0 : Int) ≤ (IntKind.wrap .i64 ((8 : Int) * f))) then
 some (.inl ((IntKind.wrap .u32 ((BitVec.ofInt (IntKind.bits .u32) c ||| BitVec.ofInt (IntKind.bits .u32) (IntKind.wrap .u32 ((IntKind.wrap .u32 (List.getD a (Int.toNat f) (dflt (.int .u8)))) * 2 ^ (min (Int.toNat (IntKind.wrap .i64 ((8 : Int) * f))) (IntKind.bits .u32))))).toNat : Int), IntKind.wrap .i64 (f + (1 : Int)), ()), ()))
 else none
 else none
 else none
 else
 inrO (some ((), c)))
 (((0 : Int), (0 : Int), ()), ())
def e50 (fu : Nat) : Ent := ⟨50, (.cons (.hole (.sl (.int .u8))) .nil), .nil, (.hole (.int .u32)), p50 fu⟩
def d50 (_ : Nat) : DC := (.seq (.region [opD 2 (.mov (.const (.int .u32 0)))] [[]] false) (.seq (.region [opD 3 (.mov (.const (.int .u32 0)))] [[]] false) (.seq (.seq (.region [mvD 6 0, opD 7 (.len false (tD 6)), opD 8 (.mov (cD 0))] [[], [0], []] false) (.block 0 (.loop ⟨[3, 8], (.cons (.hole (.int .u32)) (.cons (.hole (.int .i64)) .nil)), [], .nil, [6, 7], []⟩
 (.seq (.region [opD 9 (.bin .lss (tD 8) (tD 7))] [[]] false) (.seq (.cond (.tmp 9) .skip (.exit 0)) (.seq (.block 1 (.seq (.region [mvD 10 8, opD 11 (.iaddr 1 (tD 6) (tD 8)), opD 12 (.load false 1 (tD 11)), mvD 4 10, mvD 5 12] [[], [], [1], [0, 0, 1, 2], [2, 3, 0, 1, 2, 3]] false) (.region [mvD 13 3, mvD 14 5, opD 15 (.conv .u32 (tD 14)), mvD 16 4, opD 17 (.bin .mul (cD 8) (tD 16)), opD 18 (.bin .shl (tD 15) (tD 17)), opD 19 (.bin .or (tD 13) (tD 18)), mvD 3 19] [[], [], [1], [], [3], [2, 4], [0, 5], [6, 0, 1, 2, 3, 4, 5, 6]] false))) (.region [opD 20 (.bin .add (tD 8) (cD 1)), mvD 8 20] [[], [0]] false))))))) (.seq (.region [mvD 21 3, mvD 2 21] [[], [0, 0]] false) .ret))))
set_option maxRecDepth 1000000 in
theorem v50 (fu : Nat) : evF fu (d50 fu) rs50 22 (e50 fu).ash (e50 fu).osh (e50 fu).vsh = p50 fu := by kernel_rfl
set_option maxRecDepth 1000000 in
theorem b50 (fu : Nat) : BodyD Tryd.prog 50 22 (d50 fu).erase rs50 := bodyD_mk Tryd.func50 (by kernel_rfl) (by kernel_rfl) (by kernel_rfl) (by kernel_rfl)
theorem g50 (fu : Nat) : (e50 fu).Good Tryd.prog := good_by orders (b50 fu) (l := []) (by kernel_rfl) trivial (by kernel_rfl) (v50 fu)
/-- (*gazette/codec.Reader).Err -/
def p16_5 (fu : Nat) : ((List (Int)) × ((Int) × (((Bool) × (((Int) × ((Int) × (Unit))) × (Unit))) × (Unit)))) × (Unit) → Option ((((List (Int)) × ((Int) × (((Bool) × (((Int) × ((Int) × (Unit))) × (Unit))) × (Unit)))) × (Unit)) × ((Int) × ((Int) × (Unit)))) := fun ⟨⟨a, c, ⟨f, ⟨h, i, _⟩, _⟩, _⟩, _⟩ =>
bif f then
 Option.bind (pAs fu ((false, dflt .unit, (h, i, ())), ((), ()), ())) fun ⟨⟨⟨⟨j, _, ⟨k, l, _⟩⟩, _⟩, _⟩, m⟩ =>
 bif j then
 bif m then
 none
 else
 some (((a, c, (true, (h, i, ()), dflt .unit), ()), ()), ((0 : Int), (0 : Int), ()))
 else
 bif m then
 some (((a, c, (true, (h, i, ()), dflt .unit), ()), ()), (k, l, ()))
 else
 some (((a, c, (true, (h, i, ()), dflt .unit), ()), ()), ((0 : Int), (0 : Int), ()))
else
 Option.bind (pAs fu ((true, (), dflt (.pair (.int .i64) (.pair (.int .i64) .unit))), ((), ()), ())) fun ⟨⟨⟨⟨n, _, ⟨o, q, _⟩⟩, _⟩, _⟩, s⟩ =>
 bif n then
 bif s then
 none
 else
 some (((a, c, (false, dflt (.pair (.int .i64) (.pair (.int .i64) .unit)), ()), ()), ()), ((0 : Int), (0 : Int), ()))
 else
 bif s then
 some (((a, c, (false, dflt (.pair (.int .i64) (.pair (.int .i64) .unit)), ()), ()), ()), (o, q, ()))
 else
 some (((a, c, (false, dflt (.pair (.int .i64) (.pair (.int .i64) .unit)), ()), ()), ()), ((0 : Int), (0 : Int), ()))
def e16_5 (fu : Nat) : Ent := ⟨16, (.cons Y8 .nil), (.cons Y7 .nil), (.tup 2 (.cons (.hole (.int .i64)) (.cons (.hole (.int .i64)) .nil))), p16_5 fu⟩
def d16_5 (fu : Nat) : DC := (.seq (.region [opD 2 (.mov (cD 0)), opD 3 (.mov (cD 0))] [[], [0]] false) (.seq (.region [opD 4 (.alloc 99 1 [(.pointer none)])] [[]] false) (.seq (.seq (.region [mvD 5 0, opD 6 (.pure .nilc [(tD 5)]), opD 7 (.faddr 2 (tD 6)), opD 8 (.load false 1 (tD 7)), opD 9 (.ifc 101 (tD 4)), oqD 10 (.call 42 [(tD 8), (tD 9)]) (.ent (eAs fu))] [[], [0], [1], [2], [], [3, 4]] false) (.cond (.tmp 10) (.seq (.region [opD 11 (.load false 1 (tD 4)), opD 12 (.pure .nilc [(tD 11)]), opD 13 (.faddr 0 (tD 12)), opD 14 (.load false 1 (tD 13)), opD 15 (.load false 1 (tD 4)), opD 16 (.pure .nilc [(tD 15)]), opD 17 (.faddr 1 (tD 16)), opD 18 (.load false 1 (tD 17)), mvD 2 14, mvD 3 18] [[], [0], [1], [2], [], [4], [5], [6], [3, 0, 1, 2, 3], [7, 8, 0, 1, 2, 3, 4, 5, 6, 7, 8]] true) .ret) .skip)) (.seq (.region [opD 2 (.mov (cD 0)), opD 3 (.mov (cD 0))] [[], [0, 0]] false) .ret))))
set_option maxRecDepth 1000000 in
theorem v16_5 (fu : Nat) : evF fu (d16_5 fu) rs16 19 (e16_5 fu).ash (e16_5 fu).osh (e16_5 fu).vsh = p16_5 fu := by kernel_rfl
set_option maxRecDepth 1000000 in
theorem b16_5 (fu : Nat) : BodyD Tryd.prog 16 19 (d16_5 fu).erase rs16 := bodyD_mk Tryd.func16 (by kernel_rfl) (by kernel_rfl) (by kernel_rfl) (by kernel_rfl)
theorem g16_5 (fu : Nat) : (e16_5 fu).Good Tryd.prog := good_by orders (b16_5 fu) (l := [eAs fu]) (by kernel_rfl) ⟨gAs fu, trivial⟩ (by kernel_rfl) (v16_5 fu)
def rs21 : List RVx := [(.tmp 2), (.tmp 3), (.tmp 4)]
/-- gazette/codec.Unframe -/
def p21 (fu : Nat) : (List (Int)) × (Unit) → Option ((Unit) × ((List (Int)) × ((List (Int)) × ((Int) × (Unit))))) := fun ⟨a, _⟩ =>
orK (E := ((List (Int)) × (Unit)) × (((List (Int)) × ((Int) × (((Bool) × (((Int) × ((Int) × (Unit))) × (Unit))) × (Unit)))) × (Unit)))
 (orK (E := ((List (Int)) × (Unit)) × (((List (Int)) × ((Int) × (((Bool) × (((Int) × ((Int) × (Unit))) × (Unit))) × (Unit)))) × (Unit)))
 (orK (E := ((Int) × (Unit)) × (((List (Int)) × ((Int) × (((Bool) × (((Int) × ((Int) × (Unit))) × (Unit))) × (Unit)))) × (Unit)))
 (Option.bind (p15_3 fu ((a, (0 : Int), (), ()), ())) fun ⟨⟨⟨c, f, ⟨h, ⟨i, j, _⟩, _⟩, _⟩, _⟩, k⟩ =>
 bif h then
 bif decide (k > (262144 : Int)) then
 Option.bind (p41_3 fu ((c, f, (true, (i, j, ()), dflt .unit), ()), (13 : Int), ())) fun ⟨⟨⟨l, m, ⟨n, ⟨o, q, _⟩, _⟩, _⟩, _⟩, _⟩ =>
 bif n then
 some (.inl ((k, ()), ((l, m, (true, (o, q, ()), dflt .unit), ()), ())))
 else
 some (.inl ((k, ()), ((l, m, (false, dflt (.pair (.int .i64) (.pair (.int .i64) .unit)), ()), ()), ())))
 else
 some (.inl ((k, ()), ((c, f, (true, (i, j, ()), dflt .unit), ()), ())))
 else
 bif decide (k > (262144 : Int)) then
 Option.bind (p41_3 fu ((c, f, (false, dflt (.pair (.int .i64) (.pair (.int .i64) .unit)), ()), ()), (13 : Int), ())) fun ⟨⟨⟨s, t, ⟨u, ⟨w, x, _⟩, _⟩, _⟩, _⟩, _⟩ =>
 bif u then
 some (.inl ((k, ()), ((s, t, (true, (w, x, ()), dflt .unit), ()), ())))
 else
 some (.inl ((k, ()), ((s, t, (false, dflt (.pair (.int .i64) (.pair (.int .i64) .unit)), ()), ()), ())))
 else
 some (.inl ((k, ()), ((c, f, (false, dflt (.pair (.int .i64) (.pair (.int .i64) .unit)), ()), ()), ()))))
 fun ⟨⟨y, _⟩, ⟨⟨z, a0, ⟨c0, ⟨f0, h0, _⟩, _⟩, _⟩, _⟩⟩ =>
 bif c0 then
 Option.bind (p45_5 fu ((z, a0, (true, (f0, h0, ()), dflt .unit), ()), IntKind.wrap .i64 y, ())) fun ⟨⟨⟨i0, j0, ⟨k0, ⟨l0, m0, _⟩, _⟩, _⟩, _⟩, n0⟩ =>
 bif k0 then
 bif decide (List.length n0 = List.length n0) then
 some (.inl ((n0, ()), ((i0, j0, (true, (l0, m0, ()), dflt .unit), ()), ())))
 else none
 else
 bif decide (List.length n0 = List.length n0) then
 some (.inl ((n0, ()), ((i0, j0, (false, dflt (.pair (.int .i64) (.pair (.int .i64) .unit)), ()), ()), ())))
 else none
 else
 Option.bind (p45_5 fu ((z, a0, (false, dflt (.pair (.int .i64) (.pair (.int .i64) .unit)), ()), ()), IntKind.wrap .i64 y, ())) fun ⟨⟨⟨o0, q0, ⟨s0, ⟨t0, u0, _⟩, _⟩, _⟩, _⟩, w0⟩ =>
 bif s0 then
 bif decide (List.length w0 = List.length w0) then
 some (.inl ((w0, ()), ((o0, q0, (true, (t0, u0, ()), dflt .unit), ()), ())))
 else none
 else
 bif decide (List.length w0 = List.length w0) then
 some (.inl ((w0, ()), ((o0, q0, (false, dflt (.pair (.int .i64) (.pair (.int .i64) .unit)), ()), ()), ())))
 else none)
 fun ⟨⟨x0, _⟩, ⟨⟨z, a0, ⟨c0, ⟨f0, h0, _⟩, _⟩, _⟩, _⟩⟩ =>
 bif c0 then
 Option.bind (p45_5 fu ((z, a0, (true, (f0, h0, ()), dflt .unit), ()), (4 : Int), ())) fun ⟨⟨⟨y0, z0, ⟨a1, ⟨c1, f1, _⟩, _⟩, _⟩, _⟩, h1⟩ =>
 bif a1 then
 bif decide (List.length x0 = List.length x0) then
 some (.inl ((x0, ()), ((y0, z0, (true, (c1, f1, ()), dflt .unit), ()), ())))
 else none
 else
 bif decide (List.length h1 = List.length h1) then
 Option.bind (p50 fu (h1, ())) fun ⟨_, i1⟩ =>
 bif decide (List.length x0 = List.length x0) then
 Option.bind (p24 fu (x0, ())) fun ⟨_, j1⟩ =>
 bif (i1 != j1) then
 Option.bind (p41_1 fu ((y0, z0, (), ()), (14 : Int), ())) fun ⟨⟨⟨k1, l1, ⟨m1, ⟨n1, o1, _⟩, _⟩, _⟩, _⟩, _⟩ =>
 bif m1 then
 bif decide (List.length x0 = List.length x0) then
 some (.inl ((x0, ()), ((k1, l1, (true, (n1, o1, ()), dflt .unit), ()), ())))
 else none
 else
 bif decide (List.length x0 = List.length x0) then
 some (.inl ((x0, ()), ((k1, l1, (false, dflt (.pair (.int .i64) (.pair (.int .i64) .unit)), ()), ()), ())))
 else none
 else
 bif decide (List.length x0 = List.length x0) then
 some (.inl ((x0, ()), ((y0, z0, (false, dflt (.pair (.int .i64) (.pair (.int .i64) .unit)), ()), ()), ())))
 else none
 else none
 else none
 else
 Option.bind (p45_5 fu ((z, a0, (false, dflt (.pair (.int .i64) (.pair (.int .i64) .unit)), ()), ()), (4 : Int), ())) fun ⟨⟨⟨q1, s1, ⟨t1, ⟨u1, w1, _⟩, _⟩, _⟩, _⟩, x1⟩ =>
 bif t1 then
 bif decide (List.length x0 = List.length x0) then
 some (.inl ((x0, ()), ((q1, s1, (true, (u1, w1, ()), dflt .unit), ()), ())))
 else none
 else
 bif decide (List.length x1 = List.length x1) then
 Option.bind (p50 fu (x1, ())) fun ⟨_, y1⟩ =>
 bif decide (List.length x0 = List.length x0) then
 Option.bind (p24 fu (x0, ())) fun ⟨_, z1⟩ =>
 bif (y1 != z1) then
 Option.bind (p41_1 fu ((q1, s1, (), ()), (14 : Int), ())) fun ⟨⟨⟨a2, c2, ⟨f2, ⟨h2, i2, _⟩, _⟩, _⟩, _⟩, _⟩ =>
 bif f2 then
 bif decide (List.length x0 = List.length x0) then
 some (.inl ((x0, ()), ((a2, c2, (true, (h2, i2, ()), dflt .unit), ()), ())))
 else none
 else
 bif decide (List.length x0 = List.length x0) then
 some (.inl ((x0, ()), ((a2, c2, (false, dflt (.pair (.int .i64) (.pair (.int .i64) .unit)), ()), ()), ())))
 else none
 else
 bif decide (List.length x0 = List.length x0) then
 some (.inl ((x0, ()), ((q1, s1, (false, dflt (.pair (.int .i64) (.pair (.int .i64) .unit)), ()), ()), ())))
 else none
 else none
 else none)
 fun ⟨⟨x0, _⟩, ⟨⟨z, a0, ⟨c0, ⟨f0, h0, _⟩, _⟩, _⟩, _⟩⟩ =>
bif c0 then
 Option.bind (p16_5 fu ((z, a0, (true, (f0, h0, ()), dflt .unit), ()), ())) fun ⟨⟨⟨j2, k2, ⟨l2, ⟨_, _, _⟩, _⟩, _⟩, _⟩, ⟨m2, _, _⟩⟩ =>
 bif l2 then
 bif (m2 != (0 : Int)) then
 some ((), ([], [], m2, ()))
 else
 bif decide ((0 : Int) ≤ k2) then
 bif decide (Int.toNat k2 ≤ List.length j2) then
 bif decide (List.length (slice' j2 (Int.toNat k2) none) ≤ maxLen ∧ List.length (slice' j2 (Int.toNat k2) none) * 1 ≤ 140737488355328) then
 bif decide (List.length x0 = List.length x0) then
 bif decide (List.length (slice' j2 (Int.toNat k2) none) = List.length (slice' j2 (Int.toNat k2) none)) then
 some ((), (x0, slice' j2 (Int.toNat k2) none, (0 : Int), ()))
 else none
 else none
 else none
 else none
 else none
 else
 bif (m2 != (0 : Int)) then
 some ((), ([], [], m2, ()))
 else
 bif decide ((0 : Int) ≤ k2) then
 bif decide (Int.toNat k2 ≤ List.length j2) then
 bif decide (List.length (slice' j2 (Int.toNat k2) none) ≤ maxLen ∧ List.length (slice' j2 (Int.toNat k2) none) * 1 ≤ 140737488355328) then
 bif decide (List.length x0 = List.length x0) then
 bif decide (List.length (slice' j2 (Int.toNat k2) none) = List.length (slice' j2 (Int.toNat k2) none)) then
 some ((), (x0, slice' j2 (Int.toNat k2) none, (0 : Int), ()))
 else none
 else none
 else none
 else none
 else none
else
 Option.bind (p16_5 fu ((z, a0, (false, dflt (.pair (.int .i64) (.pair (.int .i64) .unit)), ()), ()), ())) fun ⟨⟨⟨n2, o2, ⟨q2, ⟨_, _, _⟩, _⟩, _⟩, _⟩, ⟨s2, _, _⟩⟩ =>
 bif q2 then
 bif (s2 != (0 : Int)) then
 some ((), ([], [], s2, ()))
 else
 bif decide ((0 : Int) ≤ o2) then
 bif decide (Int.toNat o2 ≤ List.length n2) then
 bif decide (List.length (slice' n2 (Int.toNat o2) none) ≤ maxLen ∧ List.length (slice' n2 (Int.toNat o2) none) * 1 ≤ 140737488355328) then
 bif decide (List.length x0 = List.length x0) then
 bif decide (List.length (slice' n2 (Int.toNat o2) none) = List.length (slice' n2 (Int.toNat o2) none)) then
 some ((), (x0, slice' n2 (Int.toNat o2) none, (0 : Int), ()))
 else none
 else none
 else none
 else none
 else none
 else
 bif (s2 != (0 : Int)) then
 some ((), ([], [], s2, ()))
 else
 bif decide ((0 : Int) ≤ o2) then
 bif decide (Int.toNat o2 ≤ List.length n2) then
 bif decide (List.length (slice' n2 (Int.toNat o2) none) ≤ maxLen ∧ List.length (slice' n2 (Int.toNat o2) none) * 1 ≤ 140737488355328) then
 bif decide (List.length x0 = List.length x0) then
 bif decide (List.length (slice' n2 (Int.toNat o2) none) = List.length (slice' n2 (Int.toNat o2) none)) then
 some ((), (x0, slice' n2 (Int.toNat o2) none, (0 : Int), ()))
 else none
 else none
 else none
 else none
 else none
def e21 (fu : Nat) : Ent := ⟨21, (.cons (.hole (.sl (.int .u8))) .nil), .nil, (.tup 3 (.cons (.own .own 5 (.int .u8)) (.cons (.own .own 5 (.int .u8)) (.cons (.hole (.int .i64)) .nil)))), p21 fu⟩
def d21 (fu : Nat) : DC := (.seq (.region [opD 2 (.mov (.const vS)), opD 3 (.mov (.const vS)), opD 4 (.mov (cD 0))] [[], [0], [1]] false) (.seq (.region [mvD 12 0, opD 13 (.build 3 [vS, vI, .nilIface] [(0, (1, (tD 12)))]), opD 14 (.box 95 3 (tD 13)), mvD 5 14] [[], [0], [1], [2, 0, 1, 2]] false) (.seq (.region [opD 6 (.mov (.const vU))] [[]] false) (.seq (.region [opD 7 (.mov (.const vS)), opD 8 (.mov (.const vS))] [[], [0]] false) (.join ⟨[7], (.cons (.own .own 5 (.int .u8)) .nil), [(80, 95, 3)], (.cons Y7 .nil), [5], []⟩
 (.seq (.region [opD 9 (.mov (cD 0))] [[]] false) (.seq (.region [mvD 15 9] [[]] false) (.block 0 (.join ⟨[7], (.cons (.own .own 5 (.int .u8)) .nil), [(80, 95, 3)], (.cons Y7 .nil), [5], []⟩
 (.block 3 (.join ⟨[6], (.cons (.hole (.int .u64)) .nil), [(80, 95, 3)], (.cons Y7 .nil), [5], []⟩
 (.block 2 (.seq (.block 1 (.seq (.seq (.seq (.region [opD 17 (.bin .eql (tD 15) (cD 0)), mvD 16 17] [[], [0]] false) (.cond (.tmp 16) (.exit 1) .skip)) (.seq (.seq (.region [opD 19 (.bin .eql (tD 15) (cD 1)), mvD 18 19] [[], [0]] false) (.cond (.tmp 18) (.exit 2) .skip)) (.seq (.region [opD 21 (.bin .eql (tD 15) (cD 2)), mvD 20 21] [[], [0]] false) (.cond (.tmp 20) (.exit 3) .skip)))) (.exit 0))) (.seq (.region [mvD 22 5, oqD 23 (.call 15 [(tD 22)]) (.ent (e15_3 fu)), mvD 6 23] [[], [0], [1, 1, 0, 1]] false) (.seq (.region [mvD 24 6, opD 25 (.bin .gtr (tD 24) (.const (.int .u64 262144)))] [[], [0]] false) (.cond (.tmp 25) (.region [mvD 26 5, oqD 27 (.call 41 [(tD 26), (cD 13)]) (.ent (e41_3 fu))] [[], [0]] false) .skip)))))
 (.region [mvD 28 5, mvD 29 6, opD 30 (.conv .i64 (tD 29)), oqD 31 (.call 45 [(tD 28), (tD 30)]) (.ent (e45_5 fu)), mvD 7 31] [[], [], [1], [0, 2], [3, 3, 0, 1, 2, 3]] false)))
 (.seq (.seq (.region [mvD 32 5, oqD 33 (.call 45 [(tD 32), (cD 4)]) (.ent (e45_5 fu)), mvD 8 33] [[], [0], [1, 1, 0, 1]] false) (.seq (.region [mvD 34 5, opD 35 (.pure .nilc [(tD 34)]), opD 36 (.faddr 2 (tD 35)), opD 37 (.load false 1 (tD 36)), opD 38 (.pure (.nilq 1 false) [(tD 37)]), mvD 39 38, ogD 40 39 true (.mov (tD 8)), (⟨(some 41), (some (39, true)), (.call 50 [(tD 40)])⟩, (.ent (e50 fu))), ogD 42 39 true (.mov (tD 7)), (⟨(some 43), (some (39, true)), (.call 24 [(tD 42)])⟩, (.ent (e24 fu))), ogD 44 39 true (.bin .neq (tD 41) (tD 43)), opD 45 (.pick (tD 39) (tD 44) (.const vB))] [[], [0], [1], [2], [3], [4], [5], [6, 5, 5], [5], [8, 7, 5], [7, 9, 5], [5, 10]] false) (.cond (.tmp 45) (.region [mvD 46 5, oqD 47 (.call 41 [(tD 46), (cD 14)]) (.ent (e41_1 fu))] [[], [0]] false) .skip))) (.exit 0))))))
 (.seq (.seq (.region [mvD 49 5, oqD 50 (.call 16 [(tD 49)]) (.ent (e16_5 fu)), mvD 48 50, opD 51 (.ext (tD 48) 0), opD 52 (.ext (tD 48) 1), mvD 10 51, mvD 11 52] [[], [0], [1], [2], [2], [3, 1, 0, 1, 2, 3], [4, 5, 0, 1, 2, 3, 4, 5]] false) (.seq (.region [mvD 53 10, opD 54 (.bin .neq (tD 53) (cD 0))] [[], [0]] false) (.cond (.tmp 54) (.seq (.region [mvD 55 10, opD 2 (.mov (.const vS)), opD 3 (.mov (.const vS)), mvD 4 55] [[], [], [1, 1], [0, 2, 0, 1, 2]] false) .ret) .skip))) (.seq (.region [mvD 56 7, mvD 57 5, opD 58 (.pure .nilc [(tD 57)]), opD 59 (.faddr 0 (tD 58)), opD 60 (.load false 1 (tD 59)), mvD 61 5, opD 62 (.pure .nilc [(tD 61)]), opD 63 (.faddr 1 (tD 62)), opD 64 (.load false 1 (tD 63)), opD 65 (.slc 1 (tD 60) (some (tD 64)) none), oqD 66 (.app 5 1 [(.int .u8 0)] 1 (.const vS) (tD 65)) (.ty (.int .u8)), mvD 2 56, mvD 3 66, opD 4 (.mov (cD 0))] [[], [], [1], [2], [3], [], [5], [6], [7], [4, 8], [9], [0, 10, 0], [10, 11, 0, 1, 2, 3, 4, 5, 6, 7, 8, 9, 10, 11], [12, 0, 1, 2, 3, 4, 5, 6, 7, 8, 9, 10, 11, 12]] true) .ret)))))))
set_option maxRecDepth 1000000 in
theorem v21 (fu : Nat) : evF fu (d21 fu) rs21 67 (e21 fu).ash (e21 fu).osh (e21 fu).vsh = p21 fu := by kernel_rfl
set_option maxRecDepth 1000000 in
theorem b21 (fu : Nat) : BodyD Tryd.prog 21 67 (d21 fu).erase rs21 := bodyD_mk Tryd.func21 (by kernel_rfl) (by kernel_rfl) (by kernel_rfl) (by kernel_rfl)
theorem g21 (fu : Nat) : (e21 fu).Good Tryd.prog := good_by orders (b21 fu) (l := [e15_3 fu, e41_3 fu, e45_5 fu, e45_5 fu, e50 fu, e24 fu, e41_1 fu, e16_5 fu]) (by kernel_rfl) ⟨g15_3 fu, g41_3 fu, g45_5 fu, g45_5 fu, g50 fu, g24 fu, g41_1 fu, g16_5 fu, trivial⟩ (by kernel_rfl) (v21 fu)
def rs3 : List RVx := [(.tmp 0)]
/-- gazette/gazettelaw01.CodecNames -/
def p3 (fu : Nat) : Unit → Option ((Unit) × (Bool)) := fun _ =>
Option.bind (p11 fu ()) fun ⟨_, a⟩ =>
Option.bind (p12 fu ([], ())) fun ⟨_, c⟩ =>
Option.bind (p13 fu (((3 : Int), (5 : Int), (0 : Int), (0 : Int), (0 : Int), [], [], [], (0 : Int), (0 : Int), (0 : Int), (300 : Int), (0 : Int), (0 : Int), [], [], [], ()), ())) fun ⟨_, f⟩ =>
loopO (S := ((Int) × (Unit)) × (Unit)) fu (fun ⟨⟨h, _⟩, _⟩ =>
 bif decide (h < (3 : Int)) then
 bif decide ((0 : Int) ≤ h ∧ h < (3 : Int)) then
 bif decide (Int.toNat h < List.length ([(⟨#[128, 0]⟩ : ByteArray), (⟨#[128]⟩ : ByteArray), (⟨#[255, 255, 255, 255, 255, 255, 255, 255, 255, 255]⟩ : ByteArray)])) then
 Option.bind (p14 fu (numsOf (List.getD ([(⟨#[128, 0]⟩ : ByteArray), (⟨#[128]⟩ : ByteArray), (⟨#[255, 255, 255, 255, 255, 255, 255, 255, 255, 255]⟩ : ByteArray)]) (Int.toNat h) (dflt .str)), ())) fun ⟨_, ⟨i, j, _, _⟩⟩ =>
 bif decide (List.length i = List.length i) then
 Option.bind (p15 fu ((i, j, (), ()), ())) fun ⟨⟨⟨k, l, ⟨m, ⟨n, o, _⟩, _⟩, _⟩, _, _⟩, _⟩ =>
 bif m then
 bif decide (List.length k = List.length k) then
 Option.bind (p16_2 fu ((k, l, (true, (n, o, ()), dflt .unit), ()), ())) fun ⟨⟨⟨_, _, ⟨q, ⟨_, _, _⟩, _⟩, _⟩, _, _⟩, ⟨s, t, _⟩⟩ =>
 bif q then
 bif decide ((0 : Int) ≤ h ∧ h < (3 : Int)) then
 bif decide (Int.toNat h < List.length ([(12 : Int), (11 : Int), (12 : Int)])) then
 bif (s != (List.getD ([(12 : Int), (11 : Int), (12 : Int)]) (Int.toNat h) (dflt (.int .i64)))) then
 inrO (some ((), false))
 else
 bif (t != (0 : Int)) then
 inrO (some ((), false))
 else
 some (.inl ((IntKind.wrap .i64 (h + (1 : Int)), ()), ()))
 else none
 else none
 else
 bif decide ((0 : Int) ≤ h ∧ h < (3 : Int)) then
 bif decide (Int.toNat h < List.length ([(12 : Int), (11 : Int), (12 : Int)])) then
 bif (s != (List.getD ([(12 : Int), (11 : Int), (12 : Int)]) (Int.toNat h) (dflt (.int .i64)))) then
 inrO (some ((), false))
 else
 bif (t != (0 : Int)) then
 inrO (some ((), false))
 else
 some (.inl ((IntKind.wrap .i64 (h + (1 : Int)), ()), ()))
 else none
 else none
 else none
 else
 bif decide (List.length k = List.length k) then
 Option.bind (p16_2 fu ((k, l, (false, dflt (.pair (.int .i64) (.pair (.int .i64) .unit)), ()), ()), ())) fun ⟨⟨⟨_, _, ⟨u, ⟨_, _, _⟩, _⟩, _⟩, _, _⟩, ⟨w, x, _⟩⟩ =>
 bif u then
 bif decide ((0 : Int) ≤ h ∧ h < (3 : Int)) then
 bif decide (Int.toNat h < List.length ([(12 : Int), (11 : Int), (12 : Int)])) then
 bif (w != (List.getD ([(12 : Int), (11 : Int), (12 : Int)]) (Int.toNat h) (dflt (.int .i64)))) then
 inrO (some ((), false))
 else
 bif (x != (0 : Int)) then
 inrO (some ((), false))
 else
 some (.inl ((IntKind.wrap .i64 (h + (1 : Int)), ()), ()))
 else none
 else none
 else
 bif decide ((0 : Int) ≤ h ∧ h < (3 : Int)) then
 bif decide (Int.toNat h < List.length ([(12 : Int), (11 : Int), (12 : Int)])) then
 bif (w != (List.getD ([(12 : Int), (11 : Int), (12 : Int)]) (Int.toNat h) (dflt (.int .i64)))) then
 inrO (some ((), false))
 else
 bif (x != (0 : Int)) then
 inrO (some ((), false))
 else
 some (.inl ((IntKind.wrap .i64 (h + (1 : Int)), ()), ()))
 else none
 else none
 else none
 else none
 else none
 else none
 else
 inrO (Option.bind (p14 fu ([(4 : Int), (0 : Int), (0 : Int), (0 : Int), (0 : Int)], ())) fun ⟨_, ⟨y, z, _, _⟩⟩ =>
 bif decide (List.length y = List.length y) then
 Option.bind (p17 fu ((y, z, (), ()), (3 : Int), ())) fun ⟨⟨⟨a0, c0, ⟨f0, ⟨h0, i0, _⟩, _⟩, _⟩, _, _⟩, _⟩ =>
 bif f0 then
 bif decide (List.length a0 = List.length a0) then
 Option.bind (p16_2 fu ((a0, c0, (true, (h0, i0, ()), dflt .unit), ()), ())) fun ⟨⟨⟨_, _, ⟨j0, ⟨_, _, _⟩, _⟩, _⟩, _, _⟩, ⟨k0, _, _⟩⟩ =>
 bif j0 then
 Option.bind (p14 fu ([(0 : Int), (1 : Int)], ())) fun ⟨_, ⟨l0, m0, _, _⟩⟩ =>
 bif decide (List.length l0 = List.length l0) then
 Option.bind (p18 fu ((l0, m0, (), ()), ())) fun ⟨⟨⟨n0, o0, ⟨q0, ⟨s0, t0, _⟩, _⟩, _⟩, _, _⟩, _⟩ =>
 bif q0 then
 bif decide (List.length n0 = List.length n0) then
 Option.bind (p19_2 fu ((n0, o0, (true, (s0, t0, ()), dflt .unit), ()), ())) fun ⟨⟨⟨_, _, ⟨u0, ⟨_, _, _⟩, _⟩, _⟩, _, _⟩, w0⟩ =>
 bif u0 then
 Option.bind (p20 fu ([(12 : Int), (0 : Int)], ())) fun ⟨_, ⟨⟨_, _, _, _, _, _, _, _, _, _, _, _, _, _, _, _, _, _⟩, x0, _⟩⟩ =>
 Option.bind (p21 fu ([(0 : Int), (0 : Int), (0 : Int), (0 : Int), (1 : Int)], ())) fun ⟨_, ⟨_, _, y0, _⟩⟩ =>
 bif a then
 bif decide (List.length c = List.length c) then
 bif ByteArray.toList (strOfNums c) == ByteArray.toList (⟨#[0, 0, 0, 0, 0]⟩ : ByteArray) then
 bif decide (List.length f = List.length f) then
 bif ByteArray.toList (strOfNums f) == ByteArray.toList (⟨#[6, 5, 172, 2]⟩ : ByteArray) then
 bif (k0 == (13 : Int)) then
 bif (w0 == (15 : Int)) then
 bif (x0 == (16 : Int)) then
 some ((), (y0 == (14 : Int)))
 else
 some ((), false)
 else
 some ((), false)
 else
 some ((), false)
 else
 some ((), false)
 else none
 else
 some ((), false)
 else none
 else
 some ((), false)
 else
 Option.bind (p20 fu ([(12 : Int), (0 : Int)], ())) fun ⟨_, ⟨⟨_, _, _, _, _, _, _, _, _, _, _, _, _, _, _, _, _, _⟩, z0, _⟩⟩ =>
 Option.bind (p21 fu ([(0 : Int), (0 : Int), (0 : Int), (0 : Int), (1 : Int)], ())) fun ⟨_, ⟨_, _, a1, _⟩⟩ =>
 bif a then
 bif decide (List.length c = List.length c) then
 bif ByteArray.toList (strOfNums c) == ByteArray.toList (⟨#[0, 0, 0, 0, 0]⟩ : ByteArray) then
 bif decide (List.length f = List.length f) then
 bif ByteArray.toList (strOfNums f) == ByteArray.toList (⟨#[6, 5, 172, 2]⟩ : ByteArray) then
 bif (k0 == (13 : Int)) then
 bif (w0 == (15 : Int)) then
 bif (z0 == (16 : Int)) then
 some ((), (a1 == (14 : Int)))
 else
 some ((), false)
 else
 some ((), false)
 else
 some ((), false)
 else
 some ((), false)
 else none
 else
 some ((), false)
 else none
 else
 some ((), false)
 else none
 else
 bif decide (List.length n0 = List.length n0) then
 Option.bind (p19_2 fu ((n0, o0, (false, dflt (.pair (.int .i64) (.pair (.int .i64) .unit)), ()), ()), ())) fun ⟨⟨⟨_, _, ⟨c1, ⟨_, _, _⟩, _⟩, _⟩, _, _⟩, f1⟩ =>
 bif c1 then
 Option.bind (p20 fu ([(12 : Int), (0 : Int)], ())) fun ⟨_, ⟨⟨_, _, _, _, _, _, _, _, _, _, _, _, _, _, _, _, _, _⟩, h1, _⟩⟩ =>
 Option.bind (p21 fu ([(0 : Int), (0 : Int), (0 : Int), (0 : Int), (1 : Int)], ())) fun ⟨_, ⟨_, _, i1, _⟩⟩ =>
 bif a then
 bif decide (List.length c = List.length c) then
 bif ByteArray.toList (strOfNums c) == ByteArray.toList (⟨#[0, 0, 0, 0, 0]⟩ : ByteArray) then
 bif decide (List.length f = List.length f) then
 bif ByteArray.toList (strOfNums f) == ByteArray.toList (⟨#[6, 5, 172, 2]⟩ : ByteArray) then
 bif (k0 == (13 : Int)) then
 bif (f1 == (15 : Int)) then
 bif (h1 == (16 : Int)) then
 some ((), (i1 == (14 : Int)))
 else
 some ((), false)
 else
 some ((), false)
 else
 some ((), false)
 else
 some ((), false)
 else none
 else
 some ((), false)
 else none
 else
 some ((), false)
 else
 Option.bind (p20 fu ([(12 : Int), (0 : Int)], ())) fun ⟨_, ⟨⟨_, _, _, _, _, _, _, _, _, _, _, _, _, _, _, _, _, _⟩, j1, _⟩⟩ =>
 Option.bind (p21 fu ([(0 : Int), (0 : Int), (0 : Int), (0 : Int), (1 : Int)], ())) fun ⟨_, ⟨_, _, k1, _⟩⟩ =>
 bif a then
 bif decide (List.length c = List.length c) then
 bif ByteArray.toList (strOfNums c) == ByteArray.toList (⟨#[0, 0, 0, 0, 0]⟩ : ByteArray) then
 bif decide (List.length f = List.length f) then
 bif ByteArray.toList (strOfNums f) == ByteArray.toList (⟨#[6, 5, 172, 2]⟩ : ByteArray) then
 bif (k0 == (13 : Int)) then
 bif (f1 == (15 : Int)) then
 bif (j1 == (16 : Int)) then
 some ((), (k1 == (14 : Int)))
 else
 some ((), false)
 else
 some ((), false)
 else
 some ((), false)
 else
 some ((), false)
 else none
 else
 some ((), false)
 else none
 else
 some ((), false)
 else none
 else none
 else
 Option.bind (p14 fu ([(0 : Int), (1 : Int)], ())) fun ⟨_, ⟨l1, m1, _, _⟩⟩ =>
 bif decide (List.length l1 = List.length l1) then
 Option.bind (p18 fu ((l1, m1, (), ()), ())) fun ⟨⟨⟨n1, o1, ⟨q1, ⟨s1, t1, _⟩, _⟩, _⟩, _, _⟩, _⟩ =>
 bif q1 then
 bif decide (List.length n1 = List.length n1) then
 Option.bind (p19_2 fu ((n1, o1, (true, (s1, t1, ()), dflt .unit), ()), ())) fun ⟨⟨⟨_, _, ⟨u1, ⟨_, _, _⟩, _⟩, _⟩, _, _⟩, w1⟩ =>
 bif u1 then
 Option.bind (p20 fu ([(12 : Int), (0 : Int)], ())) fun ⟨_, ⟨⟨_, _, _, _, _, _, _, _, _, _, _, _, _, _, _, _, _, _⟩, x1, _⟩⟩ =>
 Option.bind (p21 fu ([(0 : Int), (0 : Int), (0 : Int), (0 : Int), (1 : Int)], ())) fun ⟨_, ⟨_, _, y1, _⟩⟩ =>
 bif a then
 bif decide (List.length c = List.length c) then
 bif ByteArray.toList (strOfNums c) == ByteArray.toList (⟨#[0, 0, 0, 0, 0]⟩ : ByteArray) then
 bif decide (List.length f = List.length f) then
 bif ByteArray.toList (strOfNums f) == ByteArray.toList (⟨#[6, 5, 172, 2]⟩ : ByteArray) then
 bif (k0 == (13 : Int)) then
 bif (w1 == (15 : Int)) then
 bif (x1 == (16 : Int)) then
 some ((), (y1 == (14 : Int)))
 else
 some ((), false)
 else
 some ((), false)
 else
 some ((), false)
 else
 some ((), false)
 else none
 else
 some ((), false)
 else none
 else
 some ((), false)
 else
 Option.bind (p20 fu ([(12 : Int), (0 : Int)], ())) fun ⟨_, ⟨⟨_, _, _, _, _, _, _, _, _, _, _, _, _, _, _, _, _, _⟩, z1, _⟩⟩ =>
 Option.bind (p21 fu ([(0 : Int), (0 : Int), (0 : Int), (0 : Int), (1 : Int)], ())) fun ⟨_, ⟨_, _, a2, _⟩⟩ =>
 bif a then
 bif decide (List.length c = List.length c) then
 bif ByteArray.toList (strOfNums c) == ByteArray.toList (⟨#[0, 0, 0, 0, 0]⟩ : ByteArray) then
 bif decide (List.length f = List.length f) then
 bif ByteArray.toList (strOfNums f) == ByteArray.toList (⟨#[6, 5, 172, 2]⟩ : ByteArray) then
 bif (k0 == (13 : Int)) then
 bif (w1 == (15 : Int)) then
 bif (z1 == (16 : Int)) then
 some ((), (a2 == (14 : Int)))
 else
 some ((), false)
 else
 some ((), false)
 else
 some ((), false)
 else
 some ((), false)
 else none
 else
 some ((), false)
 else none
 else
 some ((), false)
 else none
 else
 bif decide (List.length n1 = List.length n1) then
 Option.bind (p19_2 fu ((n1, o1, (false, dflt (.pair (.int .i64) (.pair (.int .i64) .unit)), ()), ()), ())) fun ⟨⟨⟨_, _, ⟨c2, ⟨_, _, _⟩, _⟩, _⟩, _, _⟩, f2⟩ =>
 bif c2 then
 Option.bind (p20 fu ([(12 : Int), (0 : Int)], ())) fun ⟨_, ⟨⟨_, _, _, _, _, _, _, _, _, _, _, _, _, _, _, _, _, _⟩, h2, _⟩⟩ =>
 Option.bind (p21 fu ([(0 : Int), (0 : Int), (0 : Int), (0 : Int), (1 : Int)], ())) fun ⟨_, ⟨_, _, i2, _⟩⟩ =>
 bif a then
 bif decide (List.length c = List.length c) then
 bif ByteArray.toList (strOfNums c) == ByteArray.toList (⟨#[0, 0, 0, 0, 0]⟩ : ByteArray) then
 bif decide (List.length f = List.length f) then
 bif ByteArray.toList (strOfNums f) == ByteArray.toList (⟨#[6, 5, 172, 2]⟩ : ByteArray) then
 bif (k0 == (13 : Int)) then
 bif (f2 == (15 : Int)) then
 bif (h2 == (16 : Int)) then
 some ((), (i2 == (14 : Int)))
 else
 some ((), false)
 else
 some ((), false)
 else
 some ((), false)
 else
 some ((), false)
 else none
 else
 some ((), false)
 else none
 else
 some ((), false)
 else
 Option.bind (p20 fu ([(12 : Int), (0 : Int)], ())) fun ⟨_, ⟨⟨_, _, _, _, _, _, _, _, _, _, _, _, _, _, _, _, _, _⟩, j2, _⟩⟩ =>
 Option.bind (p21 fu ([(0 : Int), (0 : Int), (0 : Int), (0 : Int), (1 : Int)], ())) fun ⟨_, ⟨_, _, k2, _⟩⟩ =>
 bif a then
 bif decide (List.length c = List.length c) then
 bif ByteArray.toList (strOfNums c) == ByteArray.toList (⟨#[0, 0, 0, 0, 0]⟩ : ByteArray) then
 bif decide (List.length f = List.length f) then
 bif ByteArray.toList (strOfNums f) == ByteArray.toList (⟨#[6, 5, 172, 2]⟩ : ByteArray) then
 bif (k0 == (13 : Int)) then
 bif (f2 == (15 : Int)) then
 bif (j2 == (16 : Int)) then
 some ((), (k2 == (14 : Int)))
 else
 some ((), false)
 else
 some ((), false)
 else
 some ((), false)
 else
 some ((), false)
 else none
 else
 some ((), false)
 else none
 else
 some ((), false)
 else none
 else none
 else none
 else
 bif decide (List.length a0 = List.length a0) then
 Option.bind (p16_2 fu ((a0, c0, (false, dflt (.pair (.int .i64) (.pair (.int .i64) .unit)), ()), ()), ())) fun ⟨⟨⟨_, _, ⟨l2, ⟨_, _, _⟩, _⟩, _⟩, _, _⟩, ⟨m2, _, _⟩⟩ =>
 bif l2 then
 Option.bind (p14 fu ([(0 : Int), (1 : Int)], ())) fun ⟨_, ⟨n2, o2, _, _⟩⟩ =>
 bif decide (List.length n2 = List.length n2) then
 Option.bind (p18 fu ((n2, o2, (), ()), ())) fun ⟨⟨⟨q2, s2, ⟨t2, ⟨u2, w2, _⟩, _⟩, _⟩, _, _⟩, _⟩ =>
 bif t2 then
 bif decide (List.length q2 = List.length q2) then
 Option.bind (p19_2 fu ((q2, s2, (true, (u2, w2, ()), dflt .unit), ()), ())) fun ⟨⟨⟨_, _, ⟨x2, ⟨_, _, _⟩, _⟩, _⟩, _, _⟩, y2⟩ =>
 bif x2 then
 Option.bind (p20 fu ([(12 : Int), (0 : Int)], ())) fun ⟨_, ⟨⟨_, _, _, _, _, _, _, _, _, _, _, _, _, _, _, _, _, _⟩, z2, _⟩⟩ =>
 Option.bind (p21 fu ([(0 : Int), (0 : Int), (0 : Int), (0 : Int), (1 : Int)], ())) fun ⟨_, ⟨_, _, a3, _⟩⟩ =>
 bif a then
 bif decide (List.length c = List.length c) then
 bif ByteArray.toList (strOfNums c) == ByteArray.toList (⟨#[0, 0, 0, 0, 0]⟩ : ByteArray) then
 bif decide (List.length f = List.length f) then
 bif ByteArray.toList (strOfNums f) == ByteArray.toList (⟨#[6, 5, 172, 2]⟩ : ByteArray) then
 bif (m2 == (13 : Int)) then
 bif (y2 == (15 : Int)) then
 bif (z2 == (16 : Int)) then
 some ((), (a3 == (14 : Int)))
 else
 some ((), false)
 else
 some ((), false)
 else
 some ((), false)
 else
 some ((), false)
 else none
 else
 some ((), false)
 else none
 else
 some ((), false)
 else
 Option.bind (p20 fu ([(12 : Int), (0 : Int)], ())) fun ⟨_, ⟨⟨_, _, _, _, _, _, _, _, _, _, _, _, _, _, _, _, _, _⟩, c3, _⟩⟩ =>
 Option.bind (p21 fu ([(0 : Int), (0 : Int), (0 : Int), (0 : Int), (1 : Int)], ())) fun ⟨_, ⟨_, _, f3, _⟩⟩ =>
 bif a then
 bif decide (List.length c = List.length c) then
 bif ByteArray.toList (strOfNums c) == ByteArray.toList (⟨#[0, 0, 0, 0, 0]⟩ : ByteArray) then
 bif decide (List.length f = List.length f) then
 bif ByteArray.toList (strOfNums f) == ByteArray.toList (⟨#[6, 5, 172, 2]⟩ : ByteArray) then
 bif (m2 == (13 : Int)) then
 bif (y2 == (15 : Int)) then
 bif (c3 == (16 : Int)) then
 some ((), (f3 == (14 : Int)))
 else
 some ((), false)
 else
 some ((), false)
 else
 some ((), false)
 else
 some ((), false)
 else none
 else
 some ((), false)
 else none
 else
 some ((), false)
 else none
 else
 bif decide (List.length q2 = List.length q2) then
 Option.bind (p19_2 fu ((q2, s2, (false, dflt (.pair (.int .i64) (.pair (.int .i64) .unit)), ()), ()), ())) fun ⟨⟨⟨_, _, ⟨h3, ⟨_, _, _⟩, _⟩, _⟩, _, _⟩, i3⟩ =>
 bif h3 then
 Option.bind (p20 fu ([(12 : Int), (0 : Int)], ())) fun ⟨_, ⟨⟨_, _, _, _, _, _, _, _, _, _, _, _, _, _, _, _, _, _⟩, j3, _⟩⟩ =>
 Option.bind (p21 fu ([(0 : Int), (0 : Int), (0 : Int), (0 : Int), (1 : Int)], ())) fun ⟨_, ⟨_, _, k3, _⟩⟩ =>
 bif a then
 bif decide (List.length c = List.length c) then
 bif ByteArray.toList (strOfNums c) == ByteArray.toList (⟨#[0, 0, 0, 0, 0]⟩ : ByteArray) then
 bif decide (List.length f = List.length f) then
 bif ByteArray.toList (strOfNums f) == ByteArray.toList (⟨#[6, 5, 172, 2]⟩ : ByteArray) then
 bif (m2 == (13 : Int)) then
 bif (i3 == (15 : Int)) then
 bif (j3 == (16 : Int)) then
 some ((), (k3 == (14 : Int)))
 else
 some ((), false)
 else
 some ((), false)
 else
 some ((), false)
 else
 some ((), false)
 else none
 else
 some ((), false)
 else none
 else
 some ((), false)
 else
 Option.bind (p20 fu ([(12 : Int), (0 : Int)], ())) fun ⟨_, ⟨⟨_, _, _, _, _, _, _, _, _, _, _, _, _, _, _, _, _, _⟩, l3, _⟩⟩ =>
 Option.bind (p21 fu ([(0 : Int), (0 : Int), (0 : Int), (0 : Int), (1 : Int)], ())) fun ⟨_, ⟨_, _, m3, _⟩⟩ =>
 bif a then
 bif decide (List.length c = List.length c) then
 bif ByteArray.toList (strOfNums c) == ByteArray.toList (⟨#[0, 0, 0, 0, 0]⟩ : ByteArray) then
 bif decide (List.length f = List.length f) then
 bif ByteArray.toList (strOfNums f) == ByteArray.toList (⟨#[6, 5, 172, 2]⟩ : ByteArray) then
 bif (m2 == (13 : Int)) then
 bif (i3 == (15 : Int)) then
 bif (l3 == (16 : Int)) then
 some ((), (m3 == (14 : Int)))
 else
 some ((), false)
 else
 some ((), false)
 else
 some ((), false)
 else
 some ((), false)
 else none
 else
 some ((), false)
 else none
 else
 some ((), false)
 else none
 else none
 else
 Option.bind (p14 fu ([(0 : Int), (1 : Int)], ())) fun ⟨_, ⟨n3, o3, _, _⟩⟩ =>
 bif decide (List.length n3 = List.length n3) then
 Option.bind (p18 fu ((n3, o3, (), ()), ())) fun ⟨⟨⟨q3, s3, ⟨t3, ⟨u3, w3, _⟩, _⟩, _⟩, _, _⟩, _⟩ =>
 bif t3 then
 bif decide (List.length q3 = List.length q3) then
 Option.bind (p19_2 fu ((q3, s3, (true, (u3, w3, ()), dflt .unit), ()), ())) fun ⟨⟨⟨_, _, ⟨x3, ⟨_, _, _⟩, _⟩, _⟩, _, _⟩, y3⟩ =>
 bif x3 then
 Option.bind (p20 fu ([(12 : Int), (0 : Int)], ())) fun ⟨_, ⟨⟨_, _, _, _, _, _, _, _, _, _, _, _, _, _, _, _, _, _⟩, z3, _⟩⟩ =>
 Option.bind (p21 fu ([(0 : Int), (0 : Int), (0 : Int), (0 : Int), (1 : Int)], ())) fun ⟨_, ⟨_, _, a4, _⟩⟩ =>
 bif a then
 bif decide (List.length c = List.length c) then
 bif ByteArray.toList (strOfNums c) == ByteArray.toList (⟨#[0, 0, 0, 0, 0]⟩ : ByteArray) then
 bif decide (List.length f = List.length f) then
 bif ByteArray.toList (strOfNums f) == ByteArray.toList (⟨#[6, 5, 172, 2]⟩ : ByteArray) then
 bif (m2 == (13 : Int)) then
 bif (y3 == (15 : Int)) then
 bif (z3 == (16 : Int)) then
 some ((), (a4 == (14 : Int)))
 else
 some ((), false)
 else
 some ((), false)
 else
 some ((), false)
 else
 some ((), false)
 else none
 else
 some ((), false)
 else none
 else
 some ((), false)
 else
 Option.bind (p20 fu ([(12 : Int), (0 : Int)], ())) fun ⟨_, ⟨⟨_, _, _, _, _, _, _, _, _, _, _, _, _, _, _, _, _, _⟩, c4, _⟩⟩ =>
 Option.bind (p21 fu ([(0 : Int), (0 : Int), (0 : Int), (0 : Int), (1 : Int)], ())) fun ⟨_, ⟨_, _, f4, _⟩⟩ =>
 bif a then
 bif decide (List.length c = List.length c) then
 bif ByteArray.toList (strOfNums c) == ByteArray.toList (⟨#[0, 0, 0, 0, 0]⟩ : ByteArray) then
 bif decide (List.length f = List.length f) then
 bif ByteArray.toList (strOfNums f) == ByteArray.toList (⟨#[6, 5, 172, 2]⟩ : ByteArray) then
 bif (m2 == (13 : Int)) then
 bif (y3 == (15 : Int)) then
 bif (c4 == (16 : Int)) then
 some ((), (f4 == (14 : Int)))
 else
 some ((), false)
 else
 some ((), false)
 else
 some ((), false)
 else
 some ((), false)
 else none
 else
 some ((), false)
 else none
 else
 some ((), false)
 else none
 else
 bif decide (List.length q3 = List.length q3) then
 Option.bind (p19_2 fu ((q3, s3, (false, dflt (.pair (.int .i64) (.pair (.int .i64) .unit)), ()), ()), ())) fun ⟨⟨⟨_, _, ⟨h4, ⟨_, _, _⟩, _⟩, _⟩, _, _⟩, i4⟩ =>
 bif h4 then
 Option.bind (p20 fu ([(12 : Int), (0 : Int)], ())) fun ⟨_, ⟨⟨_, _, _, _, _, _, _, _, _, _, _, _, _, _, _, _, _, _⟩, j4, _⟩⟩ =>
 Option.bind (p21 fu ([(0 : Int), (0 : Int), (0 : Int), (0 : Int), (1 : Int)], ())) fun ⟨_, ⟨_, _, k4, _⟩⟩ =>
 bif a then
 bif decide (List.length c = List.length c) then
 bif ByteArray.toList (strOfNums c) == ByteArray.toList (⟨#[0, 0, 0, 0, 0]⟩ : ByteArray) then
 bif decide (List.length f = List.length f) then
 bif ByteArray.toList (strOfNums f) == ByteArray.toList (⟨#[6, 5, 172, 2]⟩ : ByteArray) then
 bif (m2 == (13 : Int)) then
 bif (i4 == (15 : Int)) then
 bif (j4 == (16 : Int)) then
 some ((), (k4 == (14 : Int)))
 else
 some ((), false)
 else
 some ((), false)
 else
 some ((), false)
 else
 some ((), false)
 else none
 else
 some ((), false)
 else none
 else
 some ((), false)
 else
 Option.bind (p20 fu ([(12 : Int), (0 : Int)], ())) fun ⟨_, ⟨⟨_, _, _, _, _, _, _, _, _, _, _, _, _, _, _, _, _, _⟩, l4, _⟩⟩ =>
 Option.bind (p21 fu ([(0 : Int), (0 : Int), (0 : Int), (0 : Int), (1 : Int)], ())) fun ⟨_, ⟨_, _, m4, _⟩⟩ =>
 bif a then
 bif decide (List.length c = List.length c) then
 bif ByteArray.toList (strOfNums c) == ByteArray.toList (⟨#[0, 0, 0, 0, 0]⟩ : ByteArray) then
 bif decide (List.length f = List.length f) then
 bif ByteArray.toList (strOfNums f) == ByteArray.toList (⟨#[6, 5, 172, 2]⟩ : ByteArray) then
 bif (m2 == (13 : Int)) then
 bif (i4 == (15 : Int)) then
 bif (l4 == (16 : Int)) then
 some ((), (m4 == (14 : Int)))
 else
 some ((), false)
 else
 some ((), false)
 else
 some ((), false)
 else
 some ((), false)
 else none
 else
 some ((), false)
 else none
 else
 some ((), false)
 else none
 else none
 else none
 else none))
 (((0 : Int), ()), ())
def e3 (fu : Nat) : Ent := ⟨3, .nil, .nil, (.hole .bool), p3 fu⟩
def d3 (fu : Nat) : DC := (.seq (.region [opD 0 (.mov (.const vB))] [[]] false) (.seq (.region [oqD 20 (.call 11 []) (.ent (e11 fu)), mvD 1 20] [[], [0, 0, 0]] false) (.seq (.region [oqD 21 (.call 12 [(.const vS)]) (.ent (e12 fu)), mvD 2 21] [[], [0, 0, 0]] false) (.seq (.region [opD 22 (.build 17 [vI, vU, vU, vU, vI, vS, vS, vS, vU, vI, vU, vU, vU, vU, vS, vS, vS] [(0, (1, (cD 3))), (1, (1, (.const (.int .u64 5)))), (11, (1, (.const (.int .u64 300))))]), oqD 23 (.call 13 [(tD 22)]) (.ent (e13 fu)), mvD 3 23] [[], [0], [1, 1, 0, 1]] false) (.seq (.region [oqD 24 (.bslice 9 1 3 [vT] [(0, (.const (.string ⟨#[128, 0]⟩))), (1, (.const (.string ⟨#[128]⟩))), (2, (.const (.string ⟨#[255, 255, 255, 255, 255, 255, 255, 255, 255, 255]⟩)))]) (.ty .str), mvD 4 24] [[], [0, 0]] false) (.seq (.region [oqD 25 (.bslice 41 1 3 [vI] [(0, (cD 12)), (1, (cD 11)), (2, (cD 12))]) (.ty (.int .i64)), mvD 5 25] [[], [0, 0]] false) (.seq (.seq (.region [opD 6 (.mov (cD 0))] [[]] false) (.block 0 (.loop ⟨[6], (.cons (.hole (.int .i64)) .nil), [], .nil, [1, 2, 3, 4, 5], [48, 96, 128, 160]⟩
 (.seq (.seq (.region [mvD 26 6, mvD 27 4, opD 28 (.len false (tD 27)), opD 29 (.bin .lss (tD 26) (tD 28))] [[], [], [1], [0, 2]] false) (.cond (.tmp 29) .skip (.exit 0))) (.seq (.block 1 (.seq (.region [mvD 32 4, mvD 33 6, opD 34 (.iaddr 1 (tD 32) (tD 33)), opD 35 (.load false 1 (tD 34)), opD 36 (.s2b 5 (tD 35)), oqD 37 (.call 14 [(tD 36)]) (.ent (e14 fu)), mvD 7 37] [[], [], [0, 1], [2], [3], [4], [5, 5, 0, 1, 2, 3, 4, 5]] false) (.seq (.seq (.region [mvD 38 7, opD 39 (.pure (.nilq 0 false) [(tD 38)])] [[], [0]] false) (.cond (.tmp 39) (.seq (.region [opD 0 (.mov (.const vB))] [[]] false) .ret) .skip)) (.seq (.region [mvD 40 7, oqD 41 (.call 15 [(tD 40)]) (.ent (e15 fu))] [[], [0]] false) (.seq (.region [mvD 43 7, oqD 44 (.call 16 [(tD 43)]) (.ent (e16_2 fu)), mvD 42 44, opD 45 (.ext (tD 42) 0), opD 46 (.ext (tD 42) 1), mvD 8 45, mvD 9 46] [[], [0], [1], [2], [2], [3, 1, 0, 1, 2, 3], [4, 5, 0, 1, 2, 3, 4, 5]] false) (.seq (.region [mvD 47 8, mvD 48 5, mvD 49 6, opD 50 (.iaddr 1 (tD 48) (tD 49)), opD 51 (.load false 1 (tD 50)), opD 52 (.bin .neq (tD 47) (tD 51)), mvD 53 52, ogD 54 53 false (.mov (tD 9)), ogD 55 53 false (.bin .neq (tD 54) (cD 0)), opD 56 (.pick (tD 53) (.const (.bool true)) (tD 55))] [[], [], [], [1, 2], [3], [0, 4], [5], [6], [7, 6], [6, 8]] false) (.cond (.tmp 56) (.seq (.region [opD 0 (.mov (.const vB))] [[]] false) .ret) .skip))))))) (.region [mvD 30 6, opD 31 (.bin .add (tD 30) (cD 1)), mvD 6 31] [[], [0], [1, 0, 1]] false)))))) (.seq (.region [oqD 57 (.bslice 5 1 5 [(.int .u8 0)] [(0, (.const (.int .u8 4))), (1, (.const (.int .u8 0))), (2, (.const (.int .u8 0))), (3, (.const (.int .u8 0))), (4, (.const (.int .u8 0)))]) (.ty (.int .u8)), oqD 58 (.call 14 [(tD 57)]) (.ent (e14 fu)), mvD 10 58] [[], [0], [1, 1, 0, 1]] false) (.seq (.seq (.region [mvD 59 10, opD 60 (.pure (.nilq 0 false) [(tD 59)])] [[], [0]] false) (.cond (.tmp 60) (.seq (.region [opD 0 (.mov (.const vB))] [[]] false) .ret) .skip)) (.seq (.region [mvD 61 10, oqD 62 (.call 17 [(tD 61), (cD 3)]) (.ent (e17 fu))] [[], [0]] false) (.seq (.region [mvD 64 10, oqD 65 (.call 16 [(tD 64)]) (.ent (e16_2 fu)), mvD 63 65, opD 66 (.ext (tD 63) 0), opD 67 (.ext (tD 63) 1), mvD 11 66, mvD 12 67] [[], [0], [1], [2], [2], [3, 1, 0, 1, 2, 3], [4, 5, 0, 1, 2, 3, 4, 5]] false) (.seq (.region [oqD 68 (.bslice 5 1 2 [(.int .u8 0)] [(0, (.const (.int .u8 0))), (1, (.const (.int .u8 1)))]) (.ty (.int .u8)), oqD 69 (.call 14 [(tD 68)]) (.ent (e14 fu)), mvD 13 69] [[], [0], [1, 1, 0, 1]] false) (.seq (.seq (.region [mvD 70 13, opD 71 (.pure (.nilq 0 false) [(tD 70)])] [[], [0]] false) (.cond (.tmp 71) (.seq (.region [opD 0 (.mov (.const vB))] [[]] false) .ret) .skip)) (.seq (.region [mvD 72 13, oqD 73 (.call 18 [(tD 72)]) (.ent (e18 fu))] [[], [0]] false) (.seq (.region [mvD 74 13, oqD 75 (.call 19 [(tD 74)]) (.ent (e19_2 fu)), mvD 14 75] [[], [0], [1, 1, 0, 1]] false) (.seq (.region [oqD 77 (.bslice 5 1 2 [(.int .u8 0)] [(0, (.const (.int .u8 12))), (1, (.const (.int .u8 0)))]) (.ty (.int .u8)), oqD 78 (.call 20 [(tD 77)]) (.ent (e20 fu)), mvD 76 78, opD 79 (.ext (tD 76) 0), opD 80 (.ext (tD 76) 1), opD 15 (.alloc 39 17 [vI, vU, vU, vU, vI, vS, vS, vS, vU, vI, vU, vU, vU, vU, vS, vS, vS]), onD (.store 17 (tD 15) (tD 79)), mvD 16 80] [[], [0], [1], [2], [2], [], [5, 3, 1, 0, 1, 2, 3, 5], [4, 6, 0, 1, 2, 3, 4, 5, 6]] false) (.seq (.region [oqD 82 (.bslice 5 1 5 [(.int .u8 0)] [(0, (.const (.int .u8 0))), (1, (.const (.int .u8 0))), (2, (.const (.int .u8 0))), (3, (.const (.int .u8 0))), (4, (.const (.int .u8 1)))]) (.ty (.int .u8)), oqD 83 (.call 21 [(tD 82)]) (.ent (e21 fu)), mvD 81 83, opD 84 (.ext (tD 81) 0), opD 85 (.ext (tD 81) 1), opD 86 (.ext (tD 81) 2), mvD 17 84, mvD 18 85, mvD 19 86] [[], [0], [1], [2], [2], [2], [3, 1, 0, 1, 2, 3], [4, 6, 0, 1, 2, 3, 4, 6], [5, 7, 0, 1, 2, 3, 4, 5, 6, 7]] false) (.seq (.region [mvD 87 1, mvD 88 87, ogD 89 88 true (.mov (tD 2)), ogD 90 88 true (.b2s (tD 89)), ogD 91 88 true (.bin .eql (tD 90) (.const (.string ⟨#[0, 0, 0, 0, 0]⟩))), opD 92 (.pick (tD 88) (tD 91) (.const vB)), mvD 93 92, ogD 94 93 true (.mov (tD 3)), ogD 95 93 true (.b2s (tD 94)), ogD 96 93 true (.bin .eql (tD 95) (.const (.string ⟨#[6, 5, 172, 2]⟩))), opD 97 (.pick (tD 93) (tD 96) (.const vB)), mvD 98 97, ogD 99 98 true (.mov (tD 11)), ogD 100 98 true (.bin .eql (tD 99) (cD 13)), opD 101 (.pick (tD 98) (tD 100) (.const vB)), mvD 102 101, ogD 103 102 true (.mov (tD 14)), ogD 104 102 true (.bin .eql (tD 103) (cD 15)), opD 105 (.pick (tD 102) (tD 104) (.const vB)), mvD 106 105, ogD 107 106 true (.mov (tD 16)), ogD 108 106 true (.bin .eql (tD 107) (cD 16)), opD 109 (.pick (tD 106) (tD 108) (.const vB)), mvD 110 109, ogD 111 110 true (.mov (tD 19)), ogD 112 110 true (.bin .eql (tD 111) (cD 14)), opD 113 (.pick (tD 110) (tD 112) (.const vB)), mvD 0 113] [[], [0], [1], [2, 1], [3, 1], [1, 4], [5, 1], [6], [7, 6], [8, 6], [6, 9], [10, 6], [11], [12, 11], [11, 13], [14, 11], [15], [16, 15], [15, 17], [18, 15], [19], [20, 19], [19, 21], [22, 19], [23], [24, 23], [23, 25], [26, 23, 0, 1, 2, 3, 4, 5, 6, 7, 8, 9, 10, 11, 12, 13, 14, 15, 16, 17, 18, 19, 20, 21, 22, 23, 24, 25, 26]] false) .ret))))))))))))))))))
set_option maxRecDepth 1000000 in
theorem v3 (fu : Nat) : evF fu (d3 fu) rs3 114 (e3 fu).ash (e3 fu).osh (e3 fu).vsh = p3 fu := by kernel_rfl
set_option maxRecDepth 1000000 in
theorem b3 (fu : Nat) : BodyD Tryd.prog 3 114 (d3 fu).erase rs3 := bodyD_mk Tryd.func3 (by kernel_rfl) (by kernel_rfl) (by kernel_rfl) (by kernel_rfl)
theorem g3 (fu : Nat) : (e3 fu).Good Tryd.prog := good_by orders (b3 fu) (l := [e11 fu, e12 fu, e13 fu, e14 fu, e15 fu, e16_2 fu, e14 fu, e17 fu, e16_2 fu, e14 fu, e18 fu, e19_2 fu, e20 fu, e21 fu]) (by kernel_rfl) ⟨g11 fu, g12 fu, g13 fu, g14 fu, g15 fu, g16_2 fu, g14 fu, g17 fu, g16_2 fu, g14 fu, g18 fu, g19_2 fu, g20 fu, g21 fu, trivial⟩ (by kernel_rfl) (v3 fu)
end Go.Proofs.YtfhdpeceppafiaaDoor
