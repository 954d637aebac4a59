/-
  The functions, typed, continued.
-/
import Derived.Test.YtfhdpeceppafiaaDoorPtRA
namespace Go.Proofs.YtfhdpeceppafiaaDoor
open Go.RowKit
def rs47 : List RVx := [(.cell 2 true 6)]
/-- (*gazette/codec.Reader).Entry -/
def p47_2 (fu : Nat) : ((List (Int)) × ((Int) × (((Bool) × (((Int) × ((Int) × (Unit))) × (Unit))) × (Unit)))) × (Unit) → Option ((((List (Int)) × ((Int) × (((Bool) × (((Int) × ((Int) × (Unit))) × (Unit))) × (Unit)))) × ((Unit) × (Unit))) × ((Int) × ((Int) × ((Int) × ((List (Int)) × ((List (Int)) × ((List (Int)) × (Unit)))))))) := fun ⟨⟨a, c, ⟨f, ⟨h, i, _⟩, _⟩, _⟩, _⟩ =>
bif f then
 bif eqL a then
 Option.bind (p15_2 fu ((a, c, (true, (h, i, ()), dflt .unit), ()), ())) fun ⟨⟨⟨j, k, ⟨l, ⟨m, n, _⟩, _⟩, _⟩, _, _⟩, o⟩ =>
 bif l then
 bif eqL j then
 Option.bind (p15_2 fu ((j, k, (true, (m, n, ()), dflt .unit), ()), ())) fun ⟨⟨⟨q, s, ⟨t, ⟨u, w, _⟩, _⟩, _⟩, _, _⟩, x⟩ =>
 bif t then
 bif eqL q then
 Option.bind (p89_2 fu ((q, s, (true, (u, w, ()), dflt .unit), ()), ())) fun ⟨⟨⟨y, z, ⟨a0, ⟨c0, f0, _⟩, _⟩, _⟩, _, _⟩, h0⟩ =>
 bif a0 then
 bif eqL y then
 Option.bind (p67_2 fu ((y, z, (true, (c0, f0, ()), dflt .unit), ()), (262144 : Int), ())) fun ⟨⟨⟨i0, j0, ⟨k0, ⟨l0, m0, _⟩, _⟩, _⟩, _, _⟩, n0⟩ =>
 bif k0 then
 bif eqL i0 then
 Option.bind (p71_2 fu ((i0, j0, (true, (l0, m0, ()), dflt .unit), ()), ())) fun ⟨⟨⟨o0, q0, ⟨s0, ⟨t0, u0, _⟩, _⟩, _⟩, _, _⟩, ⟨w0, x0, _⟩⟩ =>
 bif s0 then
 bif eqL o0 then
 bif eqL n0 then
 Option.bind (p88_4 fu ((o0, q0, (true, (t0, u0, ()), dflt .unit), ()), (o, x, h0, n0, w0, x0, ()), ())) fun ⟨⟨⟨y0, z0, ⟨a1, ⟨c1, f1, _⟩, _⟩, _⟩, _, _⟩, ⟨h1, i1, j1, k1, l1, m1, _⟩⟩ =>
 bif a1 then
 bif eqL y0 then
 some (((y0, z0, (true, (c1, f1, ()), dflt .unit), ()), (), ()), (h1, i1, j1, k1, l1, m1, ()))
 else none
 else
 bif eqL y0 then
 some (((y0, z0, zR0, ()), (), ()), (h1, i1, j1, k1, l1, m1, ()))
 else none
 else none
 else none
 else
 bif eqL o0 then
 bif eqL n0 then
 Option.bind (p88_4 fu ((o0, q0, zR0, ()), (o, x, h0, n0, w0, x0, ()), ())) fun ⟨⟨⟨n1, o1, ⟨q1, ⟨s1, t1, _⟩, _⟩, _⟩, _, _⟩, ⟨u1, w1, x1, y1, z1, a2, _⟩⟩ =>
 bif q1 then
 bif eqL n1 then
 some (((n1, o1, (true, (s1, t1, ()), dflt .unit), ()), (), ()), (u1, w1, x1, y1, z1, a2, ()))
 else none
 else
 bif eqL n1 then
 some (((n1, o1, zR0, ()), (), ()), (u1, w1, x1, y1, z1, a2, ()))
 else none
 else none
 else none
 else none
 else
 bif eqL i0 then
 Option.bind (p71_2 fu ((i0, j0, zR0, ()), ())) fun ⟨⟨⟨c2, f2, ⟨h2, ⟨i2, j2, _⟩, _⟩, _⟩, _, _⟩, ⟨k2, l2, _⟩⟩ =>
 bif h2 then
 bif eqL c2 then
 bif eqL n0 then
 Option.bind (p88_4 fu ((c2, f2, (true, (i2, j2, ()), dflt .unit), ()), (o, x, h0, n0, k2, l2, ()), ())) fun ⟨⟨⟨m2, n2, ⟨o2, ⟨q2, s2, _⟩, _⟩, _⟩, _, _⟩, ⟨t2, u2, w2, x2, y2, z2, _⟩⟩ =>
 bif o2 then
 bif eqL m2 then
 some (((m2, n2, (true, (q2, s2, ()), dflt .unit), ()), (), ()), (t2, u2, w2, x2, y2, z2, ()))
 else none
 else
 bif eqL m2 then
 some (((m2, n2, zR0, ()), (), ()), (t2, u2, w2, x2, y2, z2, ()))
 else none
 else none
 else none
 else
 bif eqL c2 then
 bif eqL n0 then
 Option.bind (p88_4 fu ((c2, f2, zR0, ()), (o, x, h0, n0, k2, l2, ()), ())) fun ⟨⟨⟨a3, c3, ⟨f3, ⟨h3, i3, _⟩, _⟩, _⟩, _, _⟩, ⟨j3, k3, l3, m3, n3, o3, _⟩⟩ =>
 bif f3 then
 bif eqL a3 then
 some (((a3, c3, (true, (h3, i3, ()), dflt .unit), ()), (), ()), (j3, k3, l3, m3, n3, o3, ()))
 else none
 else
 bif eqL a3 then
 some (((a3, c3, zR0, ()), (), ()), (j3, k3, l3, m3, n3, o3, ()))
 else none
 else none
 else none
 else none
 else none
 else
 bif eqL y then
 Option.bind (p67_2 fu ((y, z, zR0, ()), (262144 : Int), ())) fun ⟨⟨⟨q3, s3, ⟨t3, ⟨u3, w3, _⟩, _⟩, _⟩, _, _⟩, x3⟩ =>
 bif t3 then
 bif eqL q3 then
 Option.bind (p71_2 fu ((q3, s3, (true, (u3, w3, ()), dflt .unit), ()), ())) fun ⟨⟨⟨y3, z3, ⟨a4, ⟨c4, f4, _⟩, _⟩, _⟩, _, _⟩, ⟨h4, i4, _⟩⟩ =>
 bif a4 then
 bif eqL y3 then
 bif eqL x3 then
 Option.bind (p88_4 fu ((y3, z3, (true, (c4, f4, ()), dflt .unit), ()), (o, x, h0, x3, h4, i4, ()), ())) fun ⟨⟨⟨j4, k4, ⟨l4, ⟨m4, n4, _⟩, _⟩, _⟩, _, _⟩, ⟨o4, q4, s4, t4, u4, w4, _⟩⟩ =>
 bif l4 then
 bif eqL j4 then
 some (((j4, k4, (true, (m4, n4, ()), dflt .unit), ()), (), ()), (o4, q4, s4, t4, u4, w4, ()))
 else none
 else
 bif eqL j4 then
 some (((j4, k4, zR0, ()), (), ()), (o4, q4, s4, t4, u4, w4, ()))
 else none
 else none
 else none
 else
 bif eqL y3 then
 bif eqL x3 then
 Option.bind (p88_4 fu ((y3, z3, zR0, ()), (o, x, h0, x3, h4, i4, ()), ())) fun ⟨⟨⟨x4, y4, ⟨z4, ⟨a5, c5, _⟩, _⟩, _⟩, _, _⟩, ⟨f5, h5, i5, j5, k5, l5, _⟩⟩ =>
 bif z4 then
 bif eqL x4 then
 some (((x4, y4, (true, (a5, c5, ()), dflt .unit), ()), (), ()), (f5, h5, i5, j5, k5, l5, ()))
 else none
 else
 bif eqL x4 then
 some (((x4, y4, zR0, ()), (), ()), (f5, h5, i5, j5, k5, l5, ()))
 else none
 else none
 else none
 else none
 else
 bif eqL q3 then
 Option.bind (p71_2 fu ((q3, s3, zR0, ()), ())) fun ⟨⟨⟨m5, n5, ⟨o5, ⟨q5, s5, _⟩, _⟩, _⟩, _, _⟩, ⟨t5, u5, _⟩⟩ =>
 bif o5 then
 bif eqL m5 then
 bif eqL x3 then
 Option.bind (p88_4 fu ((m5, n5, (true, (q5, s5, ()), dflt .unit), ()), (o, x, h0, x3, t5, u5, ()), ())) fun ⟨⟨⟨w5, x5, ⟨y5, ⟨z5, a6, _⟩, _⟩, _⟩, _, _⟩, ⟨c6, f6, h6, i6, j6, k6, _⟩⟩ =>
 bif y5 then
 bif eqL w5 then
 some (((w5, x5, (true, (z5, a6, ()), dflt .unit), ()), (), ()), (c6, f6, h6, i6, j6, k6, ()))
 else none
 else
 bif eqL w5 then
 some (((w5, x5, zR0, ()), (), ()), (c6, f6, h6, i6, j6, k6, ()))
 else none
 else none
 else none
 else
 bif eqL m5 then
 bif eqL x3 then
 Option.bind (p88_4 fu ((m5, n5, zR0, ()), (o, x, h0, x3, t5, u5, ()), ())) fun ⟨⟨⟨l6, m6, ⟨n6, ⟨o6, q6, _⟩, _⟩, _⟩, _, _⟩, ⟨s6, t6, u6, w6, x6, y6, _⟩⟩ =>
 bif n6 then
 bif eqL l6 then
 some (((l6, m6, (true, (o6, q6, ()), dflt .unit), ()), (), ()), (s6, t6, u6, w6, x6, y6, ()))
 else none
 else
 bif eqL l6 then
 some (((l6, m6, zR0, ()), (), ()), (s6, t6, u6, w6, x6, y6, ()))
 else none
 else none
 else none
 else none
 else none
 else none
 else
 bif eqL q then
 Option.bind (p89_2 fu ((q, s, zR0, ()), ())) fun ⟨⟨⟨z6, a7, ⟨c7, ⟨f7, h7, _⟩, _⟩, _⟩, _, _⟩, i7⟩ =>
 bif c7 then
 bif eqL z6 then
 Option.bind (p67_2 fu ((z6, a7, (true, (f7, h7, ()), dflt .unit), ()), (262144 : Int), ())) fun ⟨⟨⟨j7, k7, ⟨l7, ⟨m7, n7, _⟩, _⟩, _⟩, _, _⟩, o7⟩ =>
 bif l7 then
 bif eqL j7 then
 Option.bind (p71_2 fu ((j7, k7, (true, (m7, n7, ()), dflt .unit), ()), ())) fun ⟨⟨⟨q7, s7, ⟨t7, ⟨u7, w7, _⟩, _⟩, _⟩, _, _⟩, ⟨x7, y7, _⟩⟩ =>
 bif t7 then
 bif eqL q7 then
 bif eqL o7 then
 Option.bind (p88_4 fu ((q7, s7, (true, (u7, w7, ()), dflt .unit), ()), (o, x, i7, o7, x7, y7, ()), ())) fun ⟨⟨⟨z7, a8, ⟨c8, ⟨f8, h8, _⟩, _⟩, _⟩, _, _⟩, ⟨i8, j8, k8, l8, m8, n8, _⟩⟩ =>
 bif c8 then
 bif eqL z7 then
 some (((z7, a8, (true, (f8, h8, ()), dflt .unit), ()), (), ()), (i8, j8, k8, l8, m8, n8, ()))
 else none
 else
 bif eqL z7 then
 some (((z7, a8, zR0, ()), (), ()), (i8, j8, k8, l8, m8, n8, ()))
 else none
 else none
 else none
 else
 bif eqL q7 then
 bif eqL o7 then
 Option.bind (p88_4 fu ((q7, s7, zR0, ()), (o, x, i7, o7, x7, y7, ()), ())) fun ⟨⟨⟨o8, q8, ⟨s8, ⟨t8, u8, _⟩, _⟩, _⟩, _, _⟩, ⟨w8, x8, y8, z8, a9, c9, _⟩⟩ =>
 bif s8 then
 bif eqL o8 then
 some (((o8, q8, (true, (t8, u8, ()), dflt .unit), ()), (), ()), (w8, x8, y8, z8, a9, c9, ()))
 else none
 else
 bif eqL o8 then
 some (((o8, q8, zR0, ()), (), ()), (w8, x8, y8, z8, a9, c9, ()))
 else none
 else none
 else none
 else none
 else
 bif eqL j7 then
 Option.bind (p71_2 fu ((j7, k7, zR0, ()), ())) fun ⟨⟨⟨f9, h9, ⟨i9, ⟨j9, k9, _⟩, _⟩, _⟩, _, _⟩, ⟨l9, m9, _⟩⟩ =>
 bif i9 then
 bif eqL f9 then
 bif eqL o7 then
 Option.bind (p88_4 fu ((f9, h9, (true, (j9, k9, ()), dflt .unit), ()), (o, x, i7, o7, l9, m9, ()), ())) fun ⟨⟨⟨n9, o9, ⟨q9, ⟨s9, t9, _⟩, _⟩, _⟩, _, _⟩, ⟨u9, w9, x9, y9, z9, a10, _⟩⟩ =>
 bif q9 then
 bif eqL n9 then
 some (((n9, o9, (true, (s9, t9, ()), dflt .unit), ()), (), ()), (u9, w9, x9, y9, z9, a10, ()))
 else none
 else
 bif eqL n9 then
 some (((n9, o9, zR0, ()), (), ()), (u9, w9, x9, y9, z9, a10, ()))
 else none
 else none
 else none
 else
 bif eqL f9 then
 bif eqL o7 then
 Option.bind (p88_4 fu ((f9, h9, zR0, ()), (o, x, i7, o7, l9, m9, ()), ())) fun ⟨⟨⟨c10, f10, ⟨h10, ⟨i10, j10, _⟩, _⟩, _⟩, _, _⟩, ⟨k10, l10, m10, n10, o10, q10, _⟩⟩ =>
 bif h10 then
 bif eqL c10 then
 some (((c10, f10, (true, (i10, j10, ()), dflt .unit), ()), (), ()), (k10, l10, m10, n10, o10, q10, ()))
 else none
 else
 bif eqL c10 then
 some (((c10, f10, zR0, ()), (), ()), (k10, l10, m10, n10, o10, q10, ()))
 else none
 else none
 else none
 else none
 else none
 else
 bif eqL z6 then
 Option.bind (p67_2 fu ((z6, a7, zR0, ()), (262144 : Int), ())) fun ⟨⟨⟨s10, t10, ⟨u10, ⟨w10, x10, _⟩, _⟩, _⟩, _, _⟩, y10⟩ =>
 bif u10 then
 bif eqL s10 then
 Option.bind (p71_2 fu ((s10, t10, (true, (w10, x10, ()), dflt .unit), ()), ())) fun ⟨⟨⟨z10, a11, ⟨c11, ⟨f11, h11, _⟩, _⟩, _⟩, _, _⟩, ⟨i11, j11, _⟩⟩ =>
 bif c11 then
 bif eqL z10 then
 bif eqL y10 then
 Option.bind (p88_4 fu ((z10, a11, (true, (f11, h11, ()), dflt .unit), ()), (o, x, i7, y10, i11, j11, ()), ())) fun ⟨⟨⟨k11, l11, ⟨m11, ⟨n11, o11, _⟩, _⟩, _⟩, _, _⟩, ⟨q11, s11, t11, u11, w11, x11, _⟩⟩ =>
 bif m11 then
 bif eqL k11 then
 some (((k11, l11, (true, (n11, o11, ()), dflt .unit), ()), (), ()), (q11, s11, t11, u11, w11, x11, ()))
 else none
 else
 bif eqL k11 then
 some (((k11, l11, zR0, ()), (), ()), (q11, s11, t11, u11, w11, x11, ()))
 else none
 else none
 else none
 else
 bif eqL z10 then
 bif eqL y10 then
 Option.bind (p88_4 fu ((z10, a11, zR0, ()), (o, x, i7, y10, i11, j11, ()), ())) fun ⟨⟨⟨y11, z11, ⟨a12, ⟨c12, f12, _⟩, _⟩, _⟩, _, _⟩, ⟨h12, i12, j12, k12, l12, m12, _⟩⟩ =>
 bif a12 then
 bif eqL y11 then
 some (((y11, z11, (true, (c12, f12, ()), dflt .unit), ()), (), ()), (h12, i12, j12, k12, l12, m12, ()))
 else none
 else
 bif eqL y11 then
 some (((y11, z11, zR0, ()), (), ()), (h12, i12, j12, k12, l12, m12, ()))
 else none
 else none
 else none
 else none
 else
 bif eqL s10 then
 Option.bind (p71_2 fu ((s10, t10, zR0, ()), ())) fun ⟨⟨⟨n12, o12, ⟨q12, ⟨s12, t12, _⟩, _⟩, _⟩, _, _⟩, ⟨u12, w12, _⟩⟩ =>
 bif q12 then
 bif eqL n12 then
 bif eqL y10 then
 Option.bind (p88_4 fu ((n12, o12, (true, (s12, t12, ()), dflt .unit), ()), (o, x, i7, y10, u12, w12, ()), ())) fun ⟨⟨⟨x12, y12, ⟨z12, ⟨a13, c13, _⟩, _⟩, _⟩, _, _⟩, ⟨f13, h13, i13, j13, k13, l13, _⟩⟩ =>
 bif z12 then
 bif eqL x12 then
 some (((x12, y12, (true, (a13, c13, ()), dflt .unit), ()), (), ()), (f13, h13, i13, j13, k13, l13, ()))
 else none
 else
 bif eqL x12 then
 some (((x12, y12, zR0, ()), (), ()), (f13, h13, i13, j13, k13, l13, ()))
 else none
 else none
 else none
 else
 bif eqL n12 then
 bif eqL y10 then
 Option.bind (p88_4 fu ((n12, o12, zR0, ()), (o, x, i7, y10, u12, w12, ()), ())) fun ⟨⟨⟨m13, n13, ⟨o13, ⟨q13, s13, _⟩, _⟩, _⟩, _, _⟩, ⟨t13, u13, w13, x13, y13, z13, _⟩⟩ =>
 bif o13 then
 bif eqL m13 then
 some (((m13, n13, (true, (q13, s13, ()), dflt .unit), ()), (), ()), (t13, u13, w13, x13, y13, z13, ()))
 else none
 else
 bif eqL m13 then
 some (((m13, n13, zR0, ()), (), ()), (t13, u13, w13, x13, y13, z13, ()))
 else none
 else none
 else none
 else none
 else none
 else none
 else none
 else
 bif eqL j then
 Option.bind (p15_2 fu ((j, k, zR0, ()), ())) fun ⟨⟨⟨a14, c14, ⟨f14, ⟨h14, i14, _⟩, _⟩, _⟩, _, _⟩, j14⟩ =>
 bif f14 then
 bif eqL a14 then
 Option.bind (p89_2 fu ((a14, c14, (true, (h14, i14, ()), dflt .unit), ()), ())) fun ⟨⟨⟨k14, l14, ⟨m14, ⟨n14, o14, _⟩, _⟩, _⟩, _, _⟩, q14⟩ =>
 bif m14 then
 bif eqL k14 then
 Option.bind (p67_2 fu ((k14, l14, (true, (n14, o14, ()), dflt .unit), ()), (262144 : Int), ())) fun ⟨⟨⟨s14, t14, ⟨u14, ⟨w14, x14, _⟩, _⟩, _⟩, _, _⟩, y14⟩ =>
 bif u14 then
 bif eqL s14 then
 Option.bind (p71_2 fu ((s14, t14, (true, (w14, x14, ()), dflt .unit), ()), ())) fun ⟨⟨⟨z14, a15, ⟨c15, ⟨f15, h15, _⟩, _⟩, _⟩, _, _⟩, ⟨i15, j15, _⟩⟩ =>
 bif c15 then
 bif eqL z14 then
 bif eqL y14 then
 Option.bind (p88_4 fu ((z14, a15, (true, (f15, h15, ()), dflt .unit), ()), (o, j14, q14, y14, i15, j15, ()), ())) fun ⟨⟨⟨k15, l15, ⟨m15, ⟨n15, o15, _⟩, _⟩, _⟩, _, _⟩, ⟨q15, s15, t15, u15, w15, x15, _⟩⟩ =>
 bif m15 then
 bif eqL k15 then
 some (((k15, l15, (true, (n15, o15, ()), dflt .unit), ()), (), ()), (q15, s15, t15, u15, w15, x15, ()))
 else none
 else
 bif eqL k15 then
 some (((k15, l15, zR0, ()), (), ()), (q15, s15, t15, u15, w15, x15, ()))
 else none
 else none
 else none
 else
 bif eqL z14 then
 bif eqL y14 then
 Option.bind (p88_4 fu ((z14, a15, zR0, ()), (o, j14, q14, y14, i15, j15, ()), ())) fun ⟨⟨⟨y15, z15, ⟨a16, ⟨c16, f16, _⟩, _⟩, _⟩, _, _⟩, ⟨h16, i16, j16, k16, l16, m16, _⟩⟩ =>
 bif a16 then
 bif eqL y15 then
 some (((y15, z15, (true, (c16, f16, ()), dflt .unit), ()), (), ()), (h16, i16, j16, k16, l16, m16, ()))
 else none
 else
 bif eqL y15 then
 some (((y15, z15, zR0, ()), (), ()), (h16, i16, j16, k16, l16, m16, ()))
 else none
 else none
 else none
 else none
 else
 bif eqL s14 then
 Option.bind (p71_2 fu ((s14, t14, zR0, ()), ())) fun ⟨⟨⟨n16, o16, ⟨q16, ⟨s16, t16, _⟩, _⟩, _⟩, _, _⟩, ⟨u16, w16, _⟩⟩ =>
 bif q16 then
 bif eqL n16 then
 bif eqL y14 then
 Option.bind (p88_4 fu ((n16, o16, (true, (s16, t16, ()), dflt .unit), ()), (o, j14, q14, y14, u16, w16, ()), ())) fun ⟨⟨⟨x16, y16, ⟨z16, ⟨a17, c17, _⟩, _⟩, _⟩, _, _⟩, ⟨f17, h17, i17, j17, k17, l17, _⟩⟩ =>
 bif z16 then
 bif eqL x16 then
 some (((x16, y16, (true, (a17, c17, ()), dflt .unit), ()), (), ()), (f17, h17, i17, j17, k17, l17, ()))
 else none
 else
 bif eqL x16 then
 some (((x16, y16, zR0, ()), (), ()), (f17, h17, i17, j17, k17, l17, ()))
 else none
 else none
 else none
 else
 bif eqL n16 then
 bif eqL y14 then
 Option.bind (p88_4 fu ((n16, o16, zR0, ()), (o, j14, q14, y14, u16, w16, ()), ())) fun ⟨⟨⟨m17, n17, ⟨o17, ⟨q17, s17, _⟩, _⟩, _⟩, _, _⟩, ⟨t17, u17, w17, x17, y17, z17, _⟩⟩ =>
 bif o17 then
 bif eqL m17 then
 some (((m17, n17, (true, (q17, s17, ()), dflt .unit), ()), (), ()), (t17, u17, w17, x17, y17, z17, ()))
 else none
 else
 bif eqL m17 then
 some (((m17, n17, zR0, ()), (), ()), (t17, u17, w17, x17, y17, z17, ()))
 else none
 else none
 else none
 else none
 else none
 else
 bif eqL k14 then
 Option.bind (p67_2 fu ((k14, l14, zR0, ()), (262144 : Int), ())) fun ⟨⟨⟨a18, c18, ⟨f18, ⟨h18, i18, _⟩, _⟩, _⟩, _, _⟩, j18⟩ =>
 bif f18 then
 bif eqL a18 then
 Option.bind (p71_2 fu ((a18, c18, (true, (h18, i18, ()), dflt .unit), ()), ())) fun ⟨⟨⟨k18, l18, ⟨m18, ⟨n18, o18, _⟩, _⟩, _⟩, _, _⟩, ⟨q18, s18, _⟩⟩ =>
 bif m18 then
 bif eqL k18 then
 bif eqL j18 then
 Option.bind (p88_4 fu ((k18, l18, (true, (n18, o18, ()), dflt .unit), ()), (o, j14, q14, j18, q18, s18, ()), ())) fun ⟨⟨⟨t18, u18, ⟨w18, ⟨x18, y18, _⟩, _⟩, _⟩, _, _⟩, ⟨z18, a19, c19, f19, h19, i19, _⟩⟩ =>
 bif w18 then
 bif eqL t18 then
 some (((t18, u18, (true, (x18, y18, ()), dflt .unit), ()), (), ()), (z18, a19, c19, f19, h19, i19, ()))
 else none
 else
 bif eqL t18 then
 some (((t18, u18, zR0, ()), (), ()), (z18, a19, c19, f19, h19, i19, ()))
 else none
 else none
 else none
 else
 bif eqL k18 then
 bif eqL j18 then
 Option.bind (p88_4 fu ((k18, l18, zR0, ()), (o, j14, q14, j18, q18, s18, ()), ())) fun ⟨⟨⟨j19, k19, ⟨l19, ⟨m19, n19, _⟩, _⟩, _⟩, _, _⟩, ⟨o19, q19, s19, t19, u19, w19, _⟩⟩ =>
 bif l19 then
 bif eqL j19 then
 some (((j19, k19, (true, (m19, n19, ()), dflt .unit), ()), (), ()), (o19, q19, s19, t19, u19, w19, ()))
 else none
 else
 bif eqL j19 then
 some (((j19, k19, zR0, ()), (), ()), (o19, q19, s19, t19, u19, w19, ()))
 else none
 else none
 else none
 else none
 else
 bif eqL a18 then
 Option.bind (p71_2 fu ((a18, c18, zR0, ()), ())) fun ⟨⟨⟨x19, y19, ⟨z19, ⟨a20, c20, _⟩, _⟩, _⟩, _, _⟩, ⟨f20, h20, _⟩⟩ =>
 bif z19 then
 bif eqL x19 then
 bif eqL j18 then
 Option.bind (p88_4 fu ((x19, y19, (true, (a20, c20, ()), dflt .unit), ()), (o, j14, q14, j18, f20, h20, ()), ())) fun ⟨⟨⟨i20, j20, ⟨k20, ⟨l20, m20, _⟩, _⟩, _⟩, _, _⟩, ⟨n20, o20, q20, s20, t20, u20, _⟩⟩ =>
 bif k20 then
 bif eqL i20 then
 some (((i20, j20, (true, (l20, m20, ()), dflt .unit), ()), (), ()), (n20, o20, q20, s20, t20, u20, ()))
 else none
 else
 bif eqL i20 then
 some (((i20, j20, zR0, ()), (), ()), (n20, o20, q20, s20, t20, u20, ()))
 else none
 else none
 else none
 else
 bif eqL x19 then
 bif eqL j18 then
 Option.bind (p88_4 fu ((x19, y19, zR0, ()), (o, j14, q14, j18, f20, h20, ()), ())) fun ⟨⟨⟨w20, x20, ⟨y20, ⟨z20, a21, _⟩, _⟩, _⟩, _, _⟩, ⟨c21, f21, h21, i21, j21, k21, _⟩⟩ =>
 bif y20 then
 bif eqL w20 then
 some (((w20, x20, (true, (z20, a21, ()), dflt .unit), ()), (), ()), (c21, f21, h21, i21, j21, k21, ()))
 else none
 else
 bif eqL w20 then
 some (((w20, x20, zR0, ()), (), ()), (c21, f21, h21, i21, j21, k21, ()))
 else none
 else none
 else none
 else none
 else none
 else none
 else
 bif eqL a14 then
 Option.bind (p89_2 fu ((a14, c14, zR0, ()), ())) fun ⟨⟨⟨l21, m21, ⟨n21, ⟨o21, q21, _⟩, _⟩, _⟩, _, _⟩, s21⟩ =>
 bif n21 then
 bif eqL l21 then
 Option.bind (p67_2 fu ((l21, m21, (true, (o21, q21, ()), dflt .unit), ()), (262144 : Int), ())) fun ⟨⟨⟨t21, u21, ⟨w21, ⟨x21, y21, _⟩, _⟩, _⟩, _, _⟩, z21⟩ =>
 bif w21 then
 bif eqL t21 then
 Option.bind (p71_2 fu ((t21, u21, (true, (x21, y21, ()), dflt .unit), ()), ())) fun ⟨⟨⟨a22, c22, ⟨f22, ⟨h22, i22, _⟩, _⟩, _⟩, _, _⟩, ⟨j22, k22, _⟩⟩ =>
 bif f22 then
 bif eqL a22 then
 bif eqL z21 then
 Option.bind (p88_4 fu ((a22, c22, (true, (h22, i22, ()), dflt .unit), ()), (o, j14, s21, z21, j22, k22, ()), ())) fun ⟨⟨⟨l22, m22, ⟨n22, ⟨o22, q22, _⟩, _⟩, _⟩, _, _⟩, ⟨s22, t22, u22, w22, x22, y22, _⟩⟩ =>
 bif n22 then
 bif eqL l22 then
 some (((l22, m22, (true, (o22, q22, ()), dflt .unit), ()), (), ()), (s22, t22, u22, w22, x22, y22, ()))
 else none
 else
 bif eqL l22 then
 some (((l22, m22, zR0, ()), (), ()), (s22, t22, u22, w22, x22, y22, ()))
 else none
 else none
 else none
 else
 bif eqL a22 then
 bif eqL z21 then
 Option.bind (p88_4 fu ((a22, c22, zR0, ()), (o, j14, s21, z21, j22, k22, ()), ())) fun ⟨⟨⟨z22, a23, ⟨c23, ⟨f23, h23, _⟩, _⟩, _⟩, _, _⟩, ⟨i23, j23, k23, l23, m23, n23, _⟩⟩ =>
 bif c23 then
 bif eqL z22 then
 some (((z22, a23, (true, (f23, h23, ()), dflt .unit), ()), (), ()), (i23, j23, k23, l23, m23, n23, ()))
 else none
 else
 bif eqL z22 then
 some (((z22, a23, zR0, ()), (), ()), (i23, j23, k23, l23, m23, n23, ()))
 else none
 else none
 else none
 else none
 else
 bif eqL t21 then
 Option.bind (p71_2 fu ((t21, u21, zR0, ()), ())) fun ⟨⟨⟨o23, q23, ⟨s23, ⟨t23, u23, _⟩, _⟩, _⟩, _, _⟩, ⟨w23, x23, _⟩⟩ =>
 bif s23 then
 bif eqL o23 then
 bif eqL z21 then
 Option.bind (p88_4 fu ((o23, q23, (true, (t23, u23, ()), dflt .unit), ()), (o, j14, s21, z21, w23, x23, ()), ())) fun ⟨⟨⟨y23, z23, ⟨a24, ⟨c24, f24, _⟩, _⟩, _⟩, _, _⟩, ⟨h24, i24, j24, k24, l24, m24, _⟩⟩ =>
 bif a24 then
 bif eqL y23 then
 some (((y23, z23, (true, (c24, f24, ()), dflt .unit), ()), (), ()), (h24, i24, j24, k24, l24, m24, ()))
 else none
 else
 bif eqL y23 then
 some (((y23, z23, zR0, ()), (), ()), (h24, i24, j24, k24, l24, m24, ()))
 else none
 else none
 else none
 else
 bif eqL o23 then
 bif eqL z21 then
 Option.bind (p88_4 fu ((o23, q23, zR0, ()), (o, j14, s21, z21, w23, x23, ()), ())) fun ⟨⟨⟨n24, o24, ⟨q24, ⟨s24, t24, _⟩, _⟩, _⟩, _, _⟩, ⟨u24, w24, x24, y24, z24, a25, _⟩⟩ =>
 bif q24 then
 bif eqL n24 then
 some (((n24, o24, (true, (s24, t24, ()), dflt .unit), ()), (), ()), (u24, w24, x24, y24, z24, a25, ()))
 else none
 else
 bif eqL n24 then
 some (((n24, o24, zR0, ()), (), ()), (u24, w24, x24, y24, z24, a25, ()))
 else none
 else none
 else none
 else none
 else none
 else
 bif eqL l21 then
 Option.bind (p67_2 fu ((l21, m21, zR0, ()), (262144 : Int), ())) fun ⟨⟨⟨c25, f25, ⟨h25, ⟨i25, j25, _⟩, _⟩, _⟩, _, _⟩, k25⟩ =>
 bif h25 then
 bif eqL c25 then
 Option.bind (p71_2 fu ((c25, f25, (true, (i25, j25, ()), dflt .unit), ()), ())) fun ⟨⟨⟨l25, m25, ⟨n25, ⟨o25, q25, _⟩, _⟩, _⟩, _, _⟩, ⟨s25, t25, _⟩⟩ =>
 bif n25 then
 bif eqL l25 then
 bif eqL k25 then
 Option.bind (p88_4 fu ((l25, m25, (true, (o25, q25, ()), dflt .unit), ()), (o, j14, s21, k25, s25, t25, ()), ())) fun ⟨⟨⟨u25, w25, ⟨x25, ⟨y25, z25, _⟩, _⟩, _⟩, _, _⟩, ⟨a26, c26, f26, h26, i26, j26, _⟩⟩ =>
 bif x25 then
 bif eqL u25 then
 some (((u25, w25, (true, (y25, z25, ()), dflt .unit), ()), (), ()), (a26, c26, f26, h26, i26, j26, ()))
 else none
 else
 bif eqL u25 then
 some (((u25, w25, zR0, ()), (), ()), (a26, c26, f26, h26, i26, j26, ()))
 else none
 else none
 else none
 else
 bif eqL l25 then
 bif eqL k25 then
 Option.bind (p88_4 fu ((l25, m25, zR0, ()), (o, j14, s21, k25, s25, t25, ()), ())) fun ⟨⟨⟨k26, l26, ⟨m26, ⟨n26, o26, _⟩, _⟩, _⟩, _, _⟩, ⟨q26, s26, t26, u26, w26, x26, _⟩⟩ =>
 bif m26 then
 bif eqL k26 then
 some (((k26, l26, (true, (n26, o26, ()), dflt .unit), ()), (), ()), (q26, s26, t26, u26, w26, x26, ()))
 else none
 else
 bif eqL k26 then
 some (((k26, l26, zR0, ()), (), ()), (q26, s26, t26, u26, w26, x26, ()))
 else none
 else none
 else none
 else none
 else
 bif eqL c25 then
 Option.bind (p71_2 fu ((c25, f25, zR0, ()), ())) fun ⟨⟨⟨y26, z26, ⟨a27, ⟨c27, f27, _⟩, _⟩, _⟩, _, _⟩, ⟨h27, i27, _⟩⟩ =>
 bif a27 then
 bif eqL y26 then
 bif eqL k25 then
 Option.bind (p88_4 fu ((y26, z26, (true, (c27, f27, ()), dflt .unit), ()), (o, j14, s21, k25, h27, i27, ()), ())) fun ⟨⟨⟨j27, k27, ⟨l27, ⟨m27, n27, _⟩, _⟩, _⟩, _, _⟩, ⟨o27, q27, s27, t27, u27, w27, _⟩⟩ =>
 bif l27 then
 bif eqL j27 then
 some (((j27, k27, (true, (m27, n27, ()), dflt .unit), ()), (), ()), (o27, q27, s27, t27, u27, w27, ()))
 else none
 else
 bif eqL j27 then
 some (((j27, k27, zR0, ()), (), ()), (o27, q27, s27, t27, u27, w27, ()))
 else none
 else none
 else none
 else
 bif eqL y26 then
 bif eqL k25 then
 Option.bind (p88_4 fu ((y26, z26, zR0, ()), (o, j14, s21, k25, h27, i27, ()), ())) fun ⟨⟨⟨x27, y27, ⟨z27, ⟨a28, c28, _⟩, _⟩, _⟩, _, _⟩, ⟨f28, h28, i28, j28, k28, l28, _⟩⟩ =>
 bif z27 then
 bif eqL x27 then
 some (((x27, y27, (true, (a28, c28, ()), dflt .unit), ()), (), ()), (f28, h28, i28, j28, k28, l28, ()))
 else none
 else
 bif eqL x27 then
 some (((x27, y27, zR0, ()), (), ()), (f28, h28, i28, j28, k28, l28, ()))
 else none
 else none
 else none
 else none
 else none
 else none
 else none
 else none
else
 bif eqL a then
 Option.bind (p15_2 fu ((a, c, zR0, ()), ())) fun ⟨⟨⟨m28, n28, ⟨o28, ⟨q28, s28, _⟩, _⟩, _⟩, _, _⟩, t28⟩ =>
 bif o28 then
 bif eqL m28 then
 Option.bind (p15_2 fu ((m28, n28, (true, (q28, s28, ()), dflt .unit), ()), ())) fun ⟨⟨⟨u28, w28, ⟨x28, ⟨y28, z28, _⟩, _⟩, _⟩, _, _⟩, a29⟩ =>
 bif x28 then
 bif eqL u28 then
 Option.bind (p89_2 fu ((u28, w28, (true, (y28, z28, ()), dflt .unit), ()), ())) fun ⟨⟨⟨c29, f29, ⟨h29, ⟨i29, j29, _⟩, _⟩, _⟩, _, _⟩, k29⟩ =>
 bif h29 then
 bif eqL c29 then
 Option.bind (p67_2 fu ((c29, f29, (true, (i29, j29, ()), dflt .unit), ()), (262144 : Int), ())) fun ⟨⟨⟨l29, m29, ⟨n29, ⟨o29, q29, _⟩, _⟩, _⟩, _, _⟩, s29⟩ =>
 bif n29 then
 bif eqL l29 then
 Option.bind (p71_2 fu ((l29, m29, (true, (o29, q29, ()), dflt .unit), ()), ())) fun ⟨⟨⟨t29, u29, ⟨w29, ⟨x29, y29, _⟩, _⟩, _⟩, _, _⟩, ⟨z29, a30, _⟩⟩ =>
 bif w29 then
 bif eqL t29 then
 bif eqL s29 then
 Option.bind (p88_4 fu ((t29, u29, (true, (x29, y29, ()), dflt .unit), ()), (t28, a29, k29, s29, z29, a30, ()), ())) fun ⟨⟨⟨c30, f30, ⟨h30, ⟨i30, j30, _⟩, _⟩, _⟩, _, _⟩, ⟨k30, l30, m30, n30, o30, q30, _⟩⟩ =>
 bif h30 then
 bif eqL c30 then
 some (((c30, f30, (true, (i30, j30, ()), dflt .unit), ()), (), ()), (k30, l30, m30, n30, o30, q30, ()))
 else none
 else
 bif eqL c30 then
 some (((c30, f30, zR0, ()), (), ()), (k30, l30, m30, n30, o30, q30, ()))
 else none
 else none
 else none
 else
 bif eqL t29 then
 bif eqL s29 then
 Option.bind (p88_4 fu ((t29, u29, zR0, ()), (t28, a29, k29, s29, z29, a30, ()), ())) fun ⟨⟨⟨s30, t30, ⟨u30, ⟨w30, x30, _⟩, _⟩, _⟩, _, _⟩, ⟨y30, z30, a31, c31, f31, h31, _⟩⟩ =>
 bif u30 then
 bif eqL s30 then
 some (((s30, t30, (true, (w30, x30, ()), dflt .unit), ()), (), ()), (y30, z30, a31, c31, f31, h31, ()))
 else none
 else
 bif eqL s30 then
 some (((s30, t30, zR0, ()), (), ()), (y30, z30, a31, c31, f31, h31, ()))
 else none
 else none
 else none
 else none
 else
 bif eqL l29 then
 Option.bind (p71_2 fu ((l29, m29, zR0, ()), ())) fun ⟨⟨⟨i31, j31, ⟨k31, ⟨l31, m31, _⟩, _⟩, _⟩, _, _⟩, ⟨n31, o31, _⟩⟩ =>
 bif k31 then
 bif eqL i31 then
 bif eqL s29 then
 Option.bind (p88_4 fu ((i31, j31, (true, (l31, m31, ()), dflt .unit), ()), (t28, a29, k29, s29, n31, o31, ()), ())) fun ⟨⟨⟨q31, s31, ⟨t31, ⟨u31, w31, _⟩, _⟩, _⟩, _, _⟩, ⟨x31, y31, z31, a32, c32, f32, _⟩⟩ =>
 bif t31 then
 bif eqL q31 then
 some (((q31, s31, (true, (u31, w31, ()), dflt .unit), ()), (), ()), (x31, y31, z31, a32, c32, f32, ()))
 else none
 else
 bif eqL q31 then
 some (((q31, s31, zR0, ()), (), ()), (x31, y31, z31, a32, c32, f32, ()))
 else none
 else none
 else none
 else
 bif eqL i31 then
 bif eqL s29 then
 Option.bind (p88_4 fu ((i31, j31, zR0, ()), (t28, a29, k29, s29, n31, o31, ()), ())) fun ⟨⟨⟨h32, i32, ⟨j32, ⟨k32, l32, _⟩, _⟩, _⟩, _, _⟩, ⟨m32, n32, o32, q32, s32, t32, _⟩⟩ =>
 bif j32 then
 bif eqL h32 then
 some (((h32, i32, (true, (k32, l32, ()), dflt .unit), ()), (), ()), (m32, n32, o32, q32, s32, t32, ()))
 else none
 else
 bif eqL h32 then
 some (((h32, i32, zR0, ()), (), ()), (m32, n32, o32, q32, s32, t32, ()))
 else none
 else none
 else none
 else none
 else none
 else
 bif eqL c29 then
 Option.bind (p67_2 fu ((c29, f29, zR0, ()), (262144 : Int), ())) fun ⟨⟨⟨u32, w32, ⟨x32, ⟨y32, z32, _⟩, _⟩, _⟩, _, _⟩, a33⟩ =>
 bif x32 then
 bif eqL u32 then
 Option.bind (p71_2 fu ((u32, w32, (true, (y32, z32, ()), dflt .unit), ()), ())) fun ⟨⟨⟨c33, f33, ⟨h33, ⟨i33, j33, _⟩, _⟩, _⟩, _, _⟩, ⟨k33, l33, _⟩⟩ =>
 bif h33 then
 bif eqL c33 then
 bif eqL a33 then
 Option.bind (p88_4 fu ((c33, f33, (true, (i33, j33, ()), dflt .unit), ()), (t28, a29, k29, a33, k33, l33, ()), ())) fun ⟨⟨⟨m33, n33, ⟨o33, ⟨q33, s33, _⟩, _⟩, _⟩, _, _⟩, ⟨t33, u33, w33, x33, y33, z33, _⟩⟩ =>
 bif o33 then
 bif eqL m33 then
 some (((m33, n33, (true, (q33, s33, ()), dflt .unit), ()), (), ()), (t33, u33, w33, x33, y33, z33, ()))
 else none
 else
 bif eqL m33 then
 some (((m33, n33, zR0, ()), (), ()), (t33, u33, w33, x33, y33, z33, ()))
 else none
 else none
 else none
 else
 bif eqL c33 then
 bif eqL a33 then
 Option.bind (p88_4 fu ((c33, f33, zR0, ()), (t28, a29, k29, a33, k33, l33, ()), ())) fun ⟨⟨⟨a34, c34, ⟨f34, ⟨h34, i34, _⟩, _⟩, _⟩, _, _⟩, ⟨j34, k34, l34, m34, n34, o34, _⟩⟩ =>
 bif f34 then
 bif eqL a34 then
 some (((a34, c34, (true, (h34, i34, ()), dflt .unit), ()), (), ()), (j34, k34, l34, m34, n34, o34, ()))
 else none
 else
 bif eqL a34 then
 some (((a34, c34, zR0, ()), (), ()), (j34, k34, l34, m34, n34, o34, ()))
 else none
 else none
 else none
 else none
 else
 bif eqL u32 then
 Option.bind (p71_2 fu ((u32, w32, zR0, ()), ())) fun ⟨⟨⟨q34, s34, ⟨t34, ⟨u34, w34, _⟩, _⟩, _⟩, _, _⟩, ⟨x34, y34, _⟩⟩ =>
 bif t34 then
 bif eqL q34 then
 bif eqL a33 then
 Option.bind (p88_4 fu ((q34, s34, (true, (u34, w34, ()), dflt .unit), ()), (t28, a29, k29, a33, x34, y34, ()), ())) fun ⟨⟨⟨z34, a35, ⟨c35, ⟨f35, h35, _⟩, _⟩, _⟩, _, _⟩, ⟨i35, j35, k35, l35, m35, n35, _⟩⟩ =>
 bif c35 then
 bif eqL z34 then
 some (((z34, a35, (true, (f35, h35, ()), dflt .unit), ()), (), ()), (i35, j35, k35, l35, m35, n35, ()))
 else none
 else
 bif eqL z34 then
 some (((z34, a35, zR0, ()), (), ()), (i35, j35, k35, l35, m35, n35, ()))
 else none
 else none
 else none
 else
 bif eqL q34 then
 bif eqL a33 then
 Option.bind (p88_4 fu ((q34, s34, zR0, ()), (t28, a29, k29, a33, x34, y34, ()), ())) fun ⟨⟨⟨o35, q35, ⟨s35, ⟨t35, u35, _⟩, _⟩, _⟩, _, _⟩, ⟨w35, x35, y35, z35, a36, c36, _⟩⟩ =>
 bif s35 then
 bif eqL o35 then
 some (((o35, q35, (true, (t35, u35, ()), dflt .unit), ()), (), ()), (w35, x35, y35, z35, a36, c36, ()))
 else none
 else
 bif eqL o35 then
 some (((o35, q35, zR0, ()), (), ()), (w35, x35, y35, z35, a36, c36, ()))
 else none
 else none
 else none
 else none
 else none
 else none
 else
 bif eqL u28 then
 Option.bind (p89_2 fu ((u28, w28, zR0, ()), ())) fun ⟨⟨⟨f36, h36, ⟨i36, ⟨j36, k36, _⟩, _⟩, _⟩, _, _⟩, l36⟩ =>
 bif i36 then
 bif eqL f36 then
 Option.bind (p67_2 fu ((f36, h36, (true, (j36, k36, ()), dflt .unit), ()), (262144 : Int), ())) fun ⟨⟨⟨m36, n36, ⟨o36, ⟨q36, s36, _⟩, _⟩, _⟩, _, _⟩, t36⟩ =>
 bif o36 then
 bif eqL m36 then
 Option.bind (p71_2 fu ((m36, n36, (true, (q36, s36, ()), dflt .unit), ()), ())) fun ⟨⟨⟨u36, w36, ⟨x36, ⟨y36, z36, _⟩, _⟩, _⟩, _, _⟩, ⟨a37, c37, _⟩⟩ =>
 bif x36 then
 bif eqL u36 then
 bif eqL t36 then
 Option.bind (p88_4 fu ((u36, w36, (true, (y36, z36, ()), dflt .unit), ()), (t28, a29, l36, t36, a37, c37, ()), ())) fun ⟨⟨⟨f37, h37, ⟨i37, ⟨j37, k37, _⟩, _⟩, _⟩, _, _⟩, ⟨l37, m37, n37, o37, q37, s37, _⟩⟩ =>
 bif i37 then
 bif eqL f37 then
 some (((f37, h37, (true, (j37, k37, ()), dflt .unit), ()), (), ()), (l37, m37, n37, o37, q37, s37, ()))
 else none
 else
 bif eqL f37 then
 some (((f37, h37, zR0, ()), (), ()), (l37, m37, n37, o37, q37, s37, ()))
 else none
 else none
 else none
 else
 bif eqL u36 then
 bif eqL t36 then
 Option.bind (p88_4 fu ((u36, w36, zR0, ()), (t28, a29, l36, t36, a37, c37, ()), ())) fun ⟨⟨⟨t37, u37, ⟨w37, ⟨x37, y37, _⟩, _⟩, _⟩, _, _⟩, ⟨z37, a38, c38, f38, h38, i38, _⟩⟩ =>
 bif w37 then
 bif eqL t37 then
 some (((t37, u37, (true, (x37, y37, ()), dflt .unit), ()), (), ()), (z37, a38, c38, f38, h38, i38, ()))
 else none
 else
 bif eqL t37 then
 some (((t37, u37, zR0, ()), (), ()), (z37, a38, c38, f38, h38, i38, ()))
 else none
 else none
 else none
 else none
 else
 bif eqL m36 then
 Option.bind (p71_2 fu ((m36, n36, zR0, ()), ())) fun ⟨⟨⟨j38, k38, ⟨l38, ⟨m38, n38, _⟩, _⟩, _⟩, _, _⟩, ⟨o38, q38, _⟩⟩ =>
 bif l38 then
 bif eqL j38 then
 bif eqL t36 then
 Option.bind (p88_4 fu ((j38, k38, (true, (m38, n38, ()), dflt .unit), ()), (t28, a29, l36, t36, o38, q38, ()), ())) fun ⟨⟨⟨s38, t38, ⟨u38, ⟨w38, x38, _⟩, _⟩, _⟩, _, _⟩, ⟨y38, z38, a39, c39, f39, h39, _⟩⟩ =>
 bif u38 then
 bif eqL s38 then
 some (((s38, t38, (true, (w38, x38, ()), dflt .unit), ()), (), ()), (y38, z38, a39, c39, f39, h39, ()))
 else none
 else
 bif eqL s38 then
 some (((s38, t38, zR0, ()), (), ()), (y38, z38, a39, c39, f39, h39, ()))
 else none
 else none
 else none
 else
 bif eqL j38 then
 bif eqL t36 then
 Option.bind (p88_4 fu ((j38, k38, zR0, ()), (t28, a29, l36, t36, o38, q38, ()), ())) fun ⟨⟨⟨i39, j39, ⟨k39, ⟨l39, m39, _⟩, _⟩, _⟩, _, _⟩, ⟨n39, o39, q39, s39, t39, u39, _⟩⟩ =>
 bif k39 then
 bif eqL i39 then
 some (((i39, j39, (true, (l39, m39, ()), dflt .unit), ()), (), ()), (n39, o39, q39, s39, t39, u39, ()))
 else none
 else
 bif eqL i39 then
 some (((i39, j39, zR0, ()), (), ()), (n39, o39, q39, s39, t39, u39, ()))
 else none
 else none
 else none
 else none
 else none
 else
 bif eqL f36 then
 Option.bind (p67_2 fu ((f36, h36, zR0, ()), (262144 : Int), ())) fun ⟨⟨⟨w39, x39, ⟨y39, ⟨z39, a40, _⟩, _⟩, _⟩, _, _⟩, c40⟩ =>
 bif y39 then
 bif eqL w39 then
 Option.bind (p71_2 fu ((w39, x39, (true, (z39, a40, ()), dflt .unit), ()), ())) fun ⟨⟨⟨f40, h40, ⟨i40, ⟨j40, k40, _⟩, _⟩, _⟩, _, _⟩, ⟨l40, m40, _⟩⟩ =>
 bif i40 then
 bif eqL f40 then
 bif eqL c40 then
 Option.bind (p88_4 fu ((f40, h40, (true, (j40, k40, ()), dflt .unit), ()), (t28, a29, l36, c40, l40, m40, ()), ())) fun ⟨⟨⟨n40, o40, ⟨q40, ⟨s40, t40, _⟩, _⟩, _⟩, _, _⟩, ⟨u40, w40, x40, y40, z40, a41, _⟩⟩ =>
 bif q40 then
 bif eqL n40 then
 some (((n40, o40, (true, (s40, t40, ()), dflt .unit), ()), (), ()), (u40, w40, x40, y40, z40, a41, ()))
 else none
 else
 bif eqL n40 then
 some (((n40, o40, zR0, ()), (), ()), (u40, w40, x40, y40, z40, a41, ()))
 else none
 else none
 else none
 else
 bif eqL f40 then
 bif eqL c40 then
 Option.bind (p88_4 fu ((f40, h40, zR0, ()), (t28, a29, l36, c40, l40, m40, ()), ())) fun ⟨⟨⟨c41, f41, ⟨h41, ⟨i41, j41, _⟩, _⟩, _⟩, _, _⟩, ⟨k41, l41, m41, n41, o41, q41, _⟩⟩ =>
 bif h41 then
 bif eqL c41 then
 some (((c41, f41, (true, (i41, j41, ()), dflt .unit), ()), (), ()), (k41, l41, m41, n41, o41, q41, ()))
 else none
 else
 bif eqL c41 then
 some (((c41, f41, zR0, ()), (), ()), (k41, l41, m41, n41, o41, q41, ()))
 else none
 else none
 else none
 else none
 else
 bif eqL w39 then
 Option.bind (p71_2 fu ((w39, x39, zR0, ()), ())) fun ⟨⟨⟨s41, t41, ⟨u41, ⟨w41, x41, _⟩, _⟩, _⟩, _, _⟩, ⟨y41, z41, _⟩⟩ =>
 bif u41 then
 bif eqL s41 then
 bif eqL c40 then
 Option.bind (p88_4 fu ((s41, t41, (true, (w41, x41, ()), dflt .unit), ()), (t28, a29, l36, c40, y41, z41, ()), ())) fun ⟨⟨⟨a42, c42, ⟨f42, ⟨h42, i42, _⟩, _⟩, _⟩, _, _⟩, ⟨j42, k42, l42, m42, n42, o42, _⟩⟩ =>
 bif f42 then
 bif eqL a42 then
 some (((a42, c42, (true, (h42, i42, ()), dflt .unit), ()), (), ()), (j42, k42, l42, m42, n42, o42, ()))
 else none
 else
 bif eqL a42 then
 some (((a42, c42, zR0, ()), (), ()), (j42, k42, l42, m42, n42, o42, ()))
 else none
 else none
 else none
 else
 bif eqL s41 then
 bif eqL c40 then
 Option.bind (p88_4 fu ((s41, t41, zR0, ()), (t28, a29, l36, c40, y41, z41, ()), ())) fun ⟨⟨⟨q42, s42, ⟨t42, ⟨u42, w42, _⟩, _⟩, _⟩, _, _⟩, ⟨x42, y42, z42, a43, c43, f43, _⟩⟩ =>
 bif t42 then
 bif eqL q42 then
 some (((q42, s42, (true, (u42, w42, ()), dflt .unit), ()), (), ()), (x42, y42, z42, a43, c43, f43, ()))
 else none
 else
 bif eqL q42 then
 some (((q42, s42, zR0, ()), (), ()), (x42, y42, z42, a43, c43, f43, ()))
 else none
 else none
 else none
 else none
 else none
 else none
 else none
 else
 bif eqL m28 then
 Option.bind (p15_2 fu ((m28, n28, zR0, ()), ())) fun ⟨⟨⟨h43, i43, ⟨j43, ⟨k43, l43, _⟩, _⟩, _⟩, _, _⟩, m43⟩ =>
 bif j43 then
 bif eqL h43 then
 Option.bind (p89_2 fu ((h43, i43, (true, (k43, l43, ()), dflt .unit), ()), ())) fun ⟨⟨⟨n43, o43, ⟨q43, ⟨s43, t43, _⟩, _⟩, _⟩, _, _⟩, u43⟩ =>
 bif q43 then
 bif eqL n43 then
 Option.bind (p67_2 fu ((n43, o43, (true, (s43, t43, ()), dflt .unit), ()), (262144 : Int), ())) fun ⟨⟨⟨w43, x43, ⟨y43, ⟨z43, a44, _⟩, _⟩, _⟩, _, _⟩, c44⟩ =>
 bif y43 then
 bif eqL w43 then
 Option.bind (p71_2 fu ((w43, x43, (true, (z43, a44, ()), dflt .unit), ()), ())) fun ⟨⟨⟨f44, h44, ⟨i44, ⟨j44, k44, _⟩, _⟩, _⟩, _, _⟩, ⟨l44, m44, _⟩⟩ =>
 bif i44 then
 bif eqL f44 then
 bif eqL c44 then
 Option.bind (p88_4 fu ((f44, h44, (true, (j44, k44, ()), dflt .unit), ()), (t28, m43, u43, c44, l44, m44, ()), ())) fun ⟨⟨⟨n44, o44, ⟨q44, ⟨s44, t44, _⟩, _⟩, _⟩, _, _⟩, ⟨u44, w44, x44, y44, z44, a45, _⟩⟩ =>
 bif q44 then
 bif eqL n44 then
 some (((n44, o44, (true, (s44, t44, ()), dflt .unit), ()), (), ()), (u44, w44, x44, y44, z44, a45, ()))
 else none
 else
 bif eqL n44 then
 some (((n44, o44, zR0, ()), (), ()), (u44, w44, x44, y44, z44, a45, ()))
 else none
 else none
 else none
 else
 bif eqL f44 then
 bif eqL c44 then
 Option.bind (p88_4 fu ((f44, h44, zR0, ()), (t28, m43, u43, c44, l44, m44, ()), ())) fun ⟨⟨⟨c45, f45, ⟨h45, ⟨i45, j45, _⟩, _⟩, _⟩, _, _⟩, ⟨k45, l45, m45, n45, o45, q45, _⟩⟩ =>
 bif h45 then
 bif eqL c45 then
 some (((c45, f45, (true, (i45, j45, ()), dflt .unit), ()), (), ()), (k45, l45, m45, n45, o45, q45, ()))
 else none
 else
 bif eqL c45 then
 some (((c45, f45, zR0, ()), (), ()), (k45, l45, m45, n45, o45, q45, ()))
 else none
 else none
 else none
 else none
 else
 bif eqL w43 then
 Option.bind (p71_2 fu ((w43, x43, zR0, ()), ())) fun ⟨⟨⟨s45, t45, ⟨u45, ⟨w45, x45, _⟩, _⟩, _⟩, _, _⟩, ⟨y45, z45, _⟩⟩ =>
 bif u45 then
 bif eqL s45 then
 bif eqL c44 then
 Option.bind (p88_4 fu ((s45, t45, (true, (w45, x45, ()), dflt .unit), ()), (t28, m43, u43, c44, y45, z45, ()), ())) fun ⟨⟨⟨a46, c46, ⟨f46, ⟨h46, i46, _⟩, _⟩, _⟩, _, _⟩, ⟨j46, k46, l46, m46, n46, o46, _⟩⟩ =>
 bif f46 then
 bif eqL a46 then
 some (((a46, c46, (true, (h46, i46, ()), dflt .unit), ()), (), ()), (j46, k46, l46, m46, n46, o46, ()))
 else none
 else
 bif eqL a46 then
 some (((a46, c46, zR0, ()), (), ()), (j46, k46, l46, m46, n46, o46, ()))
 else none
 else none
 else none
 else
 bif eqL s45 then
 bif eqL c44 then
 Option.bind (p88_4 fu ((s45, t45, zR0, ()), (t28, m43, u43, c44, y45, z45, ()), ())) fun ⟨⟨⟨q46, s46, ⟨t46, ⟨u46, w46, _⟩, _⟩, _⟩, _, _⟩, ⟨x46, y46, z46, a47, c47, f47, _⟩⟩ =>
 bif t46 then
 bif eqL q46 then
 some (((q46, s46, (true, (u46, w46, ()), dflt .unit), ()), (), ()), (x46, y46, z46, a47, c47, f47, ()))
 else none
 else
 bif eqL q46 then
 some (((q46, s46, zR0, ()), (), ()), (x46, y46, z46, a47, c47, f47, ()))
 else none
 else none
 else none
 else none
 else none
 else
 bif eqL n43 then
 Option.bind (p67_2 fu ((n43, o43, zR0, ()), (262144 : Int), ())) fun ⟨⟨⟨h47, i47, ⟨j47, ⟨k47, l47, _⟩, _⟩, _⟩, _, _⟩, m47⟩ =>
 bif j47 then
 bif eqL h47 then
 Option.bind (p71_2 fu ((h47, i47, (true, (k47, l47, ()), dflt .unit), ()), ())) fun ⟨⟨⟨n47, o47, ⟨q47, ⟨s47, t47, _⟩, _⟩, _⟩, _, _⟩, ⟨u47, w47, _⟩⟩ =>
 bif q47 then
 bif eqL n47 then
 bif eqL m47 then
 Option.bind (p88_4 fu ((n47, o47, (true, (s47, t47, ()), dflt .unit), ()), (t28, m43, u43, m47, u47, w47, ()), ())) fun ⟨⟨⟨x47, y47, ⟨z47, ⟨a48, c48, _⟩, _⟩, _⟩, _, _⟩, ⟨f48, h48, i48, j48, k48, l48, _⟩⟩ =>
 bif z47 then
 bif eqL x47 then
 some (((x47, y47, (true, (a48, c48, ()), dflt .unit), ()), (), ()), (f48, h48, i48, j48, k48, l48, ()))
 else none
 else
 bif eqL x47 then
 some (((x47, y47, zR0, ()), (), ()), (f48, h48, i48, j48, k48, l48, ()))
 else none
 else none
 else none
 else
 bif eqL n47 then
 bif eqL m47 then
 Option.bind (p88_4 fu ((n47, o47, zR0, ()), (t28, m43, u43, m47, u47, w47, ()), ())) fun ⟨⟨⟨m48, n48, ⟨o48, ⟨q48, s48, _⟩, _⟩, _⟩, _, _⟩, ⟨t48, u48, w48, x48, y48, z48, _⟩⟩ =>
 bif o48 then
 bif eqL m48 then
 some (((m48, n48, (true, (q48, s48, ()), dflt .unit), ()), (), ()), (t48, u48, w48, x48, y48, z48, ()))
 else none
 else
 bif eqL m48 then
 some (((m48, n48, zR0, ()), (), ()), (t48, u48, w48, x48, y48, z48, ()))
 else none
 else none
 else none
 else none
 else
 bif eqL h47 then
 Option.bind (p71_2 fu ((h47, i47, zR0, ()), ())) fun ⟨⟨⟨a49, c49, ⟨f49, ⟨h49, i49, _⟩, _⟩, _⟩, _, _⟩, ⟨j49, k49, _⟩⟩ =>
 bif f49 then
 bif eqL a49 then
 bif eqL m47 then
 Option.bind (p88_4 fu ((a49, c49, (true, (h49, i49, ()), dflt .unit), ()), (t28, m43, u43, m47, j49, k49, ()), ())) fun ⟨⟨⟨l49, m49, ⟨n49, ⟨o49, q49, _⟩, _⟩, _⟩, _, _⟩, ⟨s49, t49, u49, w49, x49, y49, _⟩⟩ =>
 bif n49 then
 bif eqL l49 then
 some (((l49, m49, (true, (o49, q49, ()), dflt .unit), ()), (), ()), (s49, t49, u49, w49, x49, y49, ()))
 else none
 else
 bif eqL l49 then
 some (((l49, m49, zR0, ()), (), ()), (s49, t49, u49, w49, x49, y49, ()))
 else none
 else none
 else none
 else
 bif eqL a49 then
 bif eqL m47 then
 Option.bind (p88_4 fu ((a49, c49, zR0, ()), (t28, m43, u43, m47, j49, k49, ()), ())) fun ⟨⟨⟨z49, a50, ⟨c50, ⟨f50, h50, _⟩, _⟩, _⟩, _, _⟩, ⟨i50, j50, k50, l50, m50, n50, _⟩⟩ =>
 bif c50 then
 bif eqL z49 then
 some (((z49, a50, (true, (f50, h50, ()), dflt .unit), ()), (), ()), (i50, j50, k50, l50, m50, n50, ()))
 else none
 else
 bif eqL z49 then
 some (((z49, a50, zR0, ()), (), ()), (i50, j50, k50, l50, m50, n50, ()))
 else none
 else none
 else none
 else none
 else none
 else none
 else
 bif eqL h43 then
 Option.bind (p89_2 fu ((h43, i43, zR0, ()), ())) fun ⟨⟨⟨o50, q50, ⟨s50, ⟨t50, u50, _⟩, _⟩, _⟩, _, _⟩, w50⟩ =>
 bif s50 then
 bif eqL o50 then
 Option.bind (p67_2 fu ((o50, q50, (true, (t50, u50, ()), dflt .unit), ()), (262144 : Int), ())) fun ⟨⟨⟨x50, y50, ⟨z50, ⟨a51, c51, _⟩, _⟩, _⟩, _, _⟩, f51⟩ =>
 bif z50 then
 bif eqL x50 then
 Option.bind (p71_2 fu ((x50, y50, (true, (a51, c51, ()), dflt .unit), ()), ())) fun ⟨⟨⟨h51, i51, ⟨j51, ⟨k51, l51, _⟩, _⟩, _⟩, _, _⟩, ⟨m51, n51, _⟩⟩ =>
 bif j51 then
 bif eqL h51 then
 bif eqL f51 then
 Option.bind (p88_4 fu ((h51, i51, (true, (k51, l51, ()), dflt .unit), ()), (t28, m43, w50, f51, m51, n51, ()), ())) fun ⟨⟨⟨o51, q51, ⟨s51, ⟨t51, u51, _⟩, _⟩, _⟩, _, _⟩, ⟨w51, x51, y51, z51, a52, c52, _⟩⟩ =>
 bif s51 then
 bif eqL o51 then
 some (((o51, q51, (true, (t51, u51, ()), dflt .unit), ()), (), ()), (w51, x51, y51, z51, a52, c52, ()))
 else none
 else
 bif eqL o51 then
 some (((o51, q51, zR0, ()), (), ()), (w51, x51, y51, z51, a52, c52, ()))
 else none
 else none
 else none
 else
 bif eqL h51 then
 bif eqL f51 then
 Option.bind (p88_4 fu ((h51, i51, zR0, ()), (t28, m43, w50, f51, m51, n51, ()), ())) fun ⟨⟨⟨f52, h52, ⟨i52, ⟨j52, k52, _⟩, _⟩, _⟩, _, _⟩, ⟨l52, m52, n52, o52, q52, s52, _⟩⟩ =>
 bif i52 then
 bif eqL f52 then
 some (((f52, h52, (true, (j52, k52, ()), dflt .unit), ()), (), ()), (l52, m52, n52, o52, q52, s52, ()))
 else none
 else
 bif eqL f52 then
 some (((f52, h52, zR0, ()), (), ()), (l52, m52, n52, o52, q52, s52, ()))
 else none
 else none
 else none
 else none
 else
 bif eqL x50 then
 Option.bind (p71_2 fu ((x50, y50, zR0, ()), ())) fun ⟨⟨⟨t52, u52, ⟨w52, ⟨x52, y52, _⟩, _⟩, _⟩, _, _⟩, ⟨z52, a53, _⟩⟩ =>
 bif w52 then
 bif eqL t52 then
 bif eqL f51 then
 Option.bind (p88_4 fu ((t52, u52, (true, (x52, y52, ()), dflt .unit), ()), (t28, m43, w50, f51, z52, a53, ()), ())) fun ⟨⟨⟨c53, f53, ⟨h53, ⟨i53, j53, _⟩, _⟩, _⟩, _, _⟩, ⟨k53, l53, m53, n53, o53, q53, _⟩⟩ =>
 bif h53 then
 bif eqL c53 then
 some (((c53, f53, (true, (i53, j53, ()), dflt .unit), ()), (), ()), (k53, l53, m53, n53, o53, q53, ()))
 else none
 else
 bif eqL c53 then
 some (((c53, f53, zR0, ()), (), ()), (k53, l53, m53, n53, o53, q53, ()))
 else none
 else none
 else none
 else
 bif eqL t52 then
 bif eqL f51 then
 Option.bind (p88_4 fu ((t52, u52, zR0, ()), (t28, m43, w50, f51, z52, a53, ()), ())) fun ⟨⟨⟨s53, t53, ⟨u53, ⟨w53, x53, _⟩, _⟩, _⟩, _, _⟩, ⟨y53, z53, a54, c54, f54, h54, _⟩⟩ =>
 bif u53 then
 bif eqL s53 then
 some (((s53, t53, (true, (w53, x53, ()), dflt .unit), ()), (), ()), (y53, z53, a54, c54, f54, h54, ()))
 else none
 else
 bif eqL s53 then
 some (((s53, t53, zR0, ()), (), ()), (y53, z53, a54, c54, f54, h54, ()))
 else none
 else none
 else none
 else none
 else none
 else
 bif eqL o50 then
 Option.bind (p67_2 fu ((o50, q50, zR0, ()), (262144 : Int), ())) fun ⟨⟨⟨i54, j54, ⟨k54, ⟨l54, m54, _⟩, _⟩, _⟩, _, _⟩, n54⟩ =>
 bif k54 then
 bif eqL i54 then
 Option.bind (p71_2 fu ((i54, j54, (true, (l54, m54, ()), dflt .unit), ()), ())) fun ⟨⟨⟨o54, q54, ⟨s54, ⟨t54, u54, _⟩, _⟩, _⟩, _, _⟩, ⟨w54, x54, _⟩⟩ =>
 bif s54 then
 bif eqL o54 then
 bif eqL n54 then
 Option.bind (p88_4 fu ((o54, q54, (true, (t54, u54, ()), dflt .unit), ()), (t28, m43, w50, n54, w54, x54, ()), ())) fun ⟨⟨⟨y54, z54, ⟨a55, ⟨c55, f55, _⟩, _⟩, _⟩, _, _⟩, ⟨h55, i55, j55, k55, l55, m55, _⟩⟩ =>
 bif a55 then
 bif eqL y54 then
 some (((y54, z54, (true, (c55, f55, ()), dflt .unit), ()), (), ()), (h55, i55, j55, k55, l55, m55, ()))
 else none
 else
 bif eqL y54 then
 some (((y54, z54, zR0, ()), (), ()), (h55, i55, j55, k55, l55, m55, ()))
 else none
 else none
 else none
 else
 bif eqL o54 then
 bif eqL n54 then
 Option.bind (p88_4 fu ((o54, q54, zR0, ()), (t28, m43, w50, n54, w54, x54, ()), ())) fun ⟨⟨⟨n55, o55, ⟨q55, ⟨s55, t55, _⟩, _⟩, _⟩, _, _⟩, ⟨u55, w55, x55, y55, z55, a56, _⟩⟩ =>
 bif q55 then
 bif eqL n55 then
 some (((n55, o55, (true, (s55, t55, ()), dflt .unit), ()), (), ()), (u55, w55, x55, y55, z55, a56, ()))
 else none
 else
 bif eqL n55 then
 some (((n55, o55, zR0, ()), (), ()), (u55, w55, x55, y55, z55, a56, ()))
 else none
 else none
 else none
 else none
 else
 bif eqL i54 then
 Option.bind (p71_2 fu ((i54, j54, zR0, ()), ())) fun ⟨⟨⟨c56, f56, ⟨h56, ⟨i56, j56, _⟩, _⟩, _⟩, _, _⟩, ⟨k56, l56, _⟩⟩ =>
 bif h56 then
 bif eqL c56 then
 bif eqL n54 then
 Option.bind (p88_4 fu ((c56, f56, (true, (i56, j56, ()), dflt .unit), ()), (t28, m43, w50, n54, k56, l56, ()), ())) fun ⟨⟨⟨m56, n56, ⟨o56, ⟨q56, s56, _⟩, _⟩, _⟩, _, _⟩, ⟨t56, u56, w56, x56, y56, z56, _⟩⟩ =>
 bif o56 then
 bif eqL m56 then
 some (((m56, n56, (true, (q56, s56, ()), dflt .unit), ()), (), ()), (t56, u56, w56, x56, y56, z56, ()))
 else none
 else
 bif eqL m56 then
 some (((m56, n56, zR0, ()), (), ()), (t56, u56, w56, x56, y56, z56, ()))
 else none
 else none
 else none
 else
 bif eqL c56 then
 bif eqL n54 then
 Option.bind (p88_4 fu ((c56, f56, zR0, ()), (t28, m43, w50, n54, k56, l56, ()), ())) fun ⟨⟨⟨a57, c57, ⟨f57, ⟨h57, i57, _⟩, _⟩, _⟩, _, _⟩, ⟨j57, k57, l57, m57, n57, o57, _⟩⟩ =>
 bif f57 then
 bif eqL a57 then
 some (((a57, c57, (true, (h57, i57, ()), dflt .unit), ()), (), ()), (j57, k57, l57, m57, n57, o57, ()))
 else none
 else
 bif eqL a57 then
 some (((a57, c57, zR0, ()), (), ()), (j57, k57, l57, m57, n57, o57, ()))
 else none
 else none
 else none
 else none
 else none
 else none
 else none
 else none
def e47_2 (fu : Nat) : Ent := ⟨47, (.cons Y3 .nil), (.cons Y0 (.cons .dead .nil)), Y5, p47_2 fu⟩
def d47_2 (fu : Nat) : DC := (.seq (.region [opD 2 (.alloc 33 6 [vU, vU, vI, vS, vS, vS])] [[]] false) (.seq (.region [mvD 3 0, mvD 4 0, oqD 5 (.call 15 [(tD 4)]) (.ent (e15_2 fu)), mvD 6 0, oqD 7 (.call 15 [(tD 6)]) (.ent (e15_2 fu)), mvD 8 0, oqD 9 (.call 89 [(tD 8)]) (.ent (e89_2 fu)), mvD 10 0, oqD 11 (.call 67 [(tD 10), (cD 262144)]) (.ent (e67_2 fu)), mvD 12 0, oqD 13 (.call 71 [(tD 12)]) (.ent (e71_2 fu)), opD 14 (.build 6 [vU, vU, vI, vS, vS, vS] [(0, (1, (tD 5))), (1, (1, (tD 7))), (2, (1, (tD 9))), (3, (1, (tD 11))), (4, (2, (tD 13)))]), oqD 15 (.call 88 [(tD 3), (tD 14)]) (.ent (e88_4 fu)), onD (.store 6 (tD 2) (tD 15))] [[], [], [1], [], [3, 2], [], [5, 4], [], [7, 6], [], [9, 8], [2, 4, 6, 8, 10], [0, 11, 10], [12, 12, 0, 1, 2, 3, 4, 5, 6, 7, 8, 9, 10, 11, 12]] false) .ret))
set_option maxRecDepth 1000000 in
theorem v47_2 (fu : Nat) : evF fu (d47_2 fu) rs47 16 (e47_2 fu).ash (e47_2 fu).osh (e47_2 fu).vsh = p47_2 fu := by kernel_rfl
set_option maxRecDepth 1000000 in
theorem b47_2 (fu : Nat) : BodyD Tryd.prog 47 16 (d47_2 fu).erase rs47 := bodyD_mk Tryd.func47 (by kernel_rfl) (by kernel_rfl) (by kernel_rfl) (by kernel_rfl)
theorem g47_2 (fu : Nat) : (e47_2 fu).Good Tryd.prog := good_by orders (b47_2 fu) (l := [e15_2 fu, e15_2 fu, e89_2 fu, e67_2 fu, e71_2 fu, e88_4 fu]) (by kernel_rfl) ⟨g15_2 fu, g15_2 fu, g89_2 fu, g67_2 fu, g71_2 fu, g88_4 fu, trivial⟩ (by kernel_rfl) (v47_2 fu)
def rs49 : List RVx := [(.cell 2 true 5)]
/-- (*gazette/codec.Reader).Snap -/
def p49_2 (fu : Nat) : ((List (Int)) × ((Int) × (((Bool) × (((Int) × ((Int) × (Unit))) × (Unit))) × (Unit)))) × (Unit) → Option ((((List (Int)) × ((Int) × (((Bool) × (((Int) × ((Int) × (Unit))) × (Unit))) × (Unit)))) × ((Unit) × (Unit))) × ((Int) × ((Int) × ((List (Int)) × ((List (Int)) × ((List (Int)) × (Unit))))))) := fun ⟨⟨a, c, ⟨f, ⟨h, i, _⟩, _⟩, _⟩, _⟩ =>
bif f then
 bif eqL a then
 Option.bind (p15_2 fu ((a, c, (true, (h, i, ()), dflt .unit), ()), ())) fun ⟨⟨⟨j, k, ⟨l, ⟨m, n, _⟩, _⟩, _⟩, _, _⟩, o⟩ =>
 bif l then
 bif eqL j then
 Option.bind (p15_2 fu ((j, k, (true, (m, n, ()), dflt .unit), ()), ())) fun ⟨⟨⟨q, s, ⟨t, ⟨u, w, _⟩, _⟩, _⟩, _, _⟩, x⟩ =>
 bif t then
 bif eqL q then
 Option.bind (p71_2 fu ((q, s, (true, (u, w, ()), dflt .unit), ()), ())) fun ⟨⟨⟨y, z, ⟨a0, ⟨c0, f0, _⟩, _⟩, _⟩, _, _⟩, ⟨h0, i0, _⟩⟩ =>
 bif a0 then
 bif eqL y then
 Option.bind (p67_2 fu ((y, z, (true, (c0, f0, ()), dflt .unit), ()), (262144 : Int), ())) fun ⟨⟨⟨j0, k0, ⟨l0, ⟨m0, n0, _⟩, _⟩, _⟩, _, _⟩, o0⟩ =>
 bif l0 then
 bif eqL j0 then
 bif eqL o0 then
 Option.bind (p90_4 fu ((j0, k0, (true, (m0, n0, ()), dflt .unit), ()), (o, x, h0, i0, o0, ()), ())) fun ⟨⟨⟨q0, s0, ⟨t0, ⟨u0, w0, _⟩, _⟩, _⟩, _, _⟩, ⟨x0, y0, z0, a1, c1, _⟩⟩ =>
 bif t0 then
 bif eqL q0 then
 some (((q0, s0, (true, (u0, w0, ()), dflt .unit), ()), (), ()), (x0, y0, z0, a1, c1, ()))
 else none
 else
 bif eqL q0 then
 some (((q0, s0, zR0, ()), (), ()), (x0, y0, z0, a1, c1, ()))
 else none
 else none
 else none
 else
 bif eqL j0 then
 bif eqL o0 then
 Option.bind (p90_4 fu ((j0, k0, zR0, ()), (o, x, h0, i0, o0, ()), ())) fun ⟨⟨⟨f1, h1, ⟨i1, ⟨j1, k1, _⟩, _⟩, _⟩, _, _⟩, ⟨l1, m1, n1, o1, q1, _⟩⟩ =>
 bif i1 then
 bif eqL f1 then
 some (((f1, h1, (true, (j1, k1, ()), dflt .unit), ()), (), ()), (l1, m1, n1, o1, q1, ()))
 else none
 else
 bif eqL f1 then
 some (((f1, h1, zR0, ()), (), ()), (l1, m1, n1, o1, q1, ()))
 else none
 else none
 else none
 else none
 else
 bif eqL y then
 Option.bind (p67_2 fu ((y, z, zR0, ()), (262144 : Int), ())) fun ⟨⟨⟨s1, t1, ⟨u1, ⟨w1, x1, _⟩, _⟩, _⟩, _, _⟩, y1⟩ =>
 bif u1 then
 bif eqL s1 then
 bif eqL y1 then
 Option.bind (p90_4 fu ((s1, t1, (true, (w1, x1, ()), dflt .unit), ()), (o, x, h0, i0, y1, ()), ())) fun ⟨⟨⟨z1, a2, ⟨c2, ⟨f2, h2, _⟩, _⟩, _⟩, _, _⟩, ⟨i2, j2, k2, l2, m2, _⟩⟩ =>
 bif c2 then
 bif eqL z1 then
 some (((z1, a2, (true, (f2, h2, ()), dflt .unit), ()), (), ()), (i2, j2, k2, l2, m2, ()))
 else none
 else
 bif eqL z1 then
 some (((z1, a2, zR0, ()), (), ()), (i2, j2, k2, l2, m2, ()))
 else none
 else none
 else none
 else
 bif eqL s1 then
 bif eqL y1 then
 Option.bind (p90_4 fu ((s1, t1, zR0, ()), (o, x, h0, i0, y1, ()), ())) fun ⟨⟨⟨n2, o2, ⟨q2, ⟨s2, t2, _⟩, _⟩, _⟩, _, _⟩, ⟨u2, w2, x2, y2, z2, _⟩⟩ =>
 bif q2 then
 bif eqL n2 then
 some (((n2, o2, (true, (s2, t2, ()), dflt .unit), ()), (), ()), (u2, w2, x2, y2, z2, ()))
 else none
 else
 bif eqL n2 then
 some (((n2, o2, zR0, ()), (), ()), (u2, w2, x2, y2, z2, ()))
 else none
 else none
 else none
 else none
 else none
 else
 bif eqL q then
 Option.bind (p71_2 fu ((q, s, zR0, ()), ())) fun ⟨⟨⟨a3, c3, ⟨f3, ⟨h3, i3, _⟩, _⟩, _⟩, _, _⟩, ⟨j3, k3, _⟩⟩ =>
 bif f3 then
 bif eqL a3 then
 Option.bind (p67_2 fu ((a3, c3, (true, (h3, i3, ()), dflt .unit), ()), (262144 : Int), ())) fun ⟨⟨⟨l3, m3, ⟨n3, ⟨o3, q3, _⟩, _⟩, _⟩, _, _⟩, s3⟩ =>
 bif n3 then
 bif eqL l3 then
 bif eqL s3 then
 Option.bind (p90_4 fu ((l3, m3, (true, (o3, q3, ()), dflt .unit), ()), (o, x, j3, k3, s3, ()), ())) fun ⟨⟨⟨t3, u3, ⟨w3, ⟨x3, y3, _⟩, _⟩, _⟩, _, _⟩, ⟨z3, a4, c4, f4, h4, _⟩⟩ =>
 bif w3 then
 bif eqL t3 then
 some (((t3, u3, (true, (x3, y3, ()), dflt .unit), ()), (), ()), (z3, a4, c4, f4, h4, ()))
 else none
 else
 bif eqL t3 then
 some (((t3, u3, zR0, ()), (), ()), (z3, a4, c4, f4, h4, ()))
 else none
 else none
 else none
 else
 bif eqL l3 then
 bif eqL s3 then
 Option.bind (p90_4 fu ((l3, m3, zR0, ()), (o, x, j3, k3, s3, ()), ())) fun ⟨⟨⟨i4, j4, ⟨k4, ⟨l4, m4, _⟩, _⟩, _⟩, _, _⟩, ⟨n4, o4, q4, s4, t4, _⟩⟩ =>
 bif k4 then
 bif eqL i4 then
 some (((i4, j4, (true, (l4, m4, ()), dflt .unit), ()), (), ()), (n4, o4, q4, s4, t4, ()))
 else none
 else
 bif eqL i4 then
 some (((i4, j4, zR0, ()), (), ()), (n4, o4, q4, s4, t4, ()))
 else none
 else none
 else none
 else none
 else
 bif eqL a3 then
 Option.bind (p67_2 fu ((a3, c3, zR0, ()), (262144 : Int), ())) fun ⟨⟨⟨u4, w4, ⟨x4, ⟨y4, z4, _⟩, _⟩, _⟩, _, _⟩, a5⟩ =>
 bif x4 then
 bif eqL u4 then
 bif eqL a5 then
 Option.bind (p90_4 fu ((u4, w4, (true, (y4, z4, ()), dflt .unit), ()), (o, x, j3, k3, a5, ()), ())) fun ⟨⟨⟨c5, f5, ⟨h5, ⟨i5, j5, _⟩, _⟩, _⟩, _, _⟩, ⟨k5, l5, m5, n5, o5, _⟩⟩ =>
 bif h5 then
 bif eqL c5 then
 some (((c5, f5, (true, (i5, j5, ()), dflt .unit), ()), (), ()), (k5, l5, m5, n5, o5, ()))
 else none
 else
 bif eqL c5 then
 some (((c5, f5, zR0, ()), (), ()), (k5, l5, m5, n5, o5, ()))
 else none
 else none
 else none
 else
 bif eqL u4 then
 bif eqL a5 then
 Option.bind (p90_4 fu ((u4, w4, zR0, ()), (o, x, j3, k3, a5, ()), ())) fun ⟨⟨⟨q5, s5, ⟨t5, ⟨u5, w5, _⟩, _⟩, _⟩, _, _⟩, ⟨x5, y5, z5, a6, c6, _⟩⟩ =>
 bif t5 then
 bif eqL q5 then
 some (((q5, s5, (true, (u5, w5, ()), dflt .unit), ()), (), ()), (x5, y5, z5, a6, c6, ()))
 else none
 else
 bif eqL q5 then
 some (((q5, s5, zR0, ()), (), ()), (x5, y5, z5, a6, c6, ()))
 else none
 else none
 else none
 else none
 else none
 else none
 else
 bif eqL j then
 Option.bind (p15_2 fu ((j, k, zR0, ()), ())) fun ⟨⟨⟨f6, h6, ⟨i6, ⟨j6, k6, _⟩, _⟩, _⟩, _, _⟩, l6⟩ =>
 bif i6 then
 bif eqL f6 then
 Option.bind (p71_2 fu ((f6, h6, (true, (j6, k6, ()), dflt .unit), ()), ())) fun ⟨⟨⟨m6, n6, ⟨o6, ⟨q6, s6, _⟩, _⟩, _⟩, _, _⟩, ⟨t6, u6, _⟩⟩ =>
 bif o6 then
 bif eqL m6 then
 Option.bind (p67_2 fu ((m6, n6, (true, (q6, s6, ()), dflt .unit), ()), (262144 : Int), ())) fun ⟨⟨⟨w6, x6, ⟨y6, ⟨z6, a7, _⟩, _⟩, _⟩, _, _⟩, c7⟩ =>
 bif y6 then
 bif eqL w6 then
 bif eqL c7 then
 Option.bind (p90_4 fu ((w6, x6, (true, (z6, a7, ()), dflt .unit), ()), (o, l6, t6, u6, c7, ()), ())) fun ⟨⟨⟨f7, h7, ⟨i7, ⟨j7, k7, _⟩, _⟩, _⟩, _, _⟩, ⟨l7, m7, n7, o7, q7, _⟩⟩ =>
 bif i7 then
 bif eqL f7 then
 some (((f7, h7, (true, (j7, k7, ()), dflt .unit), ()), (), ()), (l7, m7, n7, o7, q7, ()))
 else none
 else
 bif eqL f7 then
 some (((f7, h7, zR0, ()), (), ()), (l7, m7, n7, o7, q7, ()))
 else none
 else none
 else none
 else
 bif eqL w6 then
 bif eqL c7 then
 Option.bind (p90_4 fu ((w6, x6, zR0, ()), (o, l6, t6, u6, c7, ()), ())) fun ⟨⟨⟨s7, t7, ⟨u7, ⟨w7, x7, _⟩, _⟩, _⟩, _, _⟩, ⟨y7, z7, a8, c8, f8, _⟩⟩ =>
 bif u7 then
 bif eqL s7 then
 some (((s7, t7, (true, (w7, x7, ()), dflt .unit), ()), (), ()), (y7, z7, a8, c8, f8, ()))
 else none
 else
 bif eqL s7 then
 some (((s7, t7, zR0, ()), (), ()), (y7, z7, a8, c8, f8, ()))
 else none
 else none
 else none
 else none
 else
 bif eqL m6 then
 Option.bind (p67_2 fu ((m6, n6, zR0, ()), (262144 : Int), ())) fun ⟨⟨⟨h8, i8, ⟨j8, ⟨k8, l8, _⟩, _⟩, _⟩, _, _⟩, m8⟩ =>
 bif j8 then
 bif eqL h8 then
 bif eqL m8 then
 Option.bind (p90_4 fu ((h8, i8, (true, (k8, l8, ()), dflt .unit), ()), (o, l6, t6, u6, m8, ()), ())) fun ⟨⟨⟨n8, o8, ⟨q8, ⟨s8, t8, _⟩, _⟩, _⟩, _, _⟩, ⟨u8, w8, x8, y8, z8, _⟩⟩ =>
 bif q8 then
 bif eqL n8 then
 some (((n8, o8, (true, (s8, t8, ()), dflt .unit), ()), (), ()), (u8, w8, x8, y8, z8, ()))
 else none
 else
 bif eqL n8 then
 some (((n8, o8, zR0, ()), (), ()), (u8, w8, x8, y8, z8, ()))
 else none
 else none
 else none
 else
 bif eqL h8 then
 bif eqL m8 then
 Option.bind (p90_4 fu ((h8, i8, zR0, ()), (o, l6, t6, u6, m8, ()), ())) fun ⟨⟨⟨a9, c9, ⟨f9, ⟨h9, i9, _⟩, _⟩, _⟩, _, _⟩, ⟨j9, k9, l9, m9, n9, _⟩⟩ =>
 bif f9 then
 bif eqL a9 then
 some (((a9, c9, (true, (h9, i9, ()), dflt .unit), ()), (), ()), (j9, k9, l9, m9, n9, ()))
 else none
 else
 bif eqL a9 then
 some (((a9, c9, zR0, ()), (), ()), (j9, k9, l9, m9, n9, ()))
 else none
 else none
 else none
 else none
 else none
 else
 bif eqL f6 then
 Option.bind (p71_2 fu ((f6, h6, zR0, ()), ())) fun ⟨⟨⟨o9, q9, ⟨s9, ⟨t9, u9, _⟩, _⟩, _⟩, _, _⟩, ⟨w9, x9, _⟩⟩ =>
 bif s9 then
 bif eqL o9 then
 Option.bind (p67_2 fu ((o9, q9, (true, (t9, u9, ()), dflt .unit), ()), (262144 : Int), ())) fun ⟨⟨⟨y9, z9, ⟨a10, ⟨c10, f10, _⟩, _⟩, _⟩, _, _⟩, h10⟩ =>
 bif a10 then
 bif eqL y9 then
 bif eqL h10 then
 Option.bind (p90_4 fu ((y9, z9, (true, (c10, f10, ()), dflt .unit), ()), (o, l6, w9, x9, h10, ()), ())) fun ⟨⟨⟨i10, j10, ⟨k10, ⟨l10, m10, _⟩, _⟩, _⟩, _, _⟩, ⟨n10, o10, q10, s10, t10, _⟩⟩ =>
 bif k10 then
 bif eqL i10 then
 some (((i10, j10, (true, (l10, m10, ()), dflt .unit), ()), (), ()), (n10, o10, q10, s10, t10, ()))
 else none
 else
 bif eqL i10 then
 some (((i10, j10, zR0, ()), (), ()), (n10, o10, q10, s10, t10, ()))
 else none
 else none
 else none
 else
 bif eqL y9 then
 bif eqL h10 then
 Option.bind (p90_4 fu ((y9, z9, zR0, ()), (o, l6, w9, x9, h10, ()), ())) fun ⟨⟨⟨u10, w10, ⟨x10, ⟨y10, z10, _⟩, _⟩, _⟩, _, _⟩, ⟨a11, c11, f11, h11, i11, _⟩⟩ =>
 bif x10 then
 bif eqL u10 then
 some (((u10, w10, (true, (y10, z10, ()), dflt .unit), ()), (), ()), (a11, c11, f11, h11, i11, ()))
 else none
 else
 bif eqL u10 then
 some (((u10, w10, zR0, ()), (), ()), (a11, c11, f11, h11, i11, ()))
 else none
 else none
 else none
 else none
 else
 bif eqL o9 then
 Option.bind (p67_2 fu ((o9, q9, zR0, ()), (262144 : Int), ())) fun ⟨⟨⟨j11, k11, ⟨l11, ⟨m11, n11, _⟩, _⟩, _⟩, _, _⟩, o11⟩ =>
 bif l11 then
 bif eqL j11 then
 bif eqL o11 then
 Option.bind (p90_4 fu ((j11, k11, (true, (m11, n11, ()), dflt .unit), ()), (o, l6, w9, x9, o11, ()), ())) fun ⟨⟨⟨q11, s11, ⟨t11, ⟨u11, w11, _⟩, _⟩, _⟩, _, _⟩, ⟨x11, y11, z11, a12, c12, _⟩⟩ =>
 bif t11 then
 bif eqL q11 then
 some (((q11, s11, (true, (u11, w11, ()), dflt .unit), ()), (), ()), (x11, y11, z11, a12, c12, ()))
 else none
 else
 bif eqL q11 then
 some (((q11, s11, zR0, ()), (), ()), (x11, y11, z11, a12, c12, ()))
 else none
 else none
 else none
 else
 bif eqL j11 then
 bif eqL o11 then
 Option.bind (p90_4 fu ((j11, k11, zR0, ()), (o, l6, w9, x9, o11, ()), ())) fun ⟨⟨⟨f12, h12, ⟨i12, ⟨j12, k12, _⟩, _⟩, _⟩, _, _⟩, ⟨l12, m12, n12, o12, q12, _⟩⟩ =>
 bif i12 then
 bif eqL f12 then
 some (((f12, h12, (true, (j12, k12, ()), dflt .unit), ()), (), ()), (l12, m12, n12, o12, q12, ()))
 else none
 else
 bif eqL f12 then
 some (((f12, h12, zR0, ()), (), ()), (l12, m12, n12, o12, q12, ()))
 else none
 else none
 else none
 else none
 else none
 else none
 else none
else
 bif eqL a then
 Option.bind (p15_2 fu ((a, c, zR0, ()), ())) fun ⟨⟨⟨s12, t12, ⟨u12, ⟨w12, x12, _⟩, _⟩, _⟩, _, _⟩, y12⟩ =>
 bif u12 then
 bif eqL s12 then
 Option.bind (p15_2 fu ((s12, t12, (true, (w12, x12, ()), dflt .unit), ()), ())) fun ⟨⟨⟨z12, a13, ⟨c13, ⟨f13, h13, _⟩, _⟩, _⟩, _, _⟩, i13⟩ =>
 bif c13 then
 bif eqL z12 then
 Option.bind (p71_2 fu ((z12, a13, (true, (f13, h13, ()), dflt .unit), ()), ())) fun ⟨⟨⟨j13, k13, ⟨l13, ⟨m13, n13, _⟩, _⟩, _⟩, _, _⟩, ⟨o13, q13, _⟩⟩ =>
 bif l13 then
 bif eqL j13 then
 Option.bind (p67_2 fu ((j13, k13, (true, (m13, n13, ()), dflt .unit), ()), (262144 : Int), ())) fun ⟨⟨⟨s13, t13, ⟨u13, ⟨w13, x13, _⟩, _⟩, _⟩, _, _⟩, y13⟩ =>
 bif u13 then
 bif eqL s13 then
 bif eqL y13 then
 Option.bind (p90_4 fu ((s13, t13, (true, (w13, x13, ()), dflt .unit), ()), (y12, i13, o13, q13, y13, ()), ())) fun ⟨⟨⟨z13, a14, ⟨c14, ⟨f14, h14, _⟩, _⟩, _⟩, _, _⟩, ⟨i14, j14, k14, l14, m14, _⟩⟩ =>
 bif c14 then
 bif eqL z13 then
 some (((z13, a14, (true, (f14, h14, ()), dflt .unit), ()), (), ()), (i14, j14, k14, l14, m14, ()))
 else none
 else
 bif eqL z13 then
 some (((z13, a14, zR0, ()), (), ()), (i14, j14, k14, l14, m14, ()))
 else none
 else none
 else none
 else
 bif eqL s13 then
 bif eqL y13 then
 Option.bind (p90_4 fu ((s13, t13, zR0, ()), (y12, i13, o13, q13, y13, ()), ())) fun ⟨⟨⟨n14, o14, ⟨q14, ⟨s14, t14, _⟩, _⟩, _⟩, _, _⟩, ⟨u14, w14, x14, y14, z14, _⟩⟩ =>
 bif q14 then
 bif eqL n14 then
 some (((n14, o14, (true, (s14, t14, ()), dflt .unit), ()), (), ()), (u14, w14, x14, y14, z14, ()))
 else none
 else
 bif eqL n14 then
 some (((n14, o14, zR0, ()), (), ()), (u14, w14, x14, y14, z14, ()))
 else none
 else none
 else none
 else none
 else
 bif eqL j13 then
 Option.bind (p67_2 fu ((j13, k13, zR0, ()), (262144 : Int), ())) fun ⟨⟨⟨a15, c15, ⟨f15, ⟨h15, i15, _⟩, _⟩, _⟩, _, _⟩, j15⟩ =>
 bif f15 then
 bif eqL a15 then
 bif eqL j15 then
 Option.bind (p90_4 fu ((a15, c15, (true, (h15, i15, ()), dflt .unit), ()), (y12, i13, o13, q13, j15, ()), ())) fun ⟨⟨⟨k15, l15, ⟨m15, ⟨n15, o15, _⟩, _⟩, _⟩, _, _⟩, ⟨q15, s15, t15, u15, w15, _⟩⟩ =>
 bif m15 then
 bif eqL k15 then
 some (((k15, l15, (true, (n15, o15, ()), dflt .unit), ()), (), ()), (q15, s15, t15, u15, w15, ()))
 else none
 else
 bif eqL k15 then
 some (((k15, l15, zR0, ()), (), ()), (q15, s15, t15, u15, w15, ()))
 else none
 else none
 else none
 else
 bif eqL a15 then
 bif eqL j15 then
 Option.bind (p90_4 fu ((a15, c15, zR0, ()), (y12, i13, o13, q13, j15, ()), ())) fun ⟨⟨⟨x15, y15, ⟨z15, ⟨a16, c16, _⟩, _⟩, _⟩, _, _⟩, ⟨f16, h16, i16, j16, k16, _⟩⟩ =>
 bif z15 then
 bif eqL x15 then
 some (((x15, y15, (true, (a16, c16, ()), dflt .unit), ()), (), ()), (f16, h16, i16, j16, k16, ()))
 else none
 else
 bif eqL x15 then
 some (((x15, y15, zR0, ()), (), ()), (f16, h16, i16, j16, k16, ()))
 else none
 else none
 else none
 else none
 else none
 else
 bif eqL z12 then
 Option.bind (p71_2 fu ((z12, a13, zR0, ()), ())) fun ⟨⟨⟨l16, m16, ⟨n16, ⟨o16, q16, _⟩, _⟩, _⟩, _, _⟩, ⟨s16, t16, _⟩⟩ =>
 bif n16 then
 bif eqL l16 then
 Option.bind (p67_2 fu ((l16, m16, (true, (o16, q16, ()), dflt .unit), ()), (262144 : Int), ())) fun ⟨⟨⟨u16, w16, ⟨x16, ⟨y16, z16, _⟩, _⟩, _⟩, _, _⟩, a17⟩ =>
 bif x16 then
 bif eqL u16 then
 bif eqL a17 then
 Option.bind (p90_4 fu ((u16, w16, (true, (y16, z16, ()), dflt .unit), ()), (y12, i13, s16, t16, a17, ()), ())) fun ⟨⟨⟨c17, f17, ⟨h17, ⟨i17, j17, _⟩, _⟩, _⟩, _, _⟩, ⟨k17, l17, m17, n17, o17, _⟩⟩ =>
 bif h17 then
 bif eqL c17 then
 some (((c17, f17, (true, (i17, j17, ()), dflt .unit), ()), (), ()), (k17, l17, m17, n17, o17, ()))
 else none
 else
 bif eqL c17 then
 some (((c17, f17, zR0, ()), (), ()), (k17, l17, m17, n17, o17, ()))
 else none
 else none
 else none
 else
 bif eqL u16 then
 bif eqL a17 then
 Option.bind (p90_4 fu ((u16, w16, zR0, ()), (y12, i13, s16, t16, a17, ()), ())) fun ⟨⟨⟨q17, s17, ⟨t17, ⟨u17, w17, _⟩, _⟩, _⟩, _, _⟩, ⟨x17, y17, z17, a18, c18, _⟩⟩ =>
 bif t17 then
 bif eqL q17 then
 some (((q17, s17, (true, (u17, w17, ()), dflt .unit), ()), (), ()), (x17, y17, z17, a18, c18, ()))
 else none
 else
 bif eqL q17 then
 some (((q17, s17, zR0, ()), (), ()), (x17, y17, z17, a18, c18, ()))
 else none
 else none
 else none
 else none
 else
 bif eqL l16 then
 Option.bind (p67_2 fu ((l16, m16, zR0, ()), (262144 : Int), ())) fun ⟨⟨⟨f18, h18, ⟨i18, ⟨j18, k18, _⟩, _⟩, _⟩, _, _⟩, l18⟩ =>
 bif i18 then
 bif eqL f18 then
 bif eqL l18 then
 Option.bind (p90_4 fu ((f18, h18, (true, (j18, k18, ()), dflt .unit), ()), (y12, i13, s16, t16, l18, ()), ())) fun ⟨⟨⟨m18, n18, ⟨o18, ⟨q18, s18, _⟩, _⟩, _⟩, _, _⟩, ⟨t18, u18, w18, x18, y18, _⟩⟩ =>
 bif o18 then
 bif eqL m18 then
 some (((m18, n18, (true, (q18, s18, ()), dflt .unit), ()), (), ()), (t18, u18, w18, x18, y18, ()))
 else none
 else
 bif eqL m18 then
 some (((m18, n18, zR0, ()), (), ()), (t18, u18, w18, x18, y18, ()))
 else none
 else none
 else none
 else
 bif eqL f18 then
 bif eqL l18 then
 Option.bind (p90_4 fu ((f18, h18, zR0, ()), (y12, i13, s16, t16, l18, ()), ())) fun ⟨⟨⟨z18, a19, ⟨c19, ⟨f19, h19, _⟩, _⟩, _⟩, _, _⟩, ⟨i19, j19, k19, l19, m19, _⟩⟩ =>
 bif c19 then
 bif eqL z18 then
 some (((z18, a19, (true, (f19, h19, ()), dflt .unit), ()), (), ()), (i19, j19, k19, l19, m19, ()))
 else none
 else
 bif eqL z18 then
 some (((z18, a19, zR0, ()), (), ()), (i19, j19, k19, l19, m19, ()))
 else none
 else none
 else none
 else none
 else none
 else none
 else
 bif eqL s12 then
 Option.bind (p15_2 fu ((s12, t12, zR0, ()), ())) fun ⟨⟨⟨n19, o19, ⟨q19, ⟨s19, t19, _⟩, _⟩, _⟩, _, _⟩, u19⟩ =>
 bif q19 then
 bif eqL n19 then
 Option.bind (p71_2 fu ((n19, o19, (true, (s19, t19, ()), dflt .unit), ()), ())) fun ⟨⟨⟨w19, x19, ⟨y19, ⟨z19, a20, _⟩, _⟩, _⟩, _, _⟩, ⟨c20, f20, _⟩⟩ =>
 bif y19 then
 bif eqL w19 then
 Option.bind (p67_2 fu ((w19, x19, (true, (z19, a20, ()), dflt .unit), ()), (262144 : Int), ())) fun ⟨⟨⟨h20, i20, ⟨j20, ⟨k20, l20, _⟩, _⟩, _⟩, _, _⟩, m20⟩ =>
 bif j20 then
 bif eqL h20 then
 bif eqL m20 then
 Option.bind (p90_4 fu ((h20, i20, (true, (k20, l20, ()), dflt .unit), ()), (y12, u19, c20, f20, m20, ()), ())) fun ⟨⟨⟨n20, o20, ⟨q20, ⟨s20, t20, _⟩, _⟩, _⟩, _, _⟩, ⟨u20, w20, x20, y20, z20, _⟩⟩ =>
 bif q20 then
 bif eqL n20 then
 some (((n20, o20, (true, (s20, t20, ()), dflt .unit), ()), (), ()), (u20, w20, x20, y20, z20, ()))
 else none
 else
 bif eqL n20 then
 some (((n20, o20, zR0, ()), (), ()), (u20, w20, x20, y20, z20, ()))
 else none
 else none
 else none
 else
 bif eqL h20 then
 bif eqL m20 then
 Option.bind (p90_4 fu ((h20, i20, zR0, ()), (y12, u19, c20, f20, m20, ()), ())) fun ⟨⟨⟨a21, c21, ⟨f21, ⟨h21, i21, _⟩, _⟩, _⟩, _, _⟩, ⟨j21, k21, l21, m21, n21, _⟩⟩ =>
 bif f21 then
 bif eqL a21 then
 some (((a21, c21, (true, (h21, i21, ()), dflt .unit), ()), (), ()), (j21, k21, l21, m21, n21, ()))
 else none
 else
 bif eqL a21 then
 some (((a21, c21, zR0, ()), (), ()), (j21, k21, l21, m21, n21, ()))
 else none
 else none
 else none
 else none
 else
 bif eqL w19 then
 Option.bind (p67_2 fu ((w19, x19, zR0, ()), (262144 : Int), ())) fun ⟨⟨⟨o21, q21, ⟨s21, ⟨t21, u21, _⟩, _⟩, _⟩, _, _⟩, w21⟩ =>
 bif s21 then
 bif eqL o21 then
 bif eqL w21 then
 Option.bind (p90_4 fu ((o21, q21, (true, (t21, u21, ()), dflt .unit), ()), (y12, u19, c20, f20, w21, ()), ())) fun ⟨⟨⟨x21, y21, ⟨z21, ⟨a22, c22, _⟩, _⟩, _⟩, _, _⟩, ⟨f22, h22, i22, j22, k22, _⟩⟩ =>
 bif z21 then
 bif eqL x21 then
 some (((x21, y21, (true, (a22, c22, ()), dflt .unit), ()), (), ()), (f22, h22, i22, j22, k22, ()))
 else none
 else
 bif eqL x21 then
 some (((x21, y21, zR0, ()), (), ()), (f22, h22, i22, j22, k22, ()))
 else none
 else none
 else none
 else
 bif eqL o21 then
 bif eqL w21 then
 Option.bind (p90_4 fu ((o21, q21, zR0, ()), (y12, u19, c20, f20, w21, ()), ())) fun ⟨⟨⟨l22, m22, ⟨n22, ⟨o22, q22, _⟩, _⟩, _⟩, _, _⟩, ⟨s22, t22, u22, w22, x22, _⟩⟩ =>
 bif n22 then
 bif eqL l22 then
 some (((l22, m22, (true, (o22, q22, ()), dflt .unit), ()), (), ()), (s22, t22, u22, w22, x22, ()))
 else none
 else
 bif eqL l22 then
 some (((l22, m22, zR0, ()), (), ()), (s22, t22, u22, w22, x22, ()))
 else none
 else none
 else none
 else none
 else none
 else
 bif eqL n19 then
 Option.bind (p71_2 fu ((n19, o19, zR0, ()), ())) fun ⟨⟨⟨y22, z22, ⟨a23, ⟨c23, f23, _⟩, _⟩, _⟩, _, _⟩, ⟨h23, i23, _⟩⟩ =>
 bif a23 then
 bif eqL y22 then
 Option.bind (p67_2 fu ((y22, z22, (true, (c23, f23, ()), dflt .unit), ()), (262144 : Int), ())) fun ⟨⟨⟨j23, k23, ⟨l23, ⟨m23, n23, _⟩, _⟩, _⟩, _, _⟩, o23⟩ =>
 bif l23 then
 bif eqL j23 then
 bif eqL o23 then
 Option.bind (p90_4 fu ((j23, k23, (true, (m23, n23, ()), dflt .unit), ()), (y12, u19, h23, i23, o23, ()), ())) fun ⟨⟨⟨q23, s23, ⟨t23, ⟨u23, w23, _⟩, _⟩, _⟩, _, _⟩, ⟨x23, y23, z23, a24, c24, _⟩⟩ =>
 bif t23 then
 bif eqL q23 then
 some (((q23, s23, (true, (u23, w23, ()), dflt .unit), ()), (), ()), (x23, y23, z23, a24, c24, ()))
 else none
 else
 bif eqL q23 then
 some (((q23, s23, zR0, ()), (), ()), (x23, y23, z23, a24, c24, ()))
 else none
 else none
 else none
 else
 bif eqL j23 then
 bif eqL o23 then
 Option.bind (p90_4 fu ((j23, k23, zR0, ()), (y12, u19, h23, i23, o23, ()), ())) fun ⟨⟨⟨f24, h24, ⟨i24, ⟨j24, k24, _⟩, _⟩, _⟩, _, _⟩, ⟨l24, m24, n24, o24, q24, _⟩⟩ =>
 bif i24 then
 bif eqL f24 then
 some (((f24, h24, (true, (j24, k24, ()), dflt .unit), ()), (), ()), (l24, m24, n24, o24, q24, ()))
 else none
 else
 bif eqL f24 then
 some (((f24, h24, zR0, ()), (), ()), (l24, m24, n24, o24, q24, ()))
 else none
 else none
 else none
 else none
 else
 bif eqL y22 then
 Option.bind (p67_2 fu ((y22, z22, zR0, ()), (262144 : Int), ())) fun ⟨⟨⟨s24, t24, ⟨u24, ⟨w24, x24, _⟩, _⟩, _⟩, _, _⟩, y24⟩ =>
 bif u24 then
 bif eqL s24 then
 bif eqL y24 then
 Option.bind (p90_4 fu ((s24, t24, (true, (w24, x24, ()), dflt .unit), ()), (y12, u19, h23, i23, y24, ()), ())) fun ⟨⟨⟨z24, a25, ⟨c25, ⟨f25, h25, _⟩, _⟩, _⟩, _, _⟩, ⟨i25, j25, k25, l25, m25, _⟩⟩ =>
 bif c25 then
 bif eqL z24 then
 some (((z24, a25, (true, (f25, h25, ()), dflt .unit), ()), (), ()), (i25, j25, k25, l25, m25, ()))
 else none
 else
 bif eqL z24 then
 some (((z24, a25, zR0, ()), (), ()), (i25, j25, k25, l25, m25, ()))
 else none
 else none
 else none
 else
 bif eqL s24 then
 bif eqL y24 then
 Option.bind (p90_4 fu ((s24, t24, zR0, ()), (y12, u19, h23, i23, y24, ()), ())) fun ⟨⟨⟨n25, o25, ⟨q25, ⟨s25, t25, _⟩, _⟩, _⟩, _, _⟩, ⟨u25, w25, x25, y25, z25, _⟩⟩ =>
 bif q25 then
 bif eqL n25 then
 some (((n25, o25, (true, (s25, t25, ()), dflt .unit), ()), (), ()), (u25, w25, x25, y25, z25, ()))
 else none
 else
 bif eqL n25 then
 some (((n25, o25, zR0, ()), (), ()), (u25, w25, x25, y25, z25, ()))
 else none
 else none
 else none
 else none
 else none
 else none
 else none
def e49_2 (fu : Nat) : Ent := ⟨49, (.cons Y3 .nil), (.cons Y0 (.cons .dead .nil)), Y7, p49_2 fu⟩
def d49_2 (fu : Nat) : DC := (.seq (.region [opD 2 (.alloc 37 5 [vU, vU, vS, vS, vS])] [[]] false) (.seq (.region [mvD 3 0, mvD 4 0, oqD 5 (.call 15 [(tD 4)]) (.ent (e15_2 fu)), mvD 6 0, oqD 7 (.call 15 [(tD 6)]) (.ent (e15_2 fu)), mvD 8 0, oqD 9 (.call 71 [(tD 8)]) (.ent (e71_2 fu)), mvD 10 0, oqD 11 (.call 67 [(tD 10), (cD 262144)]) (.ent (e67_2 fu)), opD 12 (.build 5 [vU, vU, vS, vS, vS] [(0, (1, (tD 5))), (1, (1, (tD 7))), (2, (2, (tD 9))), (4, (1, (tD 11)))]), oqD 13 (.call 90 [(tD 3), (tD 12)]) (.ent (e90_4 fu)), onD (.store 5 (tD 2) (tD 13))] [[], [], [1], [], [3, 2], [], [5, 4], [], [7, 6], [2, 4, 6, 8], [0, 9, 8], [10, 10, 0, 1, 2, 3, 4, 5, 6, 7, 8, 9, 10]] false) .ret))
set_option maxRecDepth 1000000 in
theorem v49_2 (fu : Nat) : evF fu (d49_2 fu) rs49 14 (e49_2 fu).ash (e49_2 fu).osh (e49_2 fu).vsh = p49_2 fu := by kernel_rfl
set_option maxRecDepth 1000000 in
theorem b49_2 (fu : Nat) : BodyD Tryd.prog 49 14 (d49_2 fu).erase rs49 := bodyD_mk Tryd.func49 (by kernel_rfl) (by kernel_rfl) (by kernel_rfl) (by kernel_rfl)
theorem g49_2 (fu : Nat) : (e49_2 fu).Good Tryd.prog := good_by orders (b49_2 fu) (l := [e15_2 fu, e15_2 fu, e71_2 fu, e67_2 fu, e90_4 fu]) (by kernel_rfl) ⟨g15_2 fu, g15_2 fu, g71_2 fu, g67_2 fu, g90_4 fu, trivial⟩ (by kernel_rfl) (v49_2 fu)
def rs77 : List RVx := [(.cell 2 true 2)]
/-- (*gazette/codec.Reader).Range -/
def p77_2 (fu : Nat) : ((List (Int)) × ((Int) × (((Bool) × (((Int) × ((Int) × (Unit))) × (Unit))) × (Unit)))) × (Unit) → Option ((((List (Int)) × ((Int) × (((Bool) × (((Int) × ((Int) × (Unit))) × (Unit))) × (Unit)))) × ((Unit) × (Unit))) × ((ByteArray) × ((ByteArray) × (Unit)))) := fun ⟨⟨a, c, ⟨f, ⟨h, i, _⟩, _⟩, _⟩, _⟩ =>
bif f then
 bif eqL a then
 Option.bind (p69_2 fu ((a, c, (true, (h, i, ()), dflt .unit), ()), (32 : Int), ())) fun ⟨⟨⟨j, k, ⟨l, ⟨m, n, _⟩, _⟩, _⟩, _, _⟩, o⟩ =>
 bif l then
 bif eqL j then
 Option.bind (p69_2 fu ((j, k, (true, (m, n, ()), dflt .unit), ()), (32 : Int), ())) fun ⟨⟨⟨q, s, ⟨t, ⟨u, w, _⟩, _⟩, _⟩, _, _⟩, x⟩ =>
 bif t then
 bif eqL q then
 Option.bind (p98_2 fu ((q, s, (true, (u, w, ()), dflt .unit), ()), (o, x, ()), ())) fun ⟨⟨⟨y, z, ⟨a0, ⟨c0, f0, _⟩, _⟩, _⟩, _, _⟩, ⟨h0, i0, _⟩⟩ =>
 bif a0 then
 bif eqL y then
 some (((y, z, (true, (c0, f0, ()), dflt .unit), ()), (), ()), (h0, i0, ()))
 else none
 else
 bif eqL y then
 some (((y, z, zR0, ()), (), ()), (h0, i0, ()))
 else none
 else none
 else
 bif eqL q then
 Option.bind (p98_2 fu ((q, s, zR0, ()), (o, x, ()), ())) fun ⟨⟨⟨j0, k0, ⟨l0, ⟨m0, n0, _⟩, _⟩, _⟩, _, _⟩, ⟨o0, q0, _⟩⟩ =>
 bif l0 then
 bif eqL j0 then
 some (((j0, k0, (true, (m0, n0, ()), dflt .unit), ()), (), ()), (o0, q0, ()))
 else none
 else
 bif eqL j0 then
 some (((j0, k0, zR0, ()), (), ()), (o0, q0, ()))
 else none
 else none
 else none
 else
 bif eqL j then
 Option.bind (p69_2 fu ((j, k, zR0, ()), (32 : Int), ())) fun ⟨⟨⟨s0, t0, ⟨u0, ⟨w0, x0, _⟩, _⟩, _⟩, _, _⟩, y0⟩ =>
 bif u0 then
 bif eqL s0 then
 Option.bind (p98_2 fu ((s0, t0, (true, (w0, x0, ()), dflt .unit), ()), (o, y0, ()), ())) fun ⟨⟨⟨z0, a1, ⟨c1, ⟨f1, h1, _⟩, _⟩, _⟩, _, _⟩, ⟨i1, j1, _⟩⟩ =>
 bif c1 then
 bif eqL z0 then
 some (((z0, a1, (true, (f1, h1, ()), dflt .unit), ()), (), ()), (i1, j1, ()))
 else none
 else
 bif eqL z0 then
 some (((z0, a1, zR0, ()), (), ()), (i1, j1, ()))
 else none
 else none
 else
 bif eqL s0 then
 Option.bind (p98_2 fu ((s0, t0, zR0, ()), (o, y0, ()), ())) fun ⟨⟨⟨k1, l1, ⟨m1, ⟨n1, o1, _⟩, _⟩, _⟩, _, _⟩, ⟨q1, s1, _⟩⟩ =>
 bif m1 then
 bif eqL k1 then
 some (((k1, l1, (true, (n1, o1, ()), dflt .unit), ()), (), ()), (q1, s1, ()))
 else none
 else
 bif eqL k1 then
 some (((k1, l1, zR0, ()), (), ()), (q1, s1, ()))
 else none
 else none
 else none
 else none
else
 bif eqL a then
 Option.bind (p69_2 fu ((a, c, zR0, ()), (32 : Int), ())) fun ⟨⟨⟨t1, u1, ⟨w1, ⟨x1, y1, _⟩, _⟩, _⟩, _, _⟩, z1⟩ =>
 bif w1 then
 bif eqL t1 then
 Option.bind (p69_2 fu ((t1, u1, (true, (x1, y1, ()), dflt .unit), ()), (32 : Int), ())) fun ⟨⟨⟨a2, c2, ⟨f2, ⟨h2, i2, _⟩, _⟩, _⟩, _, _⟩, j2⟩ =>
 bif f2 then
 bif eqL a2 then
 Option.bind (p98_2 fu ((a2, c2, (true, (h2, i2, ()), dflt .unit), ()), (z1, j2, ()), ())) fun ⟨⟨⟨k2, l2, ⟨m2, ⟨n2, o2, _⟩, _⟩, _⟩, _, _⟩, ⟨q2, s2, _⟩⟩ =>
 bif m2 then
 bif eqL k2 then
 some (((k2, l2, (true, (n2, o2, ()), dflt .unit), ()), (), ()), (q2, s2, ()))
 else none
 else
 bif eqL k2 then
 some (((k2, l2, zR0, ()), (), ()), (q2, s2, ()))
 else none
 else none
 else
 bif eqL a2 then
 Option.bind (p98_2 fu ((a2, c2, zR0, ()), (z1, j2, ()), ())) fun ⟨⟨⟨t2, u2, ⟨w2, ⟨x2, y2, _⟩, _⟩, _⟩, _, _⟩, ⟨z2, a3, _⟩⟩ =>
 bif w2 then
 bif eqL t2 then
 some (((t2, u2, (true, (x2, y2, ()), dflt .unit), ()), (), ()), (z2, a3, ()))
 else none
 else
 bif eqL t2 then
 some (((t2, u2, zR0, ()), (), ()), (z2, a3, ()))
 else none
 else none
 else none
 else
 bif eqL t1 then
 Option.bind (p69_2 fu ((t1, u1, zR0, ()), (32 : Int), ())) fun ⟨⟨⟨c3, f3, ⟨h3, ⟨i3, j3, _⟩, _⟩, _⟩, _, _⟩, k3⟩ =>
 bif h3 then
 bif eqL c3 then
 Option.bind (p98_2 fu ((c3, f3, (true, (i3, j3, ()), dflt .unit), ()), (z1, k3, ()), ())) fun ⟨⟨⟨l3, m3, ⟨n3, ⟨o3, q3, _⟩, _⟩, _⟩, _, _⟩, ⟨s3, t3, _⟩⟩ =>
 bif n3 then
 bif eqL l3 then
 some (((l3, m3, (true, (o3, q3, ()), dflt .unit), ()), (), ()), (s3, t3, ()))
 else none
 else
 bif eqL l3 then
 some (((l3, m3, zR0, ()), (), ()), (s3, t3, ()))
 else none
 else none
 else
 bif eqL c3 then
 Option.bind (p98_2 fu ((c3, f3, zR0, ()), (z1, k3, ()), ())) fun ⟨⟨⟨u3, w3, ⟨x3, ⟨y3, z3, _⟩, _⟩, _⟩, _, _⟩, ⟨a4, c4, _⟩⟩ =>
 bif x3 then
 bif eqL u3 then
 some (((u3, w3, (true, (y3, z3, ()), dflt .unit), ()), (), ()), (a4, c4, ()))
 else none
 else
 bif eqL u3 then
 some (((u3, w3, zR0, ()), (), ()), (a4, c4, ()))
 else none
 else none
 else none
 else none
def e77_2 (fu : Nat) : Ent := ⟨77, (.cons Y3 .nil), (.cons Y0 (.cons .dead .nil)), (.agg 2 (.cons (.hole .str) (.cons (.hole .str) .nil))), p77_2 fu⟩
def d77_2 (fu : Nat) : DC := (.seq (.region [opD 2 (.alloc 63 2 [vT, vT])] [[]] false) (.seq (.region [mvD 3 0, mvD 4 0, oqD 5 (.call 69 [(tD 4), (cD 32)]) (.ent (e69_2 fu)), mvD 6 0, oqD 7 (.call 69 [(tD 6), (cD 32)]) (.ent (e69_2 fu)), opD 8 (.build 2 [vT, vT] [(0, (1, (tD 5))), (1, (1, (tD 7)))]), oqD 9 (.call 98 [(tD 3), (tD 8)]) (.ent (e98_2 fu)), onD (.store 2 (tD 2) (tD 9))] [[], [], [1], [], [3, 2], [2, 4], [0, 5, 4], [6, 6, 0, 1, 2, 3, 4, 5, 6]] false) .ret))
set_option maxRecDepth 1000000 in
theorem v77_2 (fu : Nat) : evF fu (d77_2 fu) rs77 10 (e77_2 fu).ash (e77_2 fu).osh (e77_2 fu).vsh = p77_2 fu := by kernel_rfl
set_option maxRecDepth 1000000 in
theorem b77_2 (fu : Nat) : BodyD Tryd.prog 77 10 (d77_2 fu).erase rs77 := bodyD_mk Tryd.func77 (by kernel_rfl) (by kernel_rfl) (by kernel_rfl) (by kernel_rfl)
theorem g77_2 (fu : Nat) : (e77_2 fu).Good Tryd.prog := good_by orders (b77_2 fu) (l := [e69_2 fu, e69_2 fu, e98_2 fu]) (by kernel_rfl) ⟨g69_2 fu, g69_2 fu, g98_2 fu, trivial⟩ (by kernel_rfl) (v77_2 fu)
/-- (*gazette/codec.Reader).Fail -/
def p41_2 (fu : Nat) : ((List (Int)) × ((Int) × (((Bool) × (((Int) × ((Int) × (Unit))) × (Unit))) × (Unit)))) × ((Int) × (Unit)) → Option ((((List (Int)) × ((Int) × (((Bool) × (((Int) × ((Int) × (Unit))) × (Unit))) × (Unit)))) × ((Unit) × (Unit))) × (Unit)) := fun ⟨⟨a, c, ⟨f, ⟨h, i, _⟩, _⟩, _⟩, j, _⟩ =>
bif f then
 bif eqL a then
 Option.bind (p43_2 fu ((a, c, (true, (h, i, ()), dflt .unit), ()), c, j, ())) fun ⟨⟨⟨k, l, ⟨m, ⟨n, o, _⟩, _⟩, _⟩, _, _⟩, _⟩ =>
 bif m then
 bif eqL k then
 some (((k, l, (true, (n, o, ()), dflt .unit), ()), (), ()), ())
 else none
 else
 bif eqL k then
 some (((k, l, zR0, ()), (), ()), ())
 else none
 else none
else
 bif eqL a then
 Option.bind (p43_2 fu ((a, c, zR0, ()), c, j, ())) fun ⟨⟨⟨q, s, ⟨t, ⟨u, w, _⟩, _⟩, _⟩, _, _⟩, _⟩ =>
 bif t then
 bif eqL q then
 some (((q, s, (true, (u, w, ()), dflt .unit), ()), (), ()), ())
 else none
 else
 bif eqL q then
 some (((q, s, zR0, ()), (), ()), ())
 else none
 else none
def e41_2 (fu : Nat) : Ent := ⟨41, (.cons Y3 (.cons (.hole (.int .i64)) .nil)), (.cons Y0 (.cons .dead .nil)), (.tup 0 .nil), p41_2 fu⟩
def d41_2 (fu : Nat) : DC := (.region [mvD 4 0, mvD 5 0, opD 6 (.pure .nilc [(tD 5)]), opD 7 (.faddr 1 (tD 6)), opD 8 (.load false 1 (tD 7)), mvD 9 1, oqD 10 (.call 43 [(tD 4), (tD 8), (tD 9)]) (.ent (e43_2 fu))] [[], [], [1], [2], [3], [], [0, 4, 5]] false)
set_option maxRecDepth 1000000 in
theorem v41_2 (fu : Nat) : evF fu (d41_2 fu) rs41 11 (e41_2 fu).ash (e41_2 fu).osh (e41_2 fu).vsh = p41_2 fu := by kernel_rfl
set_option maxRecDepth 1000000 in
theorem b41_2 (fu : Nat) : BodyD Tryd.prog 41 11 (d41_2 fu).erase rs41 := bodyD_mk Tryd.func41 (by kernel_rfl) (by kernel_rfl) (by kernel_rfl) (by kernel_rfl)
theorem g41_2 (fu : Nat) : (e41_2 fu).Good Tryd.prog := good_by orders (b41_2 fu) (l := [e43_2 fu]) (by kernel_rfl) ⟨g43_2 fu, trivial⟩ (by kernel_rfl) (v41_2 fu)
def rs82 : List RVx := [(.cell 2 true 5)]
/-- (*gazette/codec.Reader).Record -/
def p82_2 (fu : Nat) : ((List (Int)) × ((Int) × (((Bool) × (((Int) × ((Int) × (Unit))) × (Unit))) × (Unit)))) × (Unit) → Option ((((List (Int)) × ((Int) × (((Bool) × (((Int) × ((Int) × (Unit))) × (Unit))) × (Unit)))) × ((Unit) × (Unit))) × ((Int) × ((ByteArray) × ((List (Int)) × ((Int) × ((Int) × (Unit))))))) := fun ⟨⟨a, c, ⟨f, ⟨h, i, _⟩, _⟩, _⟩, _⟩ =>
bif f then
 bif eqL a then
 Option.bind (p15_2 fu ((a, c, (true, (h, i, ()), dflt .unit), ()), ())) fun ⟨⟨⟨j, k, ⟨l, ⟨m, n, _⟩, _⟩, _⟩, _, _⟩, o⟩ =>
 bif l then
 bif eqL j then
 Option.bind (p69_2 fu ((j, k, (true, (m, n, ()), dflt .unit), ()), (32 : Int), ())) fun ⟨⟨⟨q, s, ⟨t, ⟨u, w, _⟩, _⟩, _⟩, _, _⟩, x⟩ =>
 bif t then
 bif eqL q then
 Option.bind (p67_2 fu ((q, s, (true, (u, w, ()), dflt .unit), ()), (256 : Int), ())) fun ⟨⟨⟨y, z, ⟨a0, ⟨c0, f0, _⟩, _⟩, _⟩, _, _⟩, h0⟩ =>
 bif a0 then
 bif eqL y then
 Option.bind (p15_2 fu ((y, z, (true, (c0, f0, ()), dflt .unit), ()), ())) fun ⟨⟨⟨i0, j0, ⟨k0, ⟨l0, m0, _⟩, _⟩, _⟩, _, _⟩, n0⟩ =>
 bif k0 then
 bif eqL i0 then
 Option.bind (p15_2 fu ((i0, j0, (true, (l0, m0, ()), dflt .unit), ()), ())) fun ⟨⟨⟨o0, q0, ⟨s0, ⟨t0, u0, _⟩, _⟩, _⟩, _, _⟩, w0⟩ =>
 bif s0 then
 bif eqL o0 then
 bif eqL h0 then
 Option.bind (p99_4 fu ((o0, q0, (true, (t0, u0, ()), dflt .unit), ()), (o, x, h0, n0, w0, ()), ())) fun ⟨⟨⟨x0, y0, ⟨z0, ⟨a1, c1, _⟩, _⟩, _⟩, _, _⟩, ⟨f1, h1, i1, j1, k1, _⟩⟩ =>
 bif z0 then
 bif eqL x0 then
 some (((x0, y0, (true, (a1, c1, ()), dflt .unit), ()), (), ()), (f1, h1, i1, j1, k1, ()))
 else none
 else
 bif eqL x0 then
 some (((x0, y0, zR0, ()), (), ()), (f1, h1, i1, j1, k1, ()))
 else none
 else none
 else none
 else
 bif eqL o0 then
 bif eqL h0 then
 Option.bind (p99_4 fu ((o0, q0, zR0, ()), (o, x, h0, n0, w0, ()), ())) fun ⟨⟨⟨l1, m1, ⟨n1, ⟨o1, q1, _⟩, _⟩, _⟩, _, _⟩, ⟨s1, t1, u1, w1, x1, _⟩⟩ =>
 bif n1 then
 bif eqL l1 then
 some (((l1, m1, (true, (o1, q1, ()), dflt .unit), ()), (), ()), (s1, t1, u1, w1, x1, ()))
 else none
 else
 bif eqL l1 then
 some (((l1, m1, zR0, ()), (), ()), (s1, t1, u1, w1, x1, ()))
 else none
 else none
 else none
 else none
 else
 bif eqL i0 then
 Option.bind (p15_2 fu ((i0, j0, zR0, ()), ())) fun ⟨⟨⟨y1, z1, ⟨a2, ⟨c2, f2, _⟩, _⟩, _⟩, _, _⟩, h2⟩ =>
 bif a2 then
 bif eqL y1 then
 bif eqL h0 then
 Option.bind (p99_4 fu ((y1, z1, (true, (c2, f2, ()), dflt .unit), ()), (o, x, h0, n0, h2, ()), ())) fun ⟨⟨⟨i2, j2, ⟨k2, ⟨l2, m2, _⟩, _⟩, _⟩, _, _⟩, ⟨n2, o2, q2, s2, t2, _⟩⟩ =>
 bif k2 then
 bif eqL i2 then
 some (((i2, j2, (true, (l2, m2, ()), dflt .unit), ()), (), ()), (n2, o2, q2, s2, t2, ()))
 else none
 else
 bif eqL i2 then
 some (((i2, j2, zR0, ()), (), ()), (n2, o2, q2, s2, t2, ()))
 else none
 else none
 else none
 else
 bif eqL y1 then
 bif eqL h0 then
 Option.bind (p99_4 fu ((y1, z1, zR0, ()), (o, x, h0, n0, h2, ()), ())) fun ⟨⟨⟨u2, w2, ⟨x2, ⟨y2, z2, _⟩, _⟩, _⟩, _, _⟩, ⟨a3, c3, f3, h3, i3, _⟩⟩ =>
 bif x2 then
 bif eqL u2 then
 some (((u2, w2, (true, (y2, z2, ()), dflt .unit), ()), (), ()), (a3, c3, f3, h3, i3, ()))
 else none
 else
 bif eqL u2 then
 some (((u2, w2, zR0, ()), (), ()), (a3, c3, f3, h3, i3, ()))
 else none
 else none
 else none
 else none
 else none
 else
 bif eqL y then
 Option.bind (p15_2 fu ((y, z, zR0, ()), ())) fun ⟨⟨⟨j3, k3, ⟨l3, ⟨m3, n3, _⟩, _⟩, _⟩, _, _⟩, o3⟩ =>
 bif l3 then
 bif eqL j3 then
 Option.bind (p15_2 fu ((j3, k3, (true, (m3, n3, ()), dflt .unit), ()), ())) fun ⟨⟨⟨q3, s3, ⟨t3, ⟨u3, w3, _⟩, _⟩, _⟩, _, _⟩, x3⟩ =>
 bif t3 then
 bif eqL q3 then
 bif eqL h0 then
 Option.bind (p99_4 fu ((q3, s3, (true, (u3, w3, ()), dflt .unit), ()), (o, x, h0, o3, x3, ()), ())) fun ⟨⟨⟨y3, z3, ⟨a4, ⟨c4, f4, _⟩, _⟩, _⟩, _, _⟩, ⟨h4, i4, j4, k4, l4, _⟩⟩ =>
 bif a4 then
 bif eqL y3 then
 some (((y3, z3, (true, (c4, f4, ()), dflt .unit), ()), (), ()), (h4, i4, j4, k4, l4, ()))
 else none
 else
 bif eqL y3 then
 some (((y3, z3, zR0, ()), (), ()), (h4, i4, j4, k4, l4, ()))
 else none
 else none
 else none
 else
 bif eqL q3 then
 bif eqL h0 then
 Option.bind (p99_4 fu ((q3, s3, zR0, ()), (o, x, h0, o3, x3, ()), ())) fun ⟨⟨⟨m4, n4, ⟨o4, ⟨q4, s4, _⟩, _⟩, _⟩, _, _⟩, ⟨t4, u4, w4, x4, y4, _⟩⟩ =>
 bif o4 then
 bif eqL m4 then
 some (((m4, n4, (true, (q4, s4, ()), dflt .unit), ()), (), ()), (t4, u4, w4, x4, y4, ()))
 else none
 else
 bif eqL m4 then
 some (((m4, n4, zR0, ()), (), ()), (t4, u4, w4, x4, y4, ()))
 else none
 else none
 else none
 else none
 else
 bif eqL j3 then
 Option.bind (p15_2 fu ((j3, k3, zR0, ()), ())) fun ⟨⟨⟨z4, a5, ⟨c5, ⟨f5, h5, _⟩, _⟩, _⟩, _, _⟩, i5⟩ =>
 bif c5 then
 bif eqL z4 then
 bif eqL h0 then
 Option.bind (p99_4 fu ((z4, a5, (true, (f5, h5, ()), dflt .unit), ()), (o, x, h0, o3, i5, ()), ())) fun ⟨⟨⟨j5, k5, ⟨l5, ⟨m5, n5, _⟩, _⟩, _⟩, _, _⟩, ⟨o5, q5, s5, t5, u5, _⟩⟩ =>
 bif l5 then
 bif eqL j5 then
 some (((j5, k5, (true, (m5, n5, ()), dflt .unit), ()), (), ()), (o5, q5, s5, t5, u5, ()))
 else none
 else
 bif eqL j5 then
 some (((j5, k5, zR0, ()), (), ()), (o5, q5, s5, t5, u5, ()))
 else none
 else none
 else none
 else
 bif eqL z4 then
 bif eqL h0 then
 Option.bind (p99_4 fu ((z4, a5, zR0, ()), (o, x, h0, o3, i5, ()), ())) fun ⟨⟨⟨w5, x5, ⟨y5, ⟨z5, a6, _⟩, _⟩, _⟩, _, _⟩, ⟨c6, f6, h6, i6, j6, _⟩⟩ =>
 bif y5 then
 bif eqL w5 then
 some (((w5, x5, (true, (z5, a6, ()), dflt .unit), ()), (), ()), (c6, f6, h6, i6, j6, ()))
 else none
 else
 bif eqL w5 then
 some (((w5, x5, zR0, ()), (), ()), (c6, f6, h6, i6, j6, ()))
 else none
 else none
 else none
 else none
 else none
 else none
 else
 bif eqL q then
 Option.bind (p67_2 fu ((q, s, zR0, ()), (256 : Int), ())) fun ⟨⟨⟨k6, l6, ⟨m6, ⟨n6, o6, _⟩, _⟩, _⟩, _, _⟩, q6⟩ =>
 bif m6 then
 bif eqL k6 then
 Option.bind (p15_2 fu ((k6, l6, (true, (n6, o6, ()), dflt .unit), ()), ())) fun ⟨⟨⟨s6, t6, ⟨u6, ⟨w6, x6, _⟩, _⟩, _⟩, _, _⟩, y6⟩ =>
 bif u6 then
 bif eqL s6 then
 Option.bind (p15_2 fu ((s6, t6, (true, (w6, x6, ()), dflt .unit), ()), ())) fun ⟨⟨⟨z6, a7, ⟨c7, ⟨f7, h7, _⟩, _⟩, _⟩, _, _⟩, i7⟩ =>
 bif c7 then
 bif eqL z6 then
 bif eqL q6 then
 Option.bind (p99_4 fu ((z6, a7, (true, (f7, h7, ()), dflt .unit), ()), (o, x, q6, y6, i7, ()), ())) fun ⟨⟨⟨j7, k7, ⟨l7, ⟨m7, n7, _⟩, _⟩, _⟩, _, _⟩, ⟨o7, q7, s7, t7, u7, _⟩⟩ =>
 bif l7 then
 bif eqL j7 then
 some (((j7, k7, (true, (m7, n7, ()), dflt .unit), ()), (), ()), (o7, q7, s7, t7, u7, ()))
 else none
 else
 bif eqL j7 then
 some (((j7, k7, zR0, ()), (), ()), (o7, q7, s7, t7, u7, ()))
 else none
 else none
 else none
 else
 bif eqL z6 then
 bif eqL q6 then
 Option.bind (p99_4 fu ((z6, a7, zR0, ()), (o, x, q6, y6, i7, ()), ())) fun ⟨⟨⟨w7, x7, ⟨y7, ⟨z7, a8, _⟩, _⟩, _⟩, _, _⟩, ⟨c8, f8, h8, i8, j8, _⟩⟩ =>
 bif y7 then
 bif eqL w7 then
 some (((w7, x7, (true, (z7, a8, ()), dflt .unit), ()), (), ()), (c8, f8, h8, i8, j8, ()))
 else none
 else
 bif eqL w7 then
 some (((w7, x7, zR0, ()), (), ()), (c8, f8, h8, i8, j8, ()))
 else none
 else none
 else none
 else none
 else
 bif eqL s6 then
 Option.bind (p15_2 fu ((s6, t6, zR0, ()), ())) fun ⟨⟨⟨k8, l8, ⟨m8, ⟨n8, o8, _⟩, _⟩, _⟩, _, _⟩, q8⟩ =>
 bif m8 then
 bif eqL k8 then
 bif eqL q6 then
 Option.bind (p99_4 fu ((k8, l8, (true, (n8, o8, ()), dflt .unit), ()), (o, x, q6, y6, q8, ()), ())) fun ⟨⟨⟨s8, t8, ⟨u8, ⟨w8, x8, _⟩, _⟩, _⟩, _, _⟩, ⟨y8, z8, a9, c9, f9, _⟩⟩ =>
 bif u8 then
 bif eqL s8 then
 some (((s8, t8, (true, (w8, x8, ()), dflt .unit), ()), (), ()), (y8, z8, a9, c9, f9, ()))
 else none
 else
 bif eqL s8 then
 some (((s8, t8, zR0, ()), (), ()), (y8, z8, a9, c9, f9, ()))
 else none
 else none
 else none
 else
 bif eqL k8 then
 bif eqL q6 then
 Option.bind (p99_4 fu ((k8, l8, zR0, ()), (o, x, q6, y6, q8, ()), ())) fun ⟨⟨⟨h9, i9, ⟨j9, ⟨k9, l9, _⟩, _⟩, _⟩, _, _⟩, ⟨m9, n9, o9, q9, s9, _⟩⟩ =>
 bif j9 then
 bif eqL h9 then
 some (((h9, i9, (true, (k9, l9, ()), dflt .unit), ()), (), ()), (m9, n9, o9, q9, s9, ()))
 else none
 else
 bif eqL h9 then
 some (((h9, i9, zR0, ()), (), ()), (m9, n9, o9, q9, s9, ()))
 else none
 else none
 else none
 else none
 else none
 else
 bif eqL k6 then
 Option.bind (p15_2 fu ((k6, l6, zR0, ()), ())) fun ⟨⟨⟨t9, u9, ⟨w9, ⟨x9, y9, _⟩, _⟩, _⟩, _, _⟩, z9⟩ =>
 bif w9 then
 bif eqL t9 then
 Option.bind (p15_2 fu ((t9, u9, (true, (x9, y9, ()), dflt .unit), ()), ())) fun ⟨⟨⟨a10, c10, ⟨f10, ⟨h10, i10, _⟩, _⟩, _⟩, _, _⟩, j10⟩ =>
 bif f10 then
 bif eqL a10 then
 bif eqL q6 then
 Option.bind (p99_4 fu ((a10, c10, (true, (h10, i10, ()), dflt .unit), ()), (o, x, q6, z9, j10, ()), ())) fun ⟨⟨⟨k10, l10, ⟨m10, ⟨n10, o10, _⟩, _⟩, _⟩, _, _⟩, ⟨q10, s10, t10, u10, w10, _⟩⟩ =>
 bif m10 then
 bif eqL k10 then
 some (((k10, l10, (true, (n10, o10, ()), dflt .unit), ()), (), ()), (q10, s10, t10, u10, w10, ()))
 else none
 else
 bif eqL k10 then
 some (((k10, l10, zR0, ()), (), ()), (q10, s10, t10, u10, w10, ()))
 else none
 else none
 else none
 else
 bif eqL a10 then
 bif eqL q6 then
 Option.bind (p99_4 fu ((a10, c10, zR0, ()), (o, x, q6, z9, j10, ()), ())) fun ⟨⟨⟨x10, y10, ⟨z10, ⟨a11, c11, _⟩, _⟩, _⟩, _, _⟩, ⟨f11, h11, i11, j11, k11, _⟩⟩ =>
 bif z10 then
 bif eqL x10 then
 some (((x10, y10, (true, (a11, c11, ()), dflt .unit), ()), (), ()), (f11, h11, i11, j11, k11, ()))
 else none
 else
 bif eqL x10 then
 some (((x10, y10, zR0, ()), (), ()), (f11, h11, i11, j11, k11, ()))
 else none
 else none
 else none
 else none
 else
 bif eqL t9 then
 Option.bind (p15_2 fu ((t9, u9, zR0, ()), ())) fun ⟨⟨⟨l11, m11, ⟨n11, ⟨o11, q11, _⟩, _⟩, _⟩, _, _⟩, s11⟩ =>
 bif n11 then
 bif eqL l11 then
 bif eqL q6 then
 Option.bind (p99_4 fu ((l11, m11, (true, (o11, q11, ()), dflt .unit), ()), (o, x, q6, z9, s11, ()), ())) fun ⟨⟨⟨t11, u11, ⟨w11, ⟨x11, y11, _⟩, _⟩, _⟩, _, _⟩, ⟨z11, a12, c12, f12, h12, _⟩⟩ =>
 bif w11 then
 bif eqL t11 then
 some (((t11, u11, (true, (x11, y11, ()), dflt .unit), ()), (), ()), (z11, a12, c12, f12, h12, ()))
 else none
 else
 bif eqL t11 then
 some (((t11, u11, zR0, ()), (), ()), (z11, a12, c12, f12, h12, ()))
 else none
 else none
 else none
 else
 bif eqL l11 then
 bif eqL q6 then
 Option.bind (p99_4 fu ((l11, m11, zR0, ()), (o, x, q6, z9, s11, ()), ())) fun ⟨⟨⟨i12, j12, ⟨k12, ⟨l12, m12, _⟩, _⟩, _⟩, _, _⟩, ⟨n12, o12, q12, s12, t12, _⟩⟩ =>
 bif k12 then
 bif eqL i12 then
 some (((i12, j12, (true, (l12, m12, ()), dflt .unit), ()), (), ()), (n12, o12, q12, s12, t12, ()))
 else none
 else
 bif eqL i12 then
 some (((i12, j12, zR0, ()), (), ()), (n12, o12, q12, s12, t12, ()))
 else none
 else none
 else none
 else none
 else none
 else none
 else none
 else
 bif eqL j then
 Option.bind (p69_2 fu ((j, k, zR0, ()), (32 : Int), ())) fun ⟨⟨⟨u12, w12, ⟨x12, ⟨y12, z12, _⟩, _⟩, _⟩, _, _⟩, a13⟩ =>
 bif x12 then
 bif eqL u12 then
 Option.bind (p67_2 fu ((u12, w12, (true, (y12, z12, ()), dflt .unit), ()), (256 : Int), ())) fun ⟨⟨⟨c13, f13, ⟨h13, ⟨i13, j13, _⟩, _⟩, _⟩, _, _⟩, k13⟩ =>
 bif h13 then
 bif eqL c13 then
 Option.bind (p15_2 fu ((c13, f13, (true, (i13, j13, ()), dflt .unit), ()), ())) fun ⟨⟨⟨l13, m13, ⟨n13, ⟨o13, q13, _⟩, _⟩, _⟩, _, _⟩, s13⟩ =>
 bif n13 then
 bif eqL l13 then
 Option.bind (p15_2 fu ((l13, m13, (true, (o13, q13, ()), dflt .unit), ()), ())) fun ⟨⟨⟨t13, u13, ⟨w13, ⟨x13, y13, _⟩, _⟩, _⟩, _, _⟩, z13⟩ =>
 bif w13 then
 bif eqL t13 then
 bif eqL k13 then
 Option.bind (p99_4 fu ((t13, u13, (true, (x13, y13, ()), dflt .unit), ()), (o, a13, k13, s13, z13, ()), ())) fun ⟨⟨⟨a14, c14, ⟨f14, ⟨h14, i14, _⟩, _⟩, _⟩, _, _⟩, ⟨j14, k14, l14, m14, n14, _⟩⟩ =>
 bif f14 then
 bif eqL a14 then
 some (((a14, c14, (true, (h14, i14, ()), dflt .unit), ()), (), ()), (j14, k14, l14, m14, n14, ()))
 else none
 else
 bif eqL a14 then
 some (((a14, c14, zR0, ()), (), ()), (j14, k14, l14, m14, n14, ()))
 else none
 else none
 else none
 else
 bif eqL t13 then
 bif eqL k13 then
 Option.bind (p99_4 fu ((t13, u13, zR0, ()), (o, a13, k13, s13, z13, ()), ())) fun ⟨⟨⟨o14, q14, ⟨s14, ⟨t14, u14, _⟩, _⟩, _⟩, _, _⟩, ⟨w14, x14, y14, z14, a15, _⟩⟩ =>
 bif s14 then
 bif eqL o14 then
 some (((o14, q14, (true, (t14, u14, ()), dflt .unit), ()), (), ()), (w14, x14, y14, z14, a15, ()))
 else none
 else
 bif eqL o14 then
 some (((o14, q14, zR0, ()), (), ()), (w14, x14, y14, z14, a15, ()))
 else none
 else none
 else none
 else none
 else
 bif eqL l13 then
 Option.bind (p15_2 fu ((l13, m13, zR0, ()), ())) fun ⟨⟨⟨c15, f15, ⟨h15, ⟨i15, j15, _⟩, _⟩, _⟩, _, _⟩, k15⟩ =>
 bif h15 then
 bif eqL c15 then
 bif eqL k13 then
 Option.bind (p99_4 fu ((c15, f15, (true, (i15, j15, ()), dflt .unit), ()), (o, a13, k13, s13, k15, ()), ())) fun ⟨⟨⟨l15, m15, ⟨n15, ⟨o15, q15, _⟩, _⟩, _⟩, _, _⟩, ⟨s15, t15, u15, w15, x15, _⟩⟩ =>
 bif n15 then
 bif eqL l15 then
 some (((l15, m15, (true, (o15, q15, ()), dflt .unit), ()), (), ()), (s15, t15, u15, w15, x15, ()))
 else none
 else
 bif eqL l15 then
 some (((l15, m15, zR0, ()), (), ()), (s15, t15, u15, w15, x15, ()))
 else none
 else none
 else none
 else
 bif eqL c15 then
 bif eqL k13 then
 Option.bind (p99_4 fu ((c15, f15, zR0, ()), (o, a13, k13, s13, k15, ()), ())) fun ⟨⟨⟨y15, z15, ⟨a16, ⟨c16, f16, _⟩, _⟩, _⟩, _, _⟩, ⟨h16, i16, j16, k16, l16, _⟩⟩ =>
 bif a16 then
 bif eqL y15 then
 some (((y15, z15, (true, (c16, f16, ()), dflt .unit), ()), (), ()), (h16, i16, j16, k16, l16, ()))
 else none
 else
 bif eqL y15 then
 some (((y15, z15, zR0, ()), (), ()), (h16, i16, j16, k16, l16, ()))
 else none
 else none
 else none
 else none
 else none
 else
 bif eqL c13 then
 Option.bind (p15_2 fu ((c13, f13, zR0, ()), ())) fun ⟨⟨⟨m16, n16, ⟨o16, ⟨q16, s16, _⟩, _⟩, _⟩, _, _⟩, t16⟩ =>
 bif o16 then
 bif eqL m16 then
 Option.bind (p15_2 fu ((m16, n16, (true, (q16, s16, ()), dflt .unit), ()), ())) fun ⟨⟨⟨u16, w16, ⟨x16, ⟨y16, z16, _⟩, _⟩, _⟩, _, _⟩, a17⟩ =>
 bif x16 then
 bif eqL u16 then
 bif eqL k13 then
 Option.bind (p99_4 fu ((u16, w16, (true, (y16, z16, ()), dflt .unit), ()), (o, a13, k13, t16, a17, ()), ())) fun ⟨⟨⟨c17, f17, ⟨h17, ⟨i17, j17, _⟩, _⟩, _⟩, _, _⟩, ⟨k17, l17, m17, n17, o17, _⟩⟩ =>
 bif h17 then
 bif eqL c17 then
 some (((c17, f17, (true, (i17, j17, ()), dflt .unit), ()), (), ()), (k17, l17, m17, n17, o17, ()))
 else none
 else
 bif eqL c17 then
 some (((c17, f17, zR0, ()), (), ()), (k17, l17, m17, n17, o17, ()))
 else none
 else none
 else none
 else
 bif eqL u16 then
 bif eqL k13 then
 Option.bind (p99_4 fu ((u16, w16, zR0, ()), (o, a13, k13, t16, a17, ()), ())) fun ⟨⟨⟨q17, s17, ⟨t17, ⟨u17, w17, _⟩, _⟩, _⟩, _, _⟩, ⟨x17, y17, z17, a18, c18, _⟩⟩ =>
 bif t17 then
 bif eqL q17 then
 some (((q17, s17, (true, (u17, w17, ()), dflt .unit), ()), (), ()), (x17, y17, z17, a18, c18, ()))
 else none
 else
 bif eqL q17 then
 some (((q17, s17, zR0, ()), (), ()), (x17, y17, z17, a18, c18, ()))
 else none
 else none
 else none
 else none
 else
 bif eqL m16 then
 Option.bind (p15_2 fu ((m16, n16, zR0, ()), ())) fun ⟨⟨⟨f18, h18, ⟨i18, ⟨j18, k18, _⟩, _⟩, _⟩, _, _⟩, l18⟩ =>
 bif i18 then
 bif eqL f18 then
 bif eqL k13 then
 Option.bind (p99_4 fu ((f18, h18, (true, (j18, k18, ()), dflt .unit), ()), (o, a13, k13, t16, l18, ()), ())) fun ⟨⟨⟨m18, n18, ⟨o18, ⟨q18, s18, _⟩, _⟩, _⟩, _, _⟩, ⟨t18, u18, w18, x18, y18, _⟩⟩ =>
 bif o18 then
 bif eqL m18 then
 some (((m18, n18, (true, (q18, s18, ()), dflt .unit), ()), (), ()), (t18, u18, w18, x18, y18, ()))
 else none
 else
 bif eqL m18 then
 some (((m18, n18, zR0, ()), (), ()), (t18, u18, w18, x18, y18, ()))
 else none
 else none
 else none
 else
 bif eqL f18 then
 bif eqL k13 then
 Option.bind (p99_4 fu ((f18, h18, zR0, ()), (o, a13, k13, t16, l18, ()), ())) fun ⟨⟨⟨z18, a19, ⟨c19, ⟨f19, h19, _⟩, _⟩, _⟩, _, _⟩, ⟨i19, j19, k19, l19, m19, _⟩⟩ =>
 bif c19 then
 bif eqL z18 then
 some (((z18, a19, (true, (f19, h19, ()), dflt .unit), ()), (), ()), (i19, j19, k19, l19, m19, ()))
 else none
 else
 bif eqL z18 then
 some (((z18, a19, zR0, ()), (), ()), (i19, j19, k19, l19, m19, ()))
 else none
 else none
 else none
 else none
 else none
 else none
 else
 bif eqL u12 then
 Option.bind (p67_2 fu ((u12, w12, zR0, ()), (256 : Int), ())) fun ⟨⟨⟨n19, o19, ⟨q19, ⟨s19, t19, _⟩, _⟩, _⟩, _, _⟩, u19⟩ =>
 bif q19 then
 bif eqL n19 then
 Option.bind (p15_2 fu ((n19, o19, (true, (s19, t19, ()), dflt .unit), ()), ())) fun ⟨⟨⟨w19, x19, ⟨y19, ⟨z19, a20, _⟩, _⟩, _⟩, _, _⟩, c20⟩ =>
 bif y19 then
 bif eqL w19 then
 Option.bind (p15_2 fu ((w19, x19, (true, (z19, a20, ()), dflt .unit), ()), ())) fun ⟨⟨⟨f20, h20, ⟨i20, ⟨j20, k20, _⟩, _⟩, _⟩, _, _⟩, l20⟩ =>
 bif i20 then
 bif eqL f20 then
 bif eqL u19 then
 Option.bind (p99_4 fu ((f20, h20, (true, (j20, k20, ()), dflt .unit), ()), (o, a13, u19, c20, l20, ()), ())) fun ⟨⟨⟨m20, n20, ⟨o20, ⟨q20, s20, _⟩, _⟩, _⟩, _, _⟩, ⟨t20, u20, w20, x20, y20, _⟩⟩ =>
 bif o20 then
 bif eqL m20 then
 some (((m20, n20, (true, (q20, s20, ()), dflt .unit), ()), (), ()), (t20, u20, w20, x20, y20, ()))
 else none
 else
 bif eqL m20 then
 some (((m20, n20, zR0, ()), (), ()), (t20, u20, w20, x20, y20, ()))
 else none
 else none
 else none
 else
 bif eqL f20 then
 bif eqL u19 then
 Option.bind (p99_4 fu ((f20, h20, zR0, ()), (o, a13, u19, c20, l20, ()), ())) fun ⟨⟨⟨z20, a21, ⟨c21, ⟨f21, h21, _⟩, _⟩, _⟩, _, _⟩, ⟨i21, j21, k21, l21, m21, _⟩⟩ =>
 bif c21 then
 bif eqL z20 then
 some (((z20, a21, (true, (f21, h21, ()), dflt .unit), ()), (), ()), (i21, j21, k21, l21, m21, ()))
 else none
 else
 bif eqL z20 then
 some (((z20, a21, zR0, ()), (), ()), (i21, j21, k21, l21, m21, ()))
 else none
 else none
 else none
 else none
 else
 bif eqL w19 then
 Option.bind (p15_2 fu ((w19, x19, zR0, ()), ())) fun ⟨⟨⟨n21, o21, ⟨q21, ⟨s21, t21, _⟩, _⟩, _⟩, _, _⟩, u21⟩ =>
 bif q21 then
 bif eqL n21 then
 bif eqL u19 then
 Option.bind (p99_4 fu ((n21, o21, (true, (s21, t21, ()), dflt .unit), ()), (o, a13, u19, c20, u21, ()), ())) fun ⟨⟨⟨w21, x21, ⟨y21, ⟨z21, a22, _⟩, _⟩, _⟩, _, _⟩, ⟨c22, f22, h22, i22, j22, _⟩⟩ =>
 bif y21 then
 bif eqL w21 then
 some (((w21, x21, (true, (z21, a22, ()), dflt .unit), ()), (), ()), (c22, f22, h22, i22, j22, ()))
 else none
 else
 bif eqL w21 then
 some (((w21, x21, zR0, ()), (), ()), (c22, f22, h22, i22, j22, ()))
 else none
 else none
 else none
 else
 bif eqL n21 then
 bif eqL u19 then
 Option.bind (p99_4 fu ((n21, o21, zR0, ()), (o, a13, u19, c20, u21, ()), ())) fun ⟨⟨⟨k22, l22, ⟨m22, ⟨n22, o22, _⟩, _⟩, _⟩, _, _⟩, ⟨q22, s22, t22, u22, w22, _⟩⟩ =>
 bif m22 then
 bif eqL k22 then
 some (((k22, l22, (true, (n22, o22, ()), dflt .unit), ()), (), ()), (q22, s22, t22, u22, w22, ()))
 else none
 else
 bif eqL k22 then
 some (((k22, l22, zR0, ()), (), ()), (q22, s22, t22, u22, w22, ()))
 else none
 else none
 else none
 else none
 else none
 else
 bif eqL n19 then
 Option.bind (p15_2 fu ((n19, o19, zR0, ()), ())) fun ⟨⟨⟨x22, y22, ⟨z22, ⟨a23, c23, _⟩, _⟩, _⟩, _, _⟩, f23⟩ =>
 bif z22 then
 bif eqL x22 then
 Option.bind (p15_2 fu ((x22, y22, (true, (a23, c23, ()), dflt .unit), ()), ())) fun ⟨⟨⟨h23, i23, ⟨j23, ⟨k23, l23, _⟩, _⟩, _⟩, _, _⟩, m23⟩ =>
 bif j23 then
 bif eqL h23 then
 bif eqL u19 then
 Option.bind (p99_4 fu ((h23, i23, (true, (k23, l23, ()), dflt .unit), ()), (o, a13, u19, f23, m23, ()), ())) fun ⟨⟨⟨n23, o23, ⟨q23, ⟨s23, t23, _⟩, _⟩, _⟩, _, _⟩, ⟨u23, w23, x23, y23, z23, _⟩⟩ =>
 bif q23 then
 bif eqL n23 then
 some (((n23, o23, (true, (s23, t23, ()), dflt .unit), ()), (), ()), (u23, w23, x23, y23, z23, ()))
 else none
 else
 bif eqL n23 then
 some (((n23, o23, zR0, ()), (), ()), (u23, w23, x23, y23, z23, ()))
 else none
 else none
 else none
 else
 bif eqL h23 then
 bif eqL u19 then
 Option.bind (p99_4 fu ((h23, i23, zR0, ()), (o, a13, u19, f23, m23, ()), ())) fun ⟨⟨⟨a24, c24, ⟨f24, ⟨h24, i24, _⟩, _⟩, _⟩, _, _⟩, ⟨j24, k24, l24, m24, n24, _⟩⟩ =>
 bif f24 then
 bif eqL a24 then
 some (((a24, c24, (true, (h24, i24, ()), dflt .unit), ()), (), ()), (j24, k24, l24, m24, n24, ()))
 else none
 else
 bif eqL a24 then
 some (((a24, c24, zR0, ()), (), ()), (j24, k24, l24, m24, n24, ()))
 else none
 else none
 else none
 else none
 else
 bif eqL x22 then
 Option.bind (p15_2 fu ((x22, y22, zR0, ()), ())) fun ⟨⟨⟨o24, q24, ⟨s24, ⟨t24, u24, _⟩, _⟩, _⟩, _, _⟩, w24⟩ =>
 bif s24 then
 bif eqL o24 then
 bif eqL u19 then
 Option.bind (p99_4 fu ((o24, q24, (true, (t24, u24, ()), dflt .unit), ()), (o, a13, u19, f23, w24, ()), ())) fun ⟨⟨⟨x24, y24, ⟨z24, ⟨a25, c25, _⟩, _⟩, _⟩, _, _⟩, ⟨f25, h25, i25, j25, k25, _⟩⟩ =>
 bif z24 then
 bif eqL x24 then
 some (((x24, y24, (true, (a25, c25, ()), dflt .unit), ()), (), ()), (f25, h25, i25, j25, k25, ()))
 else none
 else
 bif eqL x24 then
 some (((x24, y24, zR0, ()), (), ()), (f25, h25, i25, j25, k25, ()))
 else none
 else none
 else none
 else
 bif eqL o24 then
 bif eqL u19 then
 Option.bind (p99_4 fu ((o24, q24, zR0, ()), (o, a13, u19, f23, w24, ()), ())) fun ⟨⟨⟨l25, m25, ⟨n25, ⟨o25, q25, _⟩, _⟩, _⟩, _, _⟩, ⟨s25, t25, u25, w25, x25, _⟩⟩ =>
 bif n25 then
 bif eqL l25 then
 some (((l25, m25, (true, (o25, q25, ()), dflt .unit), ()), (), ()), (s25, t25, u25, w25, x25, ()))
 else none
 else
 bif eqL l25 then
 some (((l25, m25, zR0, ()), (), ()), (s25, t25, u25, w25, x25, ()))
 else none
 else none
 else none
 else none
 else none
 else none
 else none
 else none
else
 bif eqL a then
 Option.bind (p15_2 fu ((a, c, zR0, ()), ())) fun ⟨⟨⟨y25, z25, ⟨a26, ⟨c26, f26, _⟩, _⟩, _⟩, _, _⟩, h26⟩ =>
 bif a26 then
 bif eqL y25 then
 Option.bind (p69_2 fu ((y25, z25, (true, (c26, f26, ()), dflt .unit), ()), (32 : Int), ())) fun ⟨⟨⟨i26, j26, ⟨k26, ⟨l26, m26, _⟩, _⟩, _⟩, _, _⟩, n26⟩ =>
 bif k26 then
 bif eqL i26 then
 Option.bind (p67_2 fu ((i26, j26, (true, (l26, m26, ()), dflt .unit), ()), (256 : Int), ())) fun ⟨⟨⟨o26, q26, ⟨s26, ⟨t26, u26, _⟩, _⟩, _⟩, _, _⟩, w26⟩ =>
 bif s26 then
 bif eqL o26 then
 Option.bind (p15_2 fu ((o26, q26, (true, (t26, u26, ()), dflt .unit), ()), ())) fun ⟨⟨⟨x26, y26, ⟨z26, ⟨a27, c27, _⟩, _⟩, _⟩, _, _⟩, f27⟩ =>
 bif z26 then
 bif eqL x26 then
 Option.bind (p15_2 fu ((x26, y26, (true, (a27, c27, ()), dflt .unit), ()), ())) fun ⟨⟨⟨h27, i27, ⟨j27, ⟨k27, l27, _⟩, _⟩, _⟩, _, _⟩, m27⟩ =>
 bif j27 then
 bif eqL h27 then
 bif eqL w26 then
 Option.bind (p99_4 fu ((h27, i27, (true, (k27, l27, ()), dflt .unit), ()), (h26, n26, w26, f27, m27, ()), ())) fun ⟨⟨⟨n27, o27, ⟨q27, ⟨s27, t27, _⟩, _⟩, _⟩, _, _⟩, ⟨u27, w27, x27, y27, z27, _⟩⟩ =>
 bif q27 then
 bif eqL n27 then
 some (((n27, o27, (true, (s27, t27, ()), dflt .unit), ()), (), ()), (u27, w27, x27, y27, z27, ()))
 else none
 else
 bif eqL n27 then
 some (((n27, o27, zR0, ()), (), ()), (u27, w27, x27, y27, z27, ()))
 else none
 else none
 else none
 else
 bif eqL h27 then
 bif eqL w26 then
 Option.bind (p99_4 fu ((h27, i27, zR0, ()), (h26, n26, w26, f27, m27, ()), ())) fun ⟨⟨⟨a28, c28, ⟨f28, ⟨h28, i28, _⟩, _⟩, _⟩, _, _⟩, ⟨j28, k28, l28, m28, n28, _⟩⟩ =>
 bif f28 then
 bif eqL a28 then
 some (((a28, c28, (true, (h28, i28, ()), dflt .unit), ()), (), ()), (j28, k28, l28, m28, n28, ()))
 else none
 else
 bif eqL a28 then
 some (((a28, c28, zR0, ()), (), ()), (j28, k28, l28, m28, n28, ()))
 else none
 else none
 else none
 else none
 else
 bif eqL x26 then
 Option.bind (p15_2 fu ((x26, y26, zR0, ()), ())) fun ⟨⟨⟨o28, q28, ⟨s28, ⟨t28, u28, _⟩, _⟩, _⟩, _, _⟩, w28⟩ =>
 bif s28 then
 bif eqL o28 then
 bif eqL w26 then
 Option.bind (p99_4 fu ((o28, q28, (true, (t28, u28, ()), dflt .unit), ()), (h26, n26, w26, f27, w28, ()), ())) fun ⟨⟨⟨x28, y28, ⟨z28, ⟨a29, c29, _⟩, _⟩, _⟩, _, _⟩, ⟨f29, h29, i29, j29, k29, _⟩⟩ =>
 bif z28 then
 bif eqL x28 then
 some (((x28, y28, (true, (a29, c29, ()), dflt .unit), ()), (), ()), (f29, h29, i29, j29, k29, ()))
 else none
 else
 bif eqL x28 then
 some (((x28, y28, zR0, ()), (), ()), (f29, h29, i29, j29, k29, ()))
 else none
 else none
 else none
 else
 bif eqL o28 then
 bif eqL w26 then
 Option.bind (p99_4 fu ((o28, q28, zR0, ()), (h26, n26, w26, f27, w28, ()), ())) fun ⟨⟨⟨l29, m29, ⟨n29, ⟨o29, q29, _⟩, _⟩, _⟩, _, _⟩, ⟨s29, t29, u29, w29, x29, _⟩⟩ =>
 bif n29 then
 bif eqL l29 then
 some (((l29, m29, (true, (o29, q29, ()), dflt .unit), ()), (), ()), (s29, t29, u29, w29, x29, ()))
 else none
 else
 bif eqL l29 then
 some (((l29, m29, zR0, ()), (), ()), (s29, t29, u29, w29, x29, ()))
 else none
 else none
 else none
 else none
 else none
 else
 bif eqL o26 then
 Option.bind (p15_2 fu ((o26, q26, zR0, ()), ())) fun ⟨⟨⟨y29, z29, ⟨a30, ⟨c30, f30, _⟩, _⟩, _⟩, _, _⟩, h30⟩ =>
 bif a30 then
 bif eqL y29 then
 Option.bind (p15_2 fu ((y29, z29, (true, (c30, f30, ()), dflt .unit), ()), ())) fun ⟨⟨⟨i30, j30, ⟨k30, ⟨l30, m30, _⟩, _⟩, _⟩, _, _⟩, n30⟩ =>
 bif k30 then
 bif eqL i30 then
 bif eqL w26 then
 Option.bind (p99_4 fu ((i30, j30, (true, (l30, m30, ()), dflt .unit), ()), (h26, n26, w26, h30, n30, ()), ())) fun ⟨⟨⟨o30, q30, ⟨s30, ⟨t30, u30, _⟩, _⟩, _⟩, _, _⟩, ⟨w30, x30, y30, z30, a31, _⟩⟩ =>
 bif s30 then
 bif eqL o30 then
 some (((o30, q30, (true, (t30, u30, ()), dflt .unit), ()), (), ()), (w30, x30, y30, z30, a31, ()))
 else none
 else
 bif eqL o30 then
 some (((o30, q30, zR0, ()), (), ()), (w30, x30, y30, z30, a31, ()))
 else none
 else none
 else none
 else
 bif eqL i30 then
 bif eqL w26 then
 Option.bind (p99_4 fu ((i30, j30, zR0, ()), (h26, n26, w26, h30, n30, ()), ())) fun ⟨⟨⟨c31, f31, ⟨h31, ⟨i31, j31, _⟩, _⟩, _⟩, _, _⟩, ⟨k31, l31, m31, n31, o31, _⟩⟩ =>
 bif h31 then
 bif eqL c31 then
 some (((c31, f31, (true, (i31, j31, ()), dflt .unit), ()), (), ()), (k31, l31, m31, n31, o31, ()))
 else none
 else
 bif eqL c31 then
 some (((c31, f31, zR0, ()), (), ()), (k31, l31, m31, n31, o31, ()))
 else none
 else none
 else none
 else none
 else
 bif eqL y29 then
 Option.bind (p15_2 fu ((y29, z29, zR0, ()), ())) fun ⟨⟨⟨q31, s31, ⟨t31, ⟨u31, w31, _⟩, _⟩, _⟩, _, _⟩, x31⟩ =>
 bif t31 then
 bif eqL q31 then
 bif eqL w26 then
 Option.bind (p99_4 fu ((q31, s31, (true, (u31, w31, ()), dflt .unit), ()), (h26, n26, w26, h30, x31, ()), ())) fun ⟨⟨⟨y31, z31, ⟨a32, ⟨c32, f32, _⟩, _⟩, _⟩, _, _⟩, ⟨h32, i32, j32, k32, l32, _⟩⟩ =>
 bif a32 then
 bif eqL y31 then
 some (((y31, z31, (true, (c32, f32, ()), dflt .unit), ()), (), ()), (h32, i32, j32, k32, l32, ()))
 else none
 else
 bif eqL y31 then
 some (((y31, z31, zR0, ()), (), ()), (h32, i32, j32, k32, l32, ()))
 else none
 else none
 else none
 else
 bif eqL q31 then
 bif eqL w26 then
 Option.bind (p99_4 fu ((q31, s31, zR0, ()), (h26, n26, w26, h30, x31, ()), ())) fun ⟨⟨⟨m32, n32, ⟨o32, ⟨q32, s32, _⟩, _⟩, _⟩, _, _⟩, ⟨t32, u32, w32, x32, y32, _⟩⟩ =>
 bif o32 then
 bif eqL m32 then
 some (((m32, n32, (true, (q32, s32, ()), dflt .unit), ()), (), ()), (t32, u32, w32, x32, y32, ()))
 else none
 else
 bif eqL m32 then
 some (((m32, n32, zR0, ()), (), ()), (t32, u32, w32, x32, y32, ()))
 else none
 else none
 else none
 else none
 else none
 else none
 else
 bif eqL i26 then
 Option.bind (p67_2 fu ((i26, j26, zR0, ()), (256 : Int), ())) fun ⟨⟨⟨z32, a33, ⟨c33, ⟨f33, h33, _⟩, _⟩, _⟩, _, _⟩, i33⟩ =>
 bif c33 then
 bif eqL z32 then
 Option.bind (p15_2 fu ((z32, a33, (true, (f33, h33, ()), dflt .unit), ()), ())) fun ⟨⟨⟨j33, k33, ⟨l33, ⟨m33, n33, _⟩, _⟩, _⟩, _, _⟩, o33⟩ =>
 bif l33 then
 bif eqL j33 then
 Option.bind (p15_2 fu ((j33, k33, (true, (m33, n33, ()), dflt .unit), ()), ())) fun ⟨⟨⟨q33, s33, ⟨t33, ⟨u33, w33, _⟩, _⟩, _⟩, _, _⟩, x33⟩ =>
 bif t33 then
 bif eqL q33 then
 bif eqL i33 then
 Option.bind (p99_4 fu ((q33, s33, (true, (u33, w33, ()), dflt .unit), ()), (h26, n26, i33, o33, x33, ()), ())) fun ⟨⟨⟨y33, z33, ⟨a34, ⟨c34, f34, _⟩, _⟩, _⟩, _, _⟩, ⟨h34, i34, j34, k34, l34, _⟩⟩ =>
 bif a34 then
 bif eqL y33 then
 some (((y33, z33, (true, (c34, f34, ()), dflt .unit), ()), (), ()), (h34, i34, j34, k34, l34, ()))
 else none
 else
 bif eqL y33 then
 some (((y33, z33, zR0, ()), (), ()), (h34, i34, j34, k34, l34, ()))
 else none
 else none
 else none
 else
 bif eqL q33 then
 bif eqL i33 then
 Option.bind (p99_4 fu ((q33, s33, zR0, ()), (h26, n26, i33, o33, x33, ()), ())) fun ⟨⟨⟨m34, n34, ⟨o34, ⟨q34, s34, _⟩, _⟩, _⟩, _, _⟩, ⟨t34, u34, w34, x34, y34, _⟩⟩ =>
 bif o34 then
 bif eqL m34 then
 some (((m34, n34, (true, (q34, s34, ()), dflt .unit), ()), (), ()), (t34, u34, w34, x34, y34, ()))
 else none
 else
 bif eqL m34 then
 some (((m34, n34, zR0, ()), (), ()), (t34, u34, w34, x34, y34, ()))
 else none
 else none
 else none
 else none
 else
 bif eqL j33 then
 Option.bind (p15_2 fu ((j33, k33, zR0, ()), ())) fun ⟨⟨⟨z34, a35, ⟨c35, ⟨f35, h35, _⟩, _⟩, _⟩, _, _⟩, i35⟩ =>
 bif c35 then
 bif eqL z34 then
 bif eqL i33 then
 Option.bind (p99_4 fu ((z34, a35, (true, (f35, h35, ()), dflt .unit), ()), (h26, n26, i33, o33, i35, ()), ())) fun ⟨⟨⟨j35, k35, ⟨l35, ⟨m35, n35, _⟩, _⟩, _⟩, _, _⟩, ⟨o35, q35, s35, t35, u35, _⟩⟩ =>
 bif l35 then
 bif eqL j35 then
 some (((j35, k35, (true, (m35, n35, ()), dflt .unit), ()), (), ()), (o35, q35, s35, t35, u35, ()))
 else none
 else
 bif eqL j35 then
 some (((j35, k35, zR0, ()), (), ()), (o35, q35, s35, t35, u35, ()))
 else none
 else none
 else none
 else
 bif eqL z34 then
 bif eqL i33 then
 Option.bind (p99_4 fu ((z34, a35, zR0, ()), (h26, n26, i33, o33, i35, ()), ())) fun ⟨⟨⟨w35, x35, ⟨y35, ⟨z35, a36, _⟩, _⟩, _⟩, _, _⟩, ⟨c36, f36, h36, i36, j36, _⟩⟩ =>
 bif y35 then
 bif eqL w35 then
 some (((w35, x35, (true, (z35, a36, ()), dflt .unit), ()), (), ()), (c36, f36, h36, i36, j36, ()))
 else none
 else
 bif eqL w35 then
 some (((w35, x35, zR0, ()), (), ()), (c36, f36, h36, i36, j36, ()))
 else none
 else none
 else none
 else none
 else none
 else
 bif eqL z32 then
 Option.bind (p15_2 fu ((z32, a33, zR0, ()), ())) fun ⟨⟨⟨k36, l36, ⟨m36, ⟨n36, o36, _⟩, _⟩, _⟩, _, _⟩, q36⟩ =>
 bif m36 then
 bif eqL k36 then
 Option.bind (p15_2 fu ((k36, l36, (true, (n36, o36, ()), dflt .unit), ()), ())) fun ⟨⟨⟨s36, t36, ⟨u36, ⟨w36, x36, _⟩, _⟩, _⟩, _, _⟩, y36⟩ =>
 bif u36 then
 bif eqL s36 then
 bif eqL i33 then
 Option.bind (p99_4 fu ((s36, t36, (true, (w36, x36, ()), dflt .unit), ()), (h26, n26, i33, q36, y36, ()), ())) fun ⟨⟨⟨z36, a37, ⟨c37, ⟨f37, h37, _⟩, _⟩, _⟩, _, _⟩, ⟨i37, j37, k37, l37, m37, _⟩⟩ =>
 bif c37 then
 bif eqL z36 then
 some (((z36, a37, (true, (f37, h37, ()), dflt .unit), ()), (), ()), (i37, j37, k37, l37, m37, ()))
 else none
 else
 bif eqL z36 then
 some (((z36, a37, zR0, ()), (), ()), (i37, j37, k37, l37, m37, ()))
 else none
 else none
 else none
 else
 bif eqL s36 then
 bif eqL i33 then
 Option.bind (p99_4 fu ((s36, t36, zR0, ()), (h26, n26, i33, q36, y36, ()), ())) fun ⟨⟨⟨n37, o37, ⟨q37, ⟨s37, t37, _⟩, _⟩, _⟩, _, _⟩, ⟨u37, w37, x37, y37, z37, _⟩⟩ =>
 bif q37 then
 bif eqL n37 then
 some (((n37, o37, (true, (s37, t37, ()), dflt .unit), ()), (), ()), (u37, w37, x37, y37, z37, ()))
 else none
 else
 bif eqL n37 then
 some (((n37, o37, zR0, ()), (), ()), (u37, w37, x37, y37, z37, ()))
 else none
 else none
 else none
 else none
 else
 bif eqL k36 then
 Option.bind (p15_2 fu ((k36, l36, zR0, ()), ())) fun ⟨⟨⟨a38, c38, ⟨f38, ⟨h38, i38, _⟩, _⟩, _⟩, _, _⟩, j38⟩ =>
 bif f38 then
 bif eqL a38 then
 bif eqL i33 then
 Option.bind (p99_4 fu ((a38, c38, (true, (h38, i38, ()), dflt .unit), ()), (h26, n26, i33, q36, j38, ()), ())) fun ⟨⟨⟨k38, l38, ⟨m38, ⟨n38, o38, _⟩, _⟩, _⟩, _, _⟩, ⟨q38, s38, t38, u38, w38, _⟩⟩ =>
 bif m38 then
 bif eqL k38 then
 some (((k38, l38, (true, (n38, o38, ()), dflt .unit), ()), (), ()), (q38, s38, t38, u38, w38, ()))
 else none
 else
 bif eqL k38 then
 some (((k38, l38, zR0, ()), (), ()), (q38, s38, t38, u38, w38, ()))
 else none
 else none
 else none
 else
 bif eqL a38 then
 bif eqL i33 then
 Option.bind (p99_4 fu ((a38, c38, zR0, ()), (h26, n26, i33, q36, j38, ()), ())) fun ⟨⟨⟨x38, y38, ⟨z38, ⟨a39, c39, _⟩, _⟩, _⟩, _, _⟩, ⟨f39, h39, i39, j39, k39, _⟩⟩ =>
 bif z38 then
 bif eqL x38 then
 some (((x38, y38, (true, (a39, c39, ()), dflt .unit), ()), (), ()), (f39, h39, i39, j39, k39, ()))
 else none
 else
 bif eqL x38 then
 some (((x38, y38, zR0, ()), (), ()), (f39, h39, i39, j39, k39, ()))
 else none
 else none
 else none
 else none
 else none
 else none
 else none
 else
 bif eqL y25 then
 Option.bind (p69_2 fu ((y25, z25, zR0, ()), (32 : Int), ())) fun ⟨⟨⟨l39, m39, ⟨n39, ⟨o39, q39, _⟩, _⟩, _⟩, _, _⟩, s39⟩ =>
 bif n39 then
 bif eqL l39 then
 Option.bind (p67_2 fu ((l39, m39, (true, (o39, q39, ()), dflt .unit), ()), (256 : Int), ())) fun ⟨⟨⟨t39, u39, ⟨w39, ⟨x39, y39, _⟩, _⟩, _⟩, _, _⟩, z39⟩ =>
 bif w39 then
 bif eqL t39 then
 Option.bind (p15_2 fu ((t39, u39, (true, (x39, y39, ()), dflt .unit), ()), ())) fun ⟨⟨⟨a40, c40, ⟨f40, ⟨h40, i40, _⟩, _⟩, _⟩, _, _⟩, j40⟩ =>
 bif f40 then
 bif eqL a40 then
 Option.bind (p15_2 fu ((a40, c40, (true, (h40, i40, ()), dflt .unit), ()), ())) fun ⟨⟨⟨k40, l40, ⟨m40, ⟨n40, o40, _⟩, _⟩, _⟩, _, _⟩, q40⟩ =>
 bif m40 then
 bif eqL k40 then
 bif eqL z39 then
 Option.bind (p99_4 fu ((k40, l40, (true, (n40, o40, ()), dflt .unit), ()), (h26, s39, z39, j40, q40, ()), ())) fun ⟨⟨⟨s40, t40, ⟨u40, ⟨w40, x40, _⟩, _⟩, _⟩, _, _⟩, ⟨y40, z40, a41, c41, f41, _⟩⟩ =>
 bif u40 then
 bif eqL s40 then
 some (((s40, t40, (true, (w40, x40, ()), dflt .unit), ()), (), ()), (y40, z40, a41, c41, f41, ()))
 else none
 else
 bif eqL s40 then
 some (((s40, t40, zR0, ()), (), ()), (y40, z40, a41, c41, f41, ()))
 else none
 else none
 else none
 else
 bif eqL k40 then
 bif eqL z39 then
 Option.bind (p99_4 fu ((k40, l40, zR0, ()), (h26, s39, z39, j40, q40, ()), ())) fun ⟨⟨⟨h41, i41, ⟨j41, ⟨k41, l41, _⟩, _⟩, _⟩, _, _⟩, ⟨m41, n41, o41, q41, s41, _⟩⟩ =>
 bif j41 then
 bif eqL h41 then
 some (((h41, i41, (true, (k41, l41, ()), dflt .unit), ()), (), ()), (m41, n41, o41, q41, s41, ()))
 else none
 else
 bif eqL h41 then
 some (((h41, i41, zR0, ()), (), ()), (m41, n41, o41, q41, s41, ()))
 else none
 else none
 else none
 else none
 else
 bif eqL a40 then
 Option.bind (p15_2 fu ((a40, c40, zR0, ()), ())) fun ⟨⟨⟨t41, u41, ⟨w41, ⟨x41, y41, _⟩, _⟩, _⟩, _, _⟩, z41⟩ =>
 bif w41 then
 bif eqL t41 then
 bif eqL z39 then
 Option.bind (p99_4 fu ((t41, u41, (true, (x41, y41, ()), dflt .unit), ()), (h26, s39, z39, j40, z41, ()), ())) fun ⟨⟨⟨a42, c42, ⟨f42, ⟨h42, i42, _⟩, _⟩, _⟩, _, _⟩, ⟨j42, k42, l42, m42, n42, _⟩⟩ =>
 bif f42 then
 bif eqL a42 then
 some (((a42, c42, (true, (h42, i42, ()), dflt .unit), ()), (), ()), (j42, k42, l42, m42, n42, ()))
 else none
 else
 bif eqL a42 then
 some (((a42, c42, zR0, ()), (), ()), (j42, k42, l42, m42, n42, ()))
 else none
 else none
 else none
 else
 bif eqL t41 then
 bif eqL z39 then
 Option.bind (p99_4 fu ((t41, u41, zR0, ()), (h26, s39, z39, j40, z41, ()), ())) fun ⟨⟨⟨o42, q42, ⟨s42, ⟨t42, u42, _⟩, _⟩, _⟩, _, _⟩, ⟨w42, x42, y42, z42, a43, _⟩⟩ =>
 bif s42 then
 bif eqL o42 then
 some (((o42, q42, (true, (t42, u42, ()), dflt .unit), ()), (), ()), (w42, x42, y42, z42, a43, ()))
 else none
 else
 bif eqL o42 then
 some (((o42, q42, zR0, ()), (), ()), (w42, x42, y42, z42, a43, ()))
 else none
 else none
 else none
 else none
 else none
 else
 bif eqL t39 then
 Option.bind (p15_2 fu ((t39, u39, zR0, ()), ())) fun ⟨⟨⟨c43, f43, ⟨h43, ⟨i43, j43, _⟩, _⟩, _⟩, _, _⟩, k43⟩ =>
 bif h43 then
 bif eqL c43 then
 Option.bind (p15_2 fu ((c43, f43, (true, (i43, j43, ()), dflt .unit), ()), ())) fun ⟨⟨⟨l43, m43, ⟨n43, ⟨o43, q43, _⟩, _⟩, _⟩, _, _⟩, s43⟩ =>
 bif n43 then
 bif eqL l43 then
 bif eqL z39 then
 Option.bind (p99_4 fu ((l43, m43, (true, (o43, q43, ()), dflt .unit), ()), (h26, s39, z39, k43, s43, ()), ())) fun ⟨⟨⟨t43, u43, ⟨w43, ⟨x43, y43, _⟩, _⟩, _⟩, _, _⟩, ⟨z43, a44, c44, f44, h44, _⟩⟩ =>
 bif w43 then
 bif eqL t43 then
 some (((t43, u43, (true, (x43, y43, ()), dflt .unit), ()), (), ()), (z43, a44, c44, f44, h44, ()))
 else none
 else
 bif eqL t43 then
 some (((t43, u43, zR0, ()), (), ()), (z43, a44, c44, f44, h44, ()))
 else none
 else none
 else none
 else
 bif eqL l43 then
 bif eqL z39 then
 Option.bind (p99_4 fu ((l43, m43, zR0, ()), (h26, s39, z39, k43, s43, ()), ())) fun ⟨⟨⟨i44, j44, ⟨k44, ⟨l44, m44, _⟩, _⟩, _⟩, _, _⟩, ⟨n44, o44, q44, s44, t44, _⟩⟩ =>
 bif k44 then
 bif eqL i44 then
 some (((i44, j44, (true, (l44, m44, ()), dflt .unit), ()), (), ()), (n44, o44, q44, s44, t44, ()))
 else none
 else
 bif eqL i44 then
 some (((i44, j44, zR0, ()), (), ()), (n44, o44, q44, s44, t44, ()))
 else none
 else none
 else none
 else none
 else
 bif eqL c43 then
 Option.bind (p15_2 fu ((c43, f43, zR0, ()), ())) fun ⟨⟨⟨u44, w44, ⟨x44, ⟨y44, z44, _⟩, _⟩, _⟩, _, _⟩, a45⟩ =>
 bif x44 then
 bif eqL u44 then
 bif eqL z39 then
 Option.bind (p99_4 fu ((u44, w44, (true, (y44, z44, ()), dflt .unit), ()), (h26, s39, z39, k43, a45, ()), ())) fun ⟨⟨⟨c45, f45, ⟨h45, ⟨i45, j45, _⟩, _⟩, _⟩, _, _⟩, ⟨k45, l45, m45, n45, o45, _⟩⟩ =>
 bif h45 then
 bif eqL c45 then
 some (((c45, f45, (true, (i45, j45, ()), dflt .unit), ()), (), ()), (k45, l45, m45, n45, o45, ()))
 else none
 else
 bif eqL c45 then
 some (((c45, f45, zR0, ()), (), ()), (k45, l45, m45, n45, o45, ()))
 else none
 else none
 else none
 else
 bif eqL u44 then
 bif eqL z39 then
 Option.bind (p99_4 fu ((u44, w44, zR0, ()), (h26, s39, z39, k43, a45, ()), ())) fun ⟨⟨⟨q45, s45, ⟨t45, ⟨u45, w45, _⟩, _⟩, _⟩, _, _⟩, ⟨x45, y45, z45, a46, c46, _⟩⟩ =>
 bif t45 then
 bif eqL q45 then
 some (((q45, s45, (true, (u45, w45, ()), dflt .unit), ()), (), ()), (x45, y45, z45, a46, c46, ()))
 else none
 else
 bif eqL q45 then
 some (((q45, s45, zR0, ()), (), ()), (x45, y45, z45, a46, c46, ()))
 else none
 else none
 else none
 else none
 else none
 else none
 else
 bif eqL l39 then
 Option.bind (p67_2 fu ((l39, m39, zR0, ()), (256 : Int), ())) fun ⟨⟨⟨f46, h46, ⟨i46, ⟨j46, k46, _⟩, _⟩, _⟩, _, _⟩, l46⟩ =>
 bif i46 then
 bif eqL f46 then
 Option.bind (p15_2 fu ((f46, h46, (true, (j46, k46, ()), dflt .unit), ()), ())) fun ⟨⟨⟨m46, n46, ⟨o46, ⟨q46, s46, _⟩, _⟩, _⟩, _, _⟩, t46⟩ =>
 bif o46 then
 bif eqL m46 then
 Option.bind (p15_2 fu ((m46, n46, (true, (q46, s46, ()), dflt .unit), ()), ())) fun ⟨⟨⟨u46, w46, ⟨x46, ⟨y46, z46, _⟩, _⟩, _⟩, _, _⟩, a47⟩ =>
 bif x46 then
 bif eqL u46 then
 bif eqL l46 then
 Option.bind (p99_4 fu ((u46, w46, (true, (y46, z46, ()), dflt .unit), ()), (h26, s39, l46, t46, a47, ()), ())) fun ⟨⟨⟨c47, f47, ⟨h47, ⟨i47, j47, _⟩, _⟩, _⟩, _, _⟩, ⟨k47, l47, m47, n47, o47, _⟩⟩ =>
 bif h47 then
 bif eqL c47 then
 some (((c47, f47, (true, (i47, j47, ()), dflt .unit), ()), (), ()), (k47, l47, m47, n47, o47, ()))
 else none
 else
 bif eqL c47 then
 some (((c47, f47, zR0, ()), (), ()), (k47, l47, m47, n47, o47, ()))
 else none
 else none
 else none
 else
 bif eqL u46 then
 bif eqL l46 then
 Option.bind (p99_4 fu ((u46, w46, zR0, ()), (h26, s39, l46, t46, a47, ()), ())) fun ⟨⟨⟨q47, s47, ⟨t47, ⟨u47, w47, _⟩, _⟩, _⟩, _, _⟩, ⟨x47, y47, z47, a48, c48, _⟩⟩ =>
 bif t47 then
 bif eqL q47 then
 some (((q47, s47, (true, (u47, w47, ()), dflt .unit), ()), (), ()), (x47, y47, z47, a48, c48, ()))
 else none
 else
 bif eqL q47 then
 some (((q47, s47, zR0, ()), (), ()), (x47, y47, z47, a48, c48, ()))
 else none
 else none
 else none
 else none
 else
 bif eqL m46 then
 Option.bind (p15_2 fu ((m46, n46, zR0, ()), ())) fun ⟨⟨⟨f48, h48, ⟨i48, ⟨j48, k48, _⟩, _⟩, _⟩, _, _⟩, l48⟩ =>
 bif i48 then
 bif eqL f48 then
 bif eqL l46 then
 Option.bind (p99_4 fu ((f48, h48, (true, (j48, k48, ()), dflt .unit), ()), (h26, s39, l46, t46, l48, ()), ())) fun ⟨⟨⟨m48, n48, ⟨o48, ⟨q48, s48, _⟩, _⟩, _⟩, _, _⟩, ⟨t48, u48, w48, x48, y48, _⟩⟩ =>
 bif o48 then
 bif eqL m48 then
 some (((m48, n48, (true, (q48, s48, ()), dflt .unit), ()), (), ()), (t48, u48, w48, x48, y48, ()))
 else none
 else
 bif eqL m48 then
 some (((m48, n48, zR0, ()), (), ()), (t48, u48, w48, x48, y48, ()))
 else none
 else none
 else none
 else
 bif eqL f48 then
 bif eqL l46 then
 Option.bind (p99_4 fu ((f48, h48, zR0, ()), (h26, s39, l46, t46, l48, ()), ())) fun ⟨⟨⟨z48, a49, ⟨c49, ⟨f49, h49, _⟩, _⟩, _⟩, _, _⟩, ⟨i49, j49, k49, l49, m49, _⟩⟩ =>
 bif c49 then
 bif eqL z48 then
 some (((z48, a49, (true, (f49, h49, ()), dflt .unit), ()), (), ()), (i49, j49, k49, l49, m49, ()))
 else none
 else
 bif eqL z48 then
 some (((z48, a49, zR0, ()), (), ()), (i49, j49, k49, l49, m49, ()))
 else none
 else none
 else none
 else none
 else none
 else
 bif eqL f46 then
 Option.bind (p15_2 fu ((f46, h46, zR0, ()), ())) fun ⟨⟨⟨n49, o49, ⟨q49, ⟨s49, t49, _⟩, _⟩, _⟩, _, _⟩, u49⟩ =>
 bif q49 then
 bif eqL n49 then
 Option.bind (p15_2 fu ((n49, o49, (true, (s49, t49, ()), dflt .unit), ()), ())) fun ⟨⟨⟨w49, x49, ⟨y49, ⟨z49, a50, _⟩, _⟩, _⟩, _, _⟩, c50⟩ =>
 bif y49 then
 bif eqL w49 then
 bif eqL l46 then
 Option.bind (p99_4 fu ((w49, x49, (true, (z49, a50, ()), dflt .unit), ()), (h26, s39, l46, u49, c50, ()), ())) fun ⟨⟨⟨f50, h50, ⟨i50, ⟨j50, k50, _⟩, _⟩, _⟩, _, _⟩, ⟨l50, m50, n50, o50, q50, _⟩⟩ =>
 bif i50 then
 bif eqL f50 then
 some (((f50, h50, (true, (j50, k50, ()), dflt .unit), ()), (), ()), (l50, m50, n50, o50, q50, ()))
 else none
 else
 bif eqL f50 then
 some (((f50, h50, zR0, ()), (), ()), (l50, m50, n50, o50, q50, ()))
 else none
 else none
 else none
 else
 bif eqL w49 then
 bif eqL l46 then
 Option.bind (p99_4 fu ((w49, x49, zR0, ()), (h26, s39, l46, u49, c50, ()), ())) fun ⟨⟨⟨s50, t50, ⟨u50, ⟨w50, x50, _⟩, _⟩, _⟩, _, _⟩, ⟨y50, z50, a51, c51, f51, _⟩⟩ =>
 bif u50 then
 bif eqL s50 then
 some (((s50, t50, (true, (w50, x50, ()), dflt .unit), ()), (), ()), (y50, z50, a51, c51, f51, ()))
 else none
 else
 bif eqL s50 then
 some (((s50, t50, zR0, ()), (), ()), (y50, z50, a51, c51, f51, ()))
 else none
 else none
 else none
 else none
 else
 bif eqL n49 then
 Option.bind (p15_2 fu ((n49, o49, zR0, ()), ())) fun ⟨⟨⟨h51, i51, ⟨j51, ⟨k51, l51, _⟩, _⟩, _⟩, _, _⟩, m51⟩ =>
 bif j51 then
 bif eqL h51 then
 bif eqL l46 then
 Option.bind (p99_4 fu ((h51, i51, (true, (k51, l51, ()), dflt .unit), ()), (h26, s39, l46, u49, m51, ()), ())) fun ⟨⟨⟨n51, o51, ⟨q51, ⟨s51, t51, _⟩, _⟩, _⟩, _, _⟩, ⟨u51, w51, x51, y51, z51, _⟩⟩ =>
 bif q51 then
 bif eqL n51 then
 some (((n51, o51, (true, (s51, t51, ()), dflt .unit), ()), (), ()), (u51, w51, x51, y51, z51, ()))
 else none
 else
 bif eqL n51 then
 some (((n51, o51, zR0, ()), (), ()), (u51, w51, x51, y51, z51, ()))
 else none
 else none
 else none
 else
 bif eqL h51 then
 bif eqL l46 then
 Option.bind (p99_4 fu ((h51, i51, zR0, ()), (h26, s39, l46, u49, m51, ()), ())) fun ⟨⟨⟨a52, c52, ⟨f52, ⟨h52, i52, _⟩, _⟩, _⟩, _, _⟩, ⟨j52, k52, l52, m52, n52, _⟩⟩ =>
 bif f52 then
 bif eqL a52 then
 some (((a52, c52, (true, (h52, i52, ()), dflt .unit), ()), (), ()), (j52, k52, l52, m52, n52, ()))
 else none
 else
 bif eqL a52 then
 some (((a52, c52, zR0, ()), (), ()), (j52, k52, l52, m52, n52, ()))
 else none
 else none
 else none
 else none
 else none
 else none
 else none
 else none
def e82_2 (fu : Nat) : Ent := ⟨82, (.cons Y3 .nil), (.cons Y0 (.cons .dead .nil)), Y9, p82_2 fu⟩
def d82_2 (fu : Nat) : DC := (.seq (.region [opD 2 (.alloc 65 5 [vU, vT, vS, vU, vU])] [[]] false) (.seq (.region [mvD 3 0, mvD 4 0, oqD 5 (.call 15 [(tD 4)]) (.ent (e15_2 fu)), mvD 6 0, oqD 7 (.call 69 [(tD 6), (cD 32)]) (.ent (e69_2 fu)), mvD 8 0, oqD 9 (.call 67 [(tD 8), (cD 256)]) (.ent (e67_2 fu)), mvD 10 0, oqD 11 (.call 15 [(tD 10)]) (.ent (e15_2 fu)), mvD 12 0, oqD 13 (.call 15 [(tD 12)]) (.ent (e15_2 fu)), opD 14 (.build 5 [vU, vT, vS, vU, vU] [(0, (1, (tD 5))), (1, (1, (tD 7))), (2, (1, (tD 9))), (3, (1, (tD 11))), (4, (1, (tD 13)))]), oqD 15 (.call 99 [(tD 3), (tD 14)]) (.ent (e99_4 fu)), onD (.store 5 (tD 2) (tD 15))] [[], [], [1], [], [3, 2], [], [5, 4], [], [7, 6], [], [9, 8], [2, 4, 6, 8, 10], [0, 11, 10], [12, 12, 0, 1, 2, 3, 4, 5, 6, 7, 8, 9, 10, 11, 12]] false) .ret))
set_option maxRecDepth 1000000 in
theorem v82_2 (fu : Nat) : evF fu (d82_2 fu) rs82 16 (e82_2 fu).ash (e82_2 fu).osh (e82_2 fu).vsh = p82_2 fu := by kernel_rfl
set_option maxRecDepth 1000000 in
theorem b82_2 (fu : Nat) : BodyD Tryd.prog 82 16 (d82_2 fu).erase rs82 := bodyD_mk Tryd.func82 (by kernel_rfl) (by kernel_rfl) (by kernel_rfl) (by kernel_rfl)
theorem g82_2 (fu : Nat) : (e82_2 fu).Good Tryd.prog := good_by orders (b82_2 fu) (l := [e15_2 fu, e69_2 fu, e67_2 fu, e15_2 fu, e15_2 fu, e99_4 fu]) (by kernel_rfl) ⟨g15_2 fu, g69_2 fu, g67_2 fu, g15_2 fu, g15_2 fu, g99_4 fu, trivial⟩ (by kernel_rfl) (v82_2 fu)
def rs28 : List RVx := [(.tmp 6)]
/-- gazette/gazettelaw01.reads -/
def p28_2 (fu : Nat) : ((List (Int)) × ((Int) × (((Bool) × (((Int) × ((Int) × (Unit))) × (Unit))) × (Unit)))) × (((List (Int)) × ((Int) × ((Int) × ((Int) × (Unit))))) × (((Int) × ((Int) × (Unit))) × (Unit))) → Option ((((List (Int)) × ((Int) × (((Bool) × (((Int) × ((Int) × (Unit))) × (Unit))) × (Unit)))) × ((Unit) × (((List (Int)) × ((Int) × ((Int) × ((Int) × (Unit))))) × (Unit)))) × (Bool)) := fun ⟨⟨a, c, ⟨f, ⟨h, i, _⟩, _⟩, _⟩, ⟨j, k, l, m, _⟩, ⟨n, o, _⟩, _⟩ =>
bif f then
 bif (n == (0 : Int)) then
 bif eqL a then
 Option.bind (p15_2 fu ((a, c, (true, (h, i, ()), dflt .unit), ()), ())) fun ⟨⟨⟨q, s, ⟨t, ⟨u, w, _⟩, _⟩, _⟩, _, _⟩, x⟩ =>
 bif t then
 Option.bind (p51 fu ((j, k, l, m, ()), ())) fun ⟨⟨⟨y, z, a0, c0, _⟩, _⟩, f0⟩ =>
 bif eqL q then
 some (((q, s, (true, (u, w, ()), dflt .unit), ()), (), (y, z, a0, c0, ()), ()), (x == f0))
 else none
 else
 Option.bind (p51 fu ((j, k, l, m, ()), ())) fun ⟨⟨⟨h0, i0, j0, k0, _⟩, _⟩, l0⟩ =>
 bif eqL q then
 some (((q, s, zR0, ()), (), (h0, i0, j0, k0, ()), ()), (x == l0))
 else none
 else none
 else
 bif (n == (1 : Int)) then
 bif eqL a then
 Option.bind (p48_2 fu ((a, c, (true, (h, i, ()), dflt .unit), ()), ())) fun ⟨⟨⟨m0, n0, ⟨o0, ⟨q0, s0, _⟩, _⟩, _⟩, _, _⟩, t0⟩ =>
 bif o0 then
 Option.bind (p65 fu ((j, k, l, m, ()), ())) fun ⟨⟨⟨u0, w0, x0, y0, _⟩, _⟩, z0⟩ =>
 bif eqL m0 then
 some (((m0, n0, (true, (q0, s0, ()), dflt .unit), ()), (), (u0, w0, x0, y0, ()), ()), (t0 == z0))
 else none
 else
 Option.bind (p65 fu ((j, k, l, m, ()), ())) fun ⟨⟨⟨a1, c1, f1, h1, _⟩, _⟩, i1⟩ =>
 bif eqL m0 then
 some (((m0, n0, zR0, ()), (), (a1, c1, f1, h1, ()), ()), (t0 == i1))
 else none
 else none
 else
 bif (n == (2 : Int)) then
 bif eqL a then
 Option.bind (p18_2 fu ((a, c, (true, (h, i, ()), dflt .unit), ()), ())) fun ⟨⟨⟨j1, k1, ⟨l1, ⟨m1, n1, _⟩, _⟩, _⟩, _, _⟩, o1⟩ =>
 bif l1 then
 Option.bind (p66 fu ((j, k, l, m, ()), ())) fun ⟨⟨⟨q1, s1, t1, u1, _⟩, _⟩, w1⟩ =>
 bif eqL j1 then
 some (((j1, k1, (true, (m1, n1, ()), dflt .unit), ()), (), (q1, s1, t1, u1, ()), ()), o1 == w1)
 else none
 else
 Option.bind (p66 fu ((j, k, l, m, ()), ())) fun ⟨⟨⟨x1, y1, z1, a2, _⟩, _⟩, c2⟩ =>
 bif eqL j1 then
 some (((j1, k1, zR0, ()), (), (x1, y1, z1, a2, ()), ()), o1 == c2)
 else none
 else none
 else
 bif (n == (3 : Int)) then
 bif eqL a then
 Option.bind (p67_2 fu ((a, c, (true, (h, i, ()), dflt .unit), ()), o, ())) fun ⟨⟨⟨f2, h2, ⟨i2, ⟨j2, k2, _⟩, _⟩, _⟩, _, _⟩, l2⟩ =>
 bif i2 then
 bif eqL l2 then
 Option.bind (p68 fu ((j, k, l, m, ()), o, ())) fun ⟨⟨⟨m2, n2, o2, q2, _⟩, _⟩, s2⟩ =>
 bif eqL s2 then
 bif eqL f2 then
 some (((f2, h2, (true, (j2, k2, ()), dflt .unit), ()), (), (m2, n2, o2, q2, ()), ()), ByteArray.toList (strOfNums l2) == ByteArray.toList (strOfNums s2))
 else none
 else none
 else none
 else
 bif eqL l2 then
 Option.bind (p68 fu ((j, k, l, m, ()), o, ())) fun ⟨⟨⟨t2, u2, w2, x2, _⟩, _⟩, y2⟩ =>
 bif eqL y2 then
 bif eqL f2 then
 some (((f2, h2, zR0, ()), (), (t2, u2, w2, x2, ()), ()), ByteArray.toList (strOfNums l2) == ByteArray.toList (strOfNums y2))
 else none
 else none
 else none
 else none
 else
 bif (n == (4 : Int)) then
 bif eqL a then
 Option.bind (p69_2 fu ((a, c, (true, (h, i, ()), dflt .unit), ()), o, ())) fun ⟨⟨⟨z2, a3, ⟨c3, ⟨f3, h3, _⟩, _⟩, _⟩, _, _⟩, i3⟩ =>
 bif c3 then
 Option.bind (p68 fu ((j, k, l, m, ()), o, ())) fun ⟨⟨⟨j3, k3, l3, m3, _⟩, _⟩, n3⟩ =>
 bif eqL n3 then
 bif eqL z2 then
 some (((z2, a3, (true, (f3, h3, ()), dflt .unit), ()), (), (j3, k3, l3, m3, ()), ()), ByteArray.toList i3 == ByteArray.toList (strOfNums n3))
 else none
 else none
 else
 Option.bind (p68 fu ((j, k, l, m, ()), o, ())) fun ⟨⟨⟨o3, q3, s3, t3, _⟩, _⟩, u3⟩ =>
 bif eqL u3 then
 bif eqL z2 then
 some (((z2, a3, zR0, ()), (), (o3, q3, s3, t3, ()), ()), ByteArray.toList i3 == ByteArray.toList (strOfNums u3))
 else none
 else none
 else none
 else
 bif (n == (5 : Int)) then
 bif eqL a then
 Option.bind (p71_2 fu ((a, c, (true, (h, i, ()), dflt .unit), ()), ())) fun ⟨⟨⟨w3, x3, ⟨y3, ⟨z3, a4, _⟩, _⟩, _⟩, _, _⟩, ⟨c4, f4, _⟩⟩ =>
 bif y3 then
 Option.bind (p72 fu ((j, k, l, m, ()), ())) fun ⟨⟨⟨h4, i4, j4, k4, _⟩, _⟩, ⟨l4, m4, _⟩⟩ =>
 bif eqL l4 then
 bif eqL m4 then
 Option.bind (p70 fu ((c4, f4, ()), (l4, m4, ()), ())) fun ⟨_, n4⟩ =>
 bif eqL w3 then
 some (((w3, x3, (true, (z3, a4, ()), dflt .unit), ()), (), (h4, i4, j4, k4, ()), ()), n4)
 else none
 else none
 else none
 else
 Option.bind (p72 fu ((j, k, l, m, ()), ())) fun ⟨⟨⟨o4, q4, s4, t4, _⟩, _⟩, ⟨u4, w4, _⟩⟩ =>
 bif eqL u4 then
 bif eqL w4 then
 Option.bind (p70 fu ((c4, f4, ()), (u4, w4, ()), ())) fun ⟨_, x4⟩ =>
 bif eqL w3 then
 some (((w3, x3, zR0, ()), (), (o4, q4, s4, t4, ()), ()), x4)
 else none
 else none
 else none
 else none
 else
 bif (n == (6 : Int)) then
 bif eqL a then
 Option.bind (p47_2 fu ((a, c, (true, (h, i, ()), dflt .unit), ()), ())) fun ⟨⟨⟨y4, z4, ⟨a5, ⟨c5, f5, _⟩, _⟩, _⟩, _, _⟩, ⟨h5, i5, j5, k5, l5, m5, _⟩⟩ =>
 bif a5 then
 Option.bind (p74 fu ((j, k, l, m, ()), ())) fun ⟨⟨⟨n5, o5, q5, s5, _⟩, _⟩, ⟨t5, u5, w5, x5, y5, z5, _⟩⟩ =>
 bif eqL x5 then
 bif eqL y5 then
 bif eqL z5 then
 Option.bind (p73 fu ((h5, i5, j5, k5, l5, m5, ()), (t5, u5, w5, x5, y5, z5, ()), ())) fun ⟨_, a6⟩ =>
 bif eqL y4 then
 some (((y4, z4, (true, (c5, f5, ()), dflt .unit), ()), (), (n5, o5, q5, s5, ()), ()), a6)
 else none
 else none
 else none
 else none
 else
 Option.bind (p74 fu ((j, k, l, m, ()), ())) fun ⟨⟨⟨c6, f6, h6, i6, _⟩, _⟩, ⟨j6, k6, l6, m6, n6, o6, _⟩⟩ =>
 bif eqL m6 then
 bif eqL n6 then
 bif eqL o6 then
 Option.bind (p73 fu ((h5, i5, j5, k5, l5, m5, ()), (j6, k6, l6, m6, n6, o6, ()), ())) fun ⟨_, q6⟩ =>
 bif eqL y4 then
 some (((y4, z4, zR0, ()), (), (c6, f6, h6, i6, ()), ()), q6)
 else none
 else none
 else none
 else none
 else none
 else
 bif (n == (7 : Int)) then
 bif eqL a then
 Option.bind (p49_2 fu ((a, c, (true, (h, i, ()), dflt .unit), ()), ())) fun ⟨⟨⟨s6, t6, ⟨u6, ⟨w6, x6, _⟩, _⟩, _⟩, _, _⟩, ⟨y6, z6, a7, c7, f7, _⟩⟩ =>
 bif u6 then
 Option.bind (p76 fu ((j, k, l, m, ()), ())) fun ⟨⟨⟨h7, i7, j7, k7, _⟩, _⟩, ⟨l7, m7, n7, o7, q7, _⟩⟩ =>
 bif eqL n7 then
 bif eqL o7 then
 bif eqL q7 then
 Option.bind (p75 fu ((y6, z6, a7, c7, f7, ()), (l7, m7, n7, o7, q7, ()), ())) fun ⟨_, s7⟩ =>
 bif eqL s6 then
 some (((s6, t6, (true, (w6, x6, ()), dflt .unit), ()), (), (h7, i7, j7, k7, ()), ()), s7)
 else none
 else none
 else none
 else none
 else
 Option.bind (p76 fu ((j, k, l, m, ()), ())) fun ⟨⟨⟨t7, u7, w7, x7, _⟩, _⟩, ⟨y7, z7, a8, c8, f8, _⟩⟩ =>
 bif eqL a8 then
 bif eqL c8 then
 bif eqL f8 then
 Option.bind (p75 fu ((y6, z6, a7, c7, f7, ()), (y7, z7, a8, c8, f8, ()), ())) fun ⟨_, h8⟩ =>
 bif eqL s6 then
 some (((s6, t6, zR0, ()), (), (t7, u7, w7, x7, ()), ()), h8)
 else none
 else none
 else none
 else none
 else none
 else
 bif (n == (8 : Int)) then
 bif eqL a then
 Option.bind (p77_2 fu ((a, c, (true, (h, i, ()), dflt .unit), ()), ())) fun ⟨⟨⟨i8, j8, ⟨k8, ⟨l8, m8, _⟩, _⟩, _⟩, _, _⟩, ⟨n8, o8, _⟩⟩ =>
 bif k8 then
 Option.bind (p78 fu ((j, k, l, m, ()), ())) fun ⟨⟨⟨q8, s8, t8, u8, _⟩, _⟩, ⟨w8, x8, _⟩⟩ =>
 bif eqL i8 then
 some (((i8, j8, (true, (l8, m8, ()), dflt .unit), ()), (), (q8, s8, t8, u8, ()), ()), (n8 == w8 && (o8 == x8 && true)))
 else none
 else
 Option.bind (p78 fu ((j, k, l, m, ()), ())) fun ⟨⟨⟨y8, z8, a9, c9, _⟩, _⟩, ⟨f9, h9, _⟩⟩ =>
 bif eqL i8 then
 some (((i8, j8, zR0, ()), (), (y8, z8, a9, c9, ()), ()), (n8 == f9 && (o8 == h9 && true)))
 else none
 else none
 else
 bif (n == (10 : Int)) then
 bif eqL a then
 Option.bind (p17_2 fu ((a, c, (true, (h, i, ()), dflt .unit), ()), o, ())) fun ⟨⟨⟨i9, j9, ⟨k9, ⟨l9, m9, _⟩, _⟩, _⟩, _, _⟩, n9⟩ =>
 bif k9 then
 Option.bind (p79 fu ((j, k, l, m, ()), o, ())) fun ⟨⟨⟨o9, q9, s9, t9, _⟩, _⟩, u9⟩ =>
 bif eqL i9 then
 some (((i9, j9, (true, (l9, m9, ()), dflt .unit), ()), (), (o9, q9, s9, t9, ()), ()), (n9 == u9))
 else none
 else
 Option.bind (p79 fu ((j, k, l, m, ()), o, ())) fun ⟨⟨⟨w9, x9, y9, z9, _⟩, _⟩, a10⟩ =>
 bif eqL i9 then
 some (((i9, j9, zR0, ()), (), (w9, x9, y9, z9, ()), ()), (n9 == a10))
 else none
 else none
 else
 bif (n == (11 : Int)) then
 bif eqL a then
 Option.bind (p41_2 fu ((a, c, (true, (h, i, ()), dflt .unit), ()), o, ())) fun ⟨⟨⟨c10, f10, ⟨h10, ⟨i10, j10, _⟩, _⟩, _⟩, _, _⟩, _⟩ =>
 bif h10 then
 Option.bind (p80 fu ((j, k, l, m, ()), o, ())) fun ⟨⟨⟨k10, l10, m10, n10, _⟩, _⟩, _⟩ =>
 bif eqL c10 then
 some (((c10, f10, (true, (i10, j10, ()), dflt .unit), ()), (), (k10, l10, m10, n10, ()), ()), true)
 else none
 else
 Option.bind (p80 fu ((j, k, l, m, ()), o, ())) fun ⟨⟨⟨o10, q10, s10, t10, _⟩, _⟩, _⟩ =>
 bif eqL c10 then
 some (((c10, f10, zR0, ()), (), (o10, q10, s10, t10, ()), ()), true)
 else none
 else none
 else
 bif eqL a then
 Option.bind (p82_2 fu ((a, c, (true, (h, i, ()), dflt .unit), ()), ())) fun ⟨⟨⟨u10, w10, ⟨x10, ⟨y10, z10, _⟩, _⟩, _⟩, _, _⟩, ⟨a11, c11, f11, h11, i11, _⟩⟩ =>
 bif x10 then
 Option.bind (p83 fu ((j, k, l, m, ()), ())) fun ⟨⟨⟨j11, k11, l11, m11, _⟩, _⟩, ⟨n11, o11, q11, s11, t11, _⟩⟩ =>
 bif eqL q11 then
 Option.bind (p81 fu ((a11, c11, f11, h11, i11, ()), (n11, o11, q11, s11, t11, ()), ())) fun ⟨_, u11⟩ =>
 bif eqL u10 then
 some (((u10, w10, (true, (y10, z10, ()), dflt .unit), ()), (), (j11, k11, l11, m11, ()), ()), u11)
 else none
 else none
 else
 Option.bind (p83 fu ((j, k, l, m, ()), ())) fun ⟨⟨⟨w11, x11, y11, z11, _⟩, _⟩, ⟨a12, c12, f12, h12, i12, _⟩⟩ =>
 bif eqL f12 then
 Option.bind (p81 fu ((a11, c11, f11, h11, i11, ()), (a12, c12, f12, h12, i12, ()), ())) fun ⟨_, j12⟩ =>
 bif eqL u10 then
 some (((u10, w10, zR0, ()), (), (w11, x11, y11, z11, ()), ()), j12)
 else none
 else none
 else none
else
 bif (n == (0 : Int)) then
 bif eqL a then
 Option.bind (p15_2 fu ((a, c, zR0, ()), ())) fun ⟨⟨⟨k12, l12, ⟨m12, ⟨n12, o12, _⟩, _⟩, _⟩, _, _⟩, q12⟩ =>
 bif m12 then
 Option.bind (p51 fu ((j, k, l, m, ()), ())) fun ⟨⟨⟨s12, t12, u12, w12, _⟩, _⟩, x12⟩ =>
 bif eqL k12 then
 some (((k12, l12, (true, (n12, o12, ()), dflt .unit), ()), (), (s12, t12, u12, w12, ()), ()), (q12 == x12))
 else none
 else
 Option.bind (p51 fu ((j, k, l, m, ()), ())) fun ⟨⟨⟨y12, z12, a13, c13, _⟩, _⟩, f13⟩ =>
 bif eqL k12 then
 some (((k12, l12, zR0, ()), (), (y12, z12, a13, c13, ()), ()), (q12 == f13))
 else none
 else none
 else
 bif (n == (1 : Int)) then
 bif eqL a then
 Option.bind (p48_2 fu ((a, c, zR0, ()), ())) fun ⟨⟨⟨h13, i13, ⟨j13, ⟨k13, l13, _⟩, _⟩, _⟩, _, _⟩, m13⟩ =>
 bif j13 then
 Option.bind (p65 fu ((j, k, l, m, ()), ())) fun ⟨⟨⟨n13, o13, q13, s13, _⟩, _⟩, t13⟩ =>
 bif eqL h13 then
 some (((h13, i13, (true, (k13, l13, ()), dflt .unit), ()), (), (n13, o13, q13, s13, ()), ()), (m13 == t13))
 else none
 else
 Option.bind (p65 fu ((j, k, l, m, ()), ())) fun ⟨⟨⟨u13, w13, x13, y13, _⟩, _⟩, z13⟩ =>
 bif eqL h13 then
 some (((h13, i13, zR0, ()), (), (u13, w13, x13, y13, ()), ()), (m13 == z13))
 else none
 else none
 else
 bif (n == (2 : Int)) then
 bif eqL a then
 Option.bind (p18_2 fu ((a, c, zR0, ()), ())) fun ⟨⟨⟨a14, c14, ⟨f14, ⟨h14, i14, _⟩, _⟩, _⟩, _, _⟩, j14⟩ =>
 bif f14 then
 Option.bind (p66 fu ((j, k, l, m, ()), ())) fun ⟨⟨⟨k14, l14, m14, n14, _⟩, _⟩, o14⟩ =>
 bif eqL a14 then
 some (((a14, c14, (true, (h14, i14, ()), dflt .unit), ()), (), (k14, l14, m14, n14, ()), ()), j14 == o14)
 else none
 else
 Option.bind (p66 fu ((j, k, l, m, ()), ())) fun ⟨⟨⟨q14, s14, t14, u14, _⟩, _⟩, w14⟩ =>
 bif eqL a14 then
 some (((a14, c14, zR0, ()), (), (q14, s14, t14, u14, ()), ()), j14 == w14)
 else none
 else none
 else
 bif (n == (3 : Int)) then
 bif eqL a then
 Option.bind (p67_2 fu ((a, c, zR0, ()), o, ())) fun ⟨⟨⟨x14, y14, ⟨z14, ⟨a15, c15, _⟩, _⟩, _⟩, _, _⟩, f15⟩ =>
 bif z14 then
 bif eqL f15 then
 Option.bind (p68 fu ((j, k, l, m, ()), o, ())) fun ⟨⟨⟨h15, i15, j15, k15, _⟩, _⟩, l15⟩ =>
 bif eqL l15 then
 bif eqL x14 then
 some (((x14, y14, (true, (a15, c15, ()), dflt .unit), ()), (), (h15, i15, j15, k15, ()), ()), ByteArray.toList (strOfNums f15) == ByteArray.toList (strOfNums l15))
 else none
 else none
 else none
 else
 bif eqL f15 then
 Option.bind (p68 fu ((j, k, l, m, ()), o, ())) fun ⟨⟨⟨m15, n15, o15, q15, _⟩, _⟩, s15⟩ =>
 bif eqL s15 then
 bif eqL x14 then
 some (((x14, y14, zR0, ()), (), (m15, n15, o15, q15, ()), ()), ByteArray.toList (strOfNums f15) == ByteArray.toList (strOfNums s15))
 else none
 else none
 else none
 else none
 else
 bif (n == (4 : Int)) then
 bif eqL a then
 Option.bind (p69_2 fu ((a, c, zR0, ()), o, ())) fun ⟨⟨⟨t15, u15, ⟨w15, ⟨x15, y15, _⟩, _⟩, _⟩, _, _⟩, z15⟩ =>
 bif w15 then
 Option.bind (p68 fu ((j, k, l, m, ()), o, ())) fun ⟨⟨⟨a16, c16, f16, h16, _⟩, _⟩, i16⟩ =>
 bif eqL i16 then
 bif eqL t15 then
 some (((t15, u15, (true, (x15, y15, ()), dflt .unit), ()), (), (a16, c16, f16, h16, ()), ()), ByteArray.toList z15 == ByteArray.toList (strOfNums i16))
 else none
 else none
 else
 Option.bind (p68 fu ((j, k, l, m, ()), o, ())) fun ⟨⟨⟨j16, k16, l16, m16, _⟩, _⟩, n16⟩ =>
 bif eqL n16 then
 bif eqL t15 then
 some (((t15, u15, zR0, ()), (), (j16, k16, l16, m16, ()), ()), ByteArray.toList z15 == ByteArray.toList (strOfNums n16))
 else none
 else none
 else none
 else
 bif (n == (5 : Int)) then
 bif eqL a then
 Option.bind (p71_2 fu ((a, c, zR0, ()), ())) fun ⟨⟨⟨o16, q16, ⟨s16, ⟨t16, u16, _⟩, _⟩, _⟩, _, _⟩, ⟨w16, x16, _⟩⟩ =>
 bif s16 then
 Option.bind (p72 fu ((j, k, l, m, ()), ())) fun ⟨⟨⟨y16, z16, a17, c17, _⟩, _⟩, ⟨f17, h17, _⟩⟩ =>
 bif eqL f17 then
 bif eqL h17 then
 Option.bind (p70 fu ((w16, x16, ()), (f17, h17, ()), ())) fun ⟨_, i17⟩ =>
 bif eqL o16 then
 some (((o16, q16, (true, (t16, u16, ()), dflt .unit), ()), (), (y16, z16, a17, c17, ()), ()), i17)
 else none
 else none
 else none
 else
 Option.bind (p72 fu ((j, k, l, m, ()), ())) fun ⟨⟨⟨j17, k17, l17, m17, _⟩, _⟩, ⟨n17, o17, _⟩⟩ =>
 bif eqL n17 then
 bif eqL o17 then
 Option.bind (p70 fu ((w16, x16, ()), (n17, o17, ()), ())) fun ⟨_, q17⟩ =>
 bif eqL o16 then
 some (((o16, q16, zR0, ()), (), (j17, k17, l17, m17, ()), ()), q17)
 else none
 else none
 else none
 else none
 else
 bif (n == (6 : Int)) then
 bif eqL a then
 Option.bind (p47_2 fu ((a, c, zR0, ()), ())) fun ⟨⟨⟨s17, t17, ⟨u17, ⟨w17, x17, _⟩, _⟩, _⟩, _, _⟩, ⟨y17, z17, a18, c18, f18, h18, _⟩⟩ =>
 bif u17 then
 Option.bind (p74 fu ((j, k, l, m, ()), ())) fun ⟨⟨⟨i18, j18, k18, l18, _⟩, _⟩, ⟨m18, n18, o18, q18, s18, t18, _⟩⟩ =>
 bif eqL q18 then
 bif eqL s18 then
 bif eqL t18 then
 Option.bind (p73 fu ((y17, z17, a18, c18, f18, h18, ()), (m18, n18, o18, q18, s18, t18, ()), ())) fun ⟨_, u18⟩ =>
 bif eqL s17 then
 some (((s17, t17, (true, (w17, x17, ()), dflt .unit), ()), (), (i18, j18, k18, l18, ()), ()), u18)
 else none
 else none
 else none
 else none
 else
 Option.bind (p74 fu ((j, k, l, m, ()), ())) fun ⟨⟨⟨w18, x18, y18, z18, _⟩, _⟩, ⟨a19, c19, f19, h19, i19, j19, _⟩⟩ =>
 bif eqL h19 then
 bif eqL i19 then
 bif eqL j19 then
 Option.bind (p73 fu ((y17, z17, a18, c18, f18, h18, ()), (a19, c19, f19, h19, i19, j19, ()), ())) fun ⟨_, k19⟩ =>
 bif eqL s17 then
 some (((s17, t17, zR0, ()), (), (w18, x18, y18, z18, ()), ()), k19)
 else none
 else none
 else none
 else none
 else none
 else
 bif (n == (7 : Int)) then
 bif eqL a then
 Option.bind (p49_2 fu ((a, c, zR0, ()), ())) fun ⟨⟨⟨l19, m19, ⟨n19, ⟨o19, q19, _⟩, _⟩, _⟩, _, _⟩, ⟨s19, t19, u19, w19, x19, _⟩⟩ =>
 bif n19 then
 Option.bind (p76 fu ((j, k, l, m, ()), ())) fun ⟨⟨⟨y19, z19, a20, c20, _⟩, _⟩, ⟨f20, h20, i20, j20, k20, _⟩⟩ =>
 bif eqL i20 then
 bif eqL j20 then
 bif eqL k20 then
 Option.bind (p75 fu ((s19, t19, u19, w19, x19, ()), (f20, h20, i20, j20, k20, ()), ())) fun ⟨_, l20⟩ =>
 bif eqL l19 then
 some (((l19, m19, (true, (o19, q19, ()), dflt .unit), ()), (), (y19, z19, a20, c20, ()), ()), l20)
 else none
 else none
 else none
 else none
 else
 Option.bind (p76 fu ((j, k, l, m, ()), ())) fun ⟨⟨⟨m20, n20, o20, q20, _⟩, _⟩, ⟨s20, t20, u20, w20, x20, _⟩⟩ =>
 bif eqL u20 then
 bif eqL w20 then
 bif eqL x20 then
 Option.bind (p75 fu ((s19, t19, u19, w19, x19, ()), (s20, t20, u20, w20, x20, ()), ())) fun ⟨_, y20⟩ =>
 bif eqL l19 then
 some (((l19, m19, zR0, ()), (), (m20, n20, o20, q20, ()), ()), y20)
 else none
 else none
 else none
 else none
 else none
 else
 bif (n == (8 : Int)) then
 bif eqL a then
 Option.bind (p77_2 fu ((a, c, zR0, ()), ())) fun ⟨⟨⟨z20, a21, ⟨c21, ⟨f21, h21, _⟩, _⟩, _⟩, _, _⟩, ⟨i21, j21, _⟩⟩ =>
 bif c21 then
 Option.bind (p78 fu ((j, k, l, m, ()), ())) fun ⟨⟨⟨k21, l21, m21, n21, _⟩, _⟩, ⟨o21, q21, _⟩⟩ =>
 bif eqL z20 then
 some (((z20, a21, (true, (f21, h21, ()), dflt .unit), ()), (), (k21, l21, m21, n21, ()), ()), (i21 == o21 && (j21 == q21 && true)))
 else none
 else
 Option.bind (p78 fu ((j, k, l, m, ()), ())) fun ⟨⟨⟨s21, t21, u21, w21, _⟩, _⟩, ⟨x21, y21, _⟩⟩ =>
 bif eqL z20 then
 some (((z20, a21, zR0, ()), (), (s21, t21, u21, w21, ()), ()), (i21 == x21 && (j21 == y21 && true)))
 else none
 else none
 else
 bif (n == (10 : Int)) then
 bif eqL a then
 Option.bind (p17_2 fu ((a, c, zR0, ()), o, ())) fun ⟨⟨⟨z21, a22, ⟨c22, ⟨f22, h22, _⟩, _⟩, _⟩, _, _⟩, i22⟩ =>
 bif c22 then
 Option.bind (p79 fu ((j, k, l, m, ()), o, ())) fun ⟨⟨⟨j22, k22, l22, m22, _⟩, _⟩, n22⟩ =>
 bif eqL z21 then
 some (((z21, a22, (true, (f22, h22, ()), dflt .unit), ()), (), (j22, k22, l22, m22, ()), ()), (i22 == n22))
 else none
 else
 Option.bind (p79 fu ((j, k, l, m, ()), o, ())) fun ⟨⟨⟨o22, q22, s22, t22, _⟩, _⟩, u22⟩ =>
 bif eqL z21 then
 some (((z21, a22, zR0, ()), (), (o22, q22, s22, t22, ()), ()), (i22 == u22))
 else none
 else none
 else
 bif (n == (11 : Int)) then
 bif eqL a then
 Option.bind (p41_2 fu ((a, c, zR0, ()), o, ())) fun ⟨⟨⟨w22, x22, ⟨y22, ⟨z22, a23, _⟩, _⟩, _⟩, _, _⟩, _⟩ =>
 bif y22 then
 Option.bind (p80 fu ((j, k, l, m, ()), o, ())) fun ⟨⟨⟨c23, f23, h23, i23, _⟩, _⟩, _⟩ =>
 bif eqL w22 then
 some (((w22, x22, (true, (z22, a23, ()), dflt .unit), ()), (), (c23, f23, h23, i23, ()), ()), true)
 else none
 else
 Option.bind (p80 fu ((j, k, l, m, ()), o, ())) fun ⟨⟨⟨j23, k23, l23, m23, _⟩, _⟩, _⟩ =>
 bif eqL w22 then
 some (((w22, x22, zR0, ()), (), (j23, k23, l23, m23, ()), ()), true)
 else none
 else none
 else
 bif eqL a then
 Option.bind (p82_2 fu ((a, c, zR0, ()), ())) fun ⟨⟨⟨n23, o23, ⟨q23, ⟨s23, t23, _⟩, _⟩, _⟩, _, _⟩, ⟨u23, w23, x23, y23, z23, _⟩⟩ =>
 bif q23 then
 Option.bind (p83 fu ((j, k, l, m, ()), ())) fun ⟨⟨⟨a24, c24, f24, h24, _⟩, _⟩, ⟨i24, j24, k24, l24, m24, _⟩⟩ =>
 bif eqL k24 then
 Option.bind (p81 fu ((u23, w23, x23, y23, z23, ()), (i24, j24, k24, l24, m24, ()), ())) fun ⟨_, n24⟩ =>
 bif eqL n23 then
 some (((n23, o23, (true, (s23, t23, ()), dflt .unit), ()), (), (a24, c24, f24, h24, ()), ()), n24)
 else none
 else none
 else
 Option.bind (p83 fu ((j, k, l, m, ()), ())) fun ⟨⟨⟨o24, q24, s24, t24, _⟩, _⟩, ⟨u24, w24, x24, y24, z24, _⟩⟩ =>
 bif eqL x24 then
 Option.bind (p81 fu ((u23, w23, x23, y23, z23, ()), (u24, w24, x24, y24, z24, ()), ())) fun ⟨_, a25⟩ =>
 bif eqL n23 then
 some (((n23, o23, zR0, ()), (), (o24, q24, s24, t24, ()), ()), a25)
 else none
 else none
 else none
def e28_2 (fu : Nat) : Ent := ⟨28, (.cons Y3 (.cons Y1 (.cons (.agg 2 (.cons (.hole (.int .i64)) (.cons (.hole (.int .i64)) .nil))) .nil))), (.cons Y0 (.cons .dead (.cons Y2 .nil))), (.hole .bool), p28_2 fu⟩
def d28_2 (fu : Nat) : DC := (.seq (.region [opD 5 (.box 76 2 (tD 2)), opD 6 (.mov (.const vB))] [[], []] false) (.seq (.seq (.region [opD 7 (.faddr 0 (tD 5)), opD 8 (.load false 1 (tD 7))] [[], [0]] false) (.block 0 (.seq (.region [opD 10 (.bin .eql (tD 8) (cD 0)), mvD 9 10] [[], [0]] false) (.cond (.tmp 9) (.seq (.region [mvD 11 0, oqD 12 (.call 15 [(tD 11)]) (.ent (e15_2 fu)), mvD 13 1, oqD 14 (.call 51 [(tD 13)]) (.ent (e51 fu)), opD 15 (.bin .eql (tD 12) (tD 14)), mvD 6 15] [[], [0], [], [2, 1], [1, 3], [4, 3, 0, 1, 2, 3, 4]] false) .ret) (.seq (.region [opD 17 (.bin .eql (tD 8) (cD 1)), mvD 16 17] [[], [0]] false) (.cond (.tmp 16) (.seq (.region [mvD 18 0, oqD 19 (.call 48 [(tD 18)]) (.ent (e48_2 fu)), mvD 20 1, oqD 21 (.call 65 [(tD 20)]) (.ent (e65 fu)), opD 22 (.bin .eql (tD 19) (tD 21)), mvD 6 22] [[], [0], [], [2, 1], [1, 3], [4, 3, 0, 1, 2, 3, 4]] false) .ret) (.seq (.region [opD 24 (.bin .eql (tD 8) (cD 2)), mvD 23 24] [[], [0]] false) (.cond (.tmp 23) (.seq (.region [mvD 25 0, oqD 26 (.call 18 [(tD 25)]) (.ent (e18_2 fu)), mvD 27 1, oqD 28 (.call 66 [(tD 27)]) (.ent (e66 fu)), opD 29 (.beq false (tD 26) (tD 28)), mvD 6 29] [[], [0], [], [2, 1], [1, 3], [4, 3, 0, 1, 2, 3, 4]] false) .ret) (.seq (.region [opD 31 (.bin .eql (tD 8) (cD 3)), mvD 30 31] [[], [0]] false) (.cond (.tmp 30) (.seq (.region [mvD 32 0, opD 33 (.faddr 1 (tD 5)), opD 34 (.load false 1 (tD 33)), oqD 35 (.call 67 [(tD 32), (tD 34)]) (.ent (e67_2 fu)), opD 36 (.b2s (tD 35)), mvD 37 1, opD 38 (.faddr 1 (tD 5)), opD 39 (.load false 1 (tD 38)), oqD 40 (.call 68 [(tD 37), (tD 39)]) (.ent (e68 fu)), opD 41 (.b2s (tD 40)), opD 42 (.bin .eql (tD 36) (tD 41)), mvD 6 42] [[], [], [1], [0, 2], [3], [], [], [6], [5, 7, 3], [8], [4, 9], [10, 8, 0, 1, 2, 3, 4, 5, 6, 7, 8, 9, 10]] true) .ret) (.seq (.region [opD 44 (.bin .eql (tD 8) (cD 4)), mvD 43 44] [[], [0]] false) (.cond (.tmp 43) (.seq (.region [mvD 45 0, opD 46 (.faddr 1 (tD 5)), opD 47 (.load false 1 (tD 46)), oqD 48 (.call 69 [(tD 45), (tD 47)]) (.ent (e69_2 fu)), mvD 49 1, opD 50 (.faddr 1 (tD 5)), opD 51 (.load false 1 (tD 50)), oqD 52 (.call 68 [(tD 49), (tD 51)]) (.ent (e68 fu)), opD 53 (.b2s (tD 52)), opD 54 (.bin .eql (tD 48) (tD 53)), mvD 6 54] [[], [], [1], [0, 2], [], [], [5], [4, 6, 3], [7], [3, 8], [9, 7, 0, 1, 2, 3, 4, 5, 6, 7, 8, 9]] true) .ret) (.seq (.region [opD 56 (.bin .eql (tD 8) (cD 5)), mvD 55 56] [[], [0]] false) (.cond (.tmp 55) (.seq (.region [mvD 57 0, oqD 58 (.call 71 [(tD 57)]) (.ent (e71_2 fu)), mvD 59 1, oqD 60 (.call 72 [(tD 59)]) (.ent (e72 fu)), oqD 61 (.call 70 [(tD 58), (tD 60)]) (.ent (e70 fu)), mvD 6 61] [[], [0], [], [2, 1], [1, 3, 3], [4, 4, 0, 1, 2, 3, 4]] false) .ret) (.seq (.region [opD 63 (.bin .eql (tD 8) (cD 6)), mvD 62 63] [[], [0]] false) (.cond (.tmp 62) (.seq (.region [mvD 64 0, oqD 65 (.call 47 [(tD 64)]) (.ent (e47_2 fu)), mvD 66 1, oqD 67 (.call 74 [(tD 66)]) (.ent (e74 fu)), oqD 68 (.call 73 [(tD 65), (tD 67)]) (.ent (e73 fu)), mvD 6 68] [[], [0], [], [2, 1], [1, 3, 3], [4, 4, 0, 1, 2, 3, 4]] false) .ret) (.seq (.region [opD 70 (.bin .eql (tD 8) (cD 7)), mvD 69 70] [[], [0]] false) (.cond (.tmp 69) (.seq (.region [mvD 71 0, oqD 72 (.call 49 [(tD 71)]) (.ent (e49_2 fu)), mvD 73 1, oqD 74 (.call 76 [(tD 73)]) (.ent (e76 fu)), oqD 75 (.call 75 [(tD 72), (tD 74)]) (.ent (e75 fu)), mvD 6 75] [[], [0], [], [2, 1], [1, 3, 3], [4, 4, 0, 1, 2, 3, 4]] false) .ret) (.seq (.region [opD 77 (.bin .eql (tD 8) (cD 8)), mvD 76 77] [[], [0]] false) (.cond (.tmp 76) (.seq (.region [mvD 78 0, oqD 79 (.call 77 [(tD 78)]) (.ent (e77_2 fu)), mvD 80 1, oqD 81 (.call 78 [(tD 80)]) (.ent (e78 fu)), opD 82 (.seq false [.str, .str] (tD 79) (tD 81)), mvD 6 82] [[], [0], [], [2, 1], [1, 3], [4, 3, 0, 1, 2, 3, 4]] false) .ret) (.seq (.region [opD 84 (.bin .eql (tD 8) (cD 10)), mvD 83 84] [[], [0]] false) (.cond (.tmp 83) (.seq (.region [mvD 85 0, opD 86 (.faddr 1 (tD 5)), opD 87 (.load false 1 (tD 86)), oqD 88 (.call 17 [(tD 85), (tD 87)]) (.ent (e17_2 fu)), mvD 89 1, opD 90 (.faddr 1 (tD 5)), opD 91 (.load false 1 (tD 90)), oqD 92 (.call 79 [(tD 89), (tD 91)]) (.ent (e79 fu)), opD 93 (.bin .eql (tD 88) (tD 92)), mvD 6 93] [[], [], [1], [0, 2], [], [], [5], [4, 6, 3], [3, 7], [8, 7, 0, 1, 2, 3, 4, 5, 6, 7, 8]] true) .ret) (.seq (.region [opD 95 (.bin .eql (tD 8) (cD 11)), mvD 94 95] [[], [0]] false) (.cond (.tmp 94) (.seq (.region [mvD 96 0, opD 97 (.faddr 1 (tD 5)), opD 98 (.load false 1 (tD 97)), oqD 99 (.call 41 [(tD 96), (tD 98)]) (.ent (e41_2 fu))] [[], [], [1], [0, 2]] false) (.seq (.region [mvD 100 1, opD 101 (.faddr 1 (tD 5)), opD 102 (.load false 1 (tD 101)), oqD 103 (.call 80 [(tD 100), (tD 102)]) (.ent (e80 fu))] [[], [], [1], [0, 2]] false) (.seq (.region [opD 6 (.mov (.const (.bool true)))] [[]] false) .ret))) .skip)))))))))))))))))))))))) (.seq (.region [mvD 104 0, oqD 105 (.call 82 [(tD 104)]) (.ent (e82_2 fu)), mvD 106 1, oqD 107 (.call 83 [(tD 106)]) (.ent (e83 fu)), oqD 108 (.call 81 [(tD 105), (tD 107)]) (.ent (e81 fu)), mvD 6 108] [[], [0], [], [2, 1], [1, 3, 3], [4, 4, 0, 1, 2, 3, 4]] false) .ret)))
set_option maxRecDepth 1000000 in
theorem v28_2 (fu : Nat) : evF fu (d28_2 fu) rs28 109 (e28_2 fu).ash (e28_2 fu).osh (e28_2 fu).vsh = p28_2 fu := by kernel_rfl
set_option maxRecDepth 1000000 in
theorem b28_2 (fu : Nat) : BodyD Tryd.prog 28 109 (d28_2 fu).erase rs28 := bodyD_mk Tryd.func28 (by kernel_rfl) (by kernel_rfl) (by kernel_rfl) (by kernel_rfl)
theorem g28_2 (fu : Nat) : (e28_2 fu).Good Tryd.prog := good_by orders (b28_2 fu) (l := [e15_2 fu, e51 fu, e48_2 fu, e65 fu, e18_2 fu, e66 fu, e67_2 fu, e68 fu, e69_2 fu, e68 fu, e71_2 fu, e72 fu, e70 fu, e47_2 fu, e74 fu, e73 fu, e49_2 fu, e76 fu, e75 fu, e77_2 fu, e78 fu, e17_2 fu, e79 fu, e41_2 fu, e80 fu, e82_2 fu, e83 fu, e81 fu]) (by kernel_rfl) ⟨g15_2 fu, g51 fu, g48_2 fu, g65 fu, g18_2 fu, g66 fu, g67_2 fu, g68 fu, g69_2 fu, g68 fu, g71_2 fu, g72 fu, g70 fu, g47_2 fu, g74 fu, g73 fu, g49_2 fu, g76 fu, g75 fu, g77_2 fu, g78 fu, g17_2 fu, g79 fu, g41_2 fu, g80 fu, g82_2 fu, g83 fu, g81 fu, trivial⟩ (by kernel_rfl) (v28_2 fu)
def rs6 : List RVx := [(.tmp 4)]
/-- gazette/gazettelaw01.CodecReads -/
def p6 (fu : Nat) : (List (Int)) × ((List (D_gazettelaw01_Step)) × (Unit)) → Option ((Unit) × (Bool)) := fun ⟨a, c, _⟩ =>
Option.bind (p11 fu ()) fun ⟨_, f⟩ =>
bif decide (0 = List.length ([] : List (Int))) then
 bif decide (List.length ([] : List (Int)) + List.length a ≤ maxLen ∧ (List.length ([] : List (Int)) + List.length a) * 1 ≤ 140737488355328) then
 bif eqL (([] : List (Int)) ++ a) then
 Option.bind (p14 fu ((([] : List (Int)) ++ a), ())) fun ⟨_, ⟨h, i, _, _⟩⟩ =>
 bif !f then
 some ((), false)
 else
 bif eqL (([] : List (Int)) ++ a) then
 bif !(ByteArray.toList (strOfNums (([] : List (Int)) ++ a)) == ByteArray.toList (strOfNums a)) then
 some ((), false)
 else
 bif eqL (([] : List (Int)) ++ a) then
 loopO (S := ((List (Int)) × ((Int) × (Unit))) × (Unit)) fu (fun ⟨⟨j, k, _⟩, _⟩ =>
 bif decide (k < ((List.length j) : Int)) then
 bif decide ((0 : Int) ≤ k ∧ k < (List.length j : Int)) then
 bif decide (Int.toNat k < List.length j) then
 bif decide ((0 : Int) ≤ k ∧ k < (List.length j : Int)) then
 bif decide (Int.toNat k < List.length j) then
 bif decide (List.length j = List.length (List.set j (Int.toNat k) (IntKind.wrap .u8 ((List.getD j (Int.toNat k) (dflt (.int .u8))) + (1 : Int))))) then
 some (.inl (((List.set j (Int.toNat k) (IntKind.wrap .u8 ((List.getD j (Int.toNat k) (dflt (.int .u8))) + (1 : Int)))), IntKind.wrap .i64 (k + (1 : Int)), ()), ()))
 else none
 else none
 else none
 else none
 else none
 else
 inrO (bif eqL h then
 loopO (S := ((Int) × (Unit)) × (((List (Int)) × ((Int) × (((Bool) × (((Int) × ((Int) × (Unit))) × (Unit))) × (Unit)))) × (((List (Int)) × ((Int) × ((Int) × ((Int) × (Unit))))) × (Unit)))) fu (fun ⟨⟨l, _⟩, ⟨⟨m, n, ⟨o, ⟨q, s, _⟩, _⟩, _⟩, ⟨t, u, w, x, _⟩, _⟩⟩ =>
 bif o then
 bif decide (l < (List.length c : Int)) then
 bif decide ((0 : Int) ≤ l ∧ l < (List.length c : Int)) then
 bif decide (Int.toNat l < List.length c) then
 bif eqL m then
 Option.bind (p28_2 fu ((m, n, (true, (q, s, ()), dflt .unit), ()), (t, u, w, x, ()), ((List.getD c (Int.toNat l) (dflt T_gazettelaw01_Step)).1, (List.getD c (Int.toNat l) (dflt T_gazettelaw01_Step)).2, ()), ())) fun ⟨⟨⟨y, z, ⟨a0, ⟨c0, f0, _⟩, _⟩, _⟩, _, ⟨h0, i0, j0, k0, _⟩, _⟩, l0⟩ =>
 bif a0 then
 bif eqL y then
 Option.bind (p16_2 fu ((y, z, (true, (c0, f0, ()), dflt .unit), ()), ())) fun ⟨⟨⟨m0, n0, ⟨o0, ⟨q0, s0, _⟩, _⟩, _⟩, _, _⟩, ⟨t0, u0, _⟩⟩ =>
 bif o0 then
 bif eqL m0 then
 Option.bind (p19_2 fu ((m0, n0, (true, (q0, s0, ()), dflt .unit), ()), ())) fun ⟨⟨⟨w0, x0, ⟨y0, ⟨z0, a1, _⟩, _⟩, _⟩, _, _⟩, c1⟩ =>
 bif y0 then
 bif !l0 then
 inrO (some ((), false))
 else
 bif (t0 != j0) then
 inrO (some ((), false))
 else
 bif (u0 != k0) then
 inrO (some ((), false))
 else
 Option.bind (p29 fu ((h0, i0, j0, k0, ()), ())) fun ⟨_, f1⟩ =>
 bif (c1 != f1) then
 inrO (some ((), false))
 else
 bif eqL w0 then
 some (.inl ((IntKind.wrap .i64 (l + (1 : Int)), ()), ((w0, x0, (true, (z0, a1, ()), dflt .unit), ()), (h0, i0, j0, k0, ()), ())))
 else none
 else
 bif !l0 then
 inrO (some ((), false))
 else
 bif (t0 != j0) then
 inrO (some ((), false))
 else
 bif (u0 != k0) then
 inrO (some ((), false))
 else
 Option.bind (p29 fu ((h0, i0, j0, k0, ()), ())) fun ⟨_, h1⟩ =>
 bif (c1 != h1) then
 inrO (some ((), false))
 else
 bif eqL w0 then
 some (.inl ((IntKind.wrap .i64 (l + (1 : Int)), ()), ((w0, x0, zR0, ()), (h0, i0, j0, k0, ()), ())))
 else none
 else none
 else
 bif eqL m0 then
 Option.bind (p19_2 fu ((m0, n0, zR0, ()), ())) fun ⟨⟨⟨i1, j1, ⟨k1, ⟨l1, m1, _⟩, _⟩, _⟩, _, _⟩, n1⟩ =>
 bif k1 then
 bif !l0 then
 inrO (some ((), false))
 else
 bif (t0 != j0) then
 inrO (some ((), false))
 else
 bif (u0 != k0) then
 inrO (some ((), false))
 else
 Option.bind (p29 fu ((h0, i0, j0, k0, ()), ())) fun ⟨_, o1⟩ =>
 bif (n1 != o1) then
 inrO (some ((), false))
 else
 bif eqL i1 then
 some (.inl ((IntKind.wrap .i64 (l + (1 : Int)), ()), ((i1, j1, (true, (l1, m1, ()), dflt .unit), ()), (h0, i0, j0, k0, ()), ())))
 else none
 else
 bif !l0 then
 inrO (some ((), false))
 else
 bif (t0 != j0) then
 inrO (some ((), false))
 else
 bif (u0 != k0) then
 inrO (some ((), false))
 else
 Option.bind (p29 fu ((h0, i0, j0, k0, ()), ())) fun ⟨_, q1⟩ =>
 bif (n1 != q1) then
 inrO (some ((), false))
 else
 bif eqL i1 then
 some (.inl ((IntKind.wrap .i64 (l + (1 : Int)), ()), ((i1, j1, zR0, ()), (h0, i0, j0, k0, ()), ())))
 else none
 else none
 else none
 else
 bif eqL y then
 Option.bind (p16_2 fu ((y, z, zR0, ()), ())) fun ⟨⟨⟨s1, t1, ⟨u1, ⟨w1, x1, _⟩, _⟩, _⟩, _, _⟩, ⟨y1, z1, _⟩⟩ =>
 bif u1 then
 bif eqL s1 then
 Option.bind (p19_2 fu ((s1, t1, (true, (w1, x1, ()), dflt .unit), ()), ())) fun ⟨⟨⟨a2, c2, ⟨f2, ⟨h2, i2, _⟩, _⟩, _⟩, _, _⟩, j2⟩ =>
 bif f2 then
 bif !l0 then
 inrO (some ((), false))
 else
 bif (y1 != j0) then
 inrO (some ((), false))
 else
 bif (z1 != k0) then
 inrO (some ((), false))
 else
 Option.bind (p29 fu ((h0, i0, j0, k0, ()), ())) fun ⟨_, k2⟩ =>
 bif (j2 != k2) then
 inrO (some ((), false))
 else
 bif eqL a2 then
 some (.inl ((IntKind.wrap .i64 (l + (1 : Int)), ()), ((a2, c2, (true, (h2, i2, ()), dflt .unit), ()), (h0, i0, j0, k0, ()), ())))
 else none
 else
 bif !l0 then
 inrO (some ((), false))
 else
 bif (y1 != j0) then
 inrO (some ((), false))
 else
 bif (z1 != k0) then
 inrO (some ((), false))
 else
 Option.bind (p29 fu ((h0, i0, j0, k0, ()), ())) fun ⟨_, l2⟩ =>
 bif (j2 != l2) then
 inrO (some ((), false))
 else
 bif eqL a2 then
 some (.inl ((IntKind.wrap .i64 (l + (1 : Int)), ()), ((a2, c2, zR0, ()), (h0, i0, j0, k0, ()), ())))
 else none
 else none
 else
 bif eqL s1 then
 Option.bind (p19_2 fu ((s1, t1, zR0, ()), ())) fun ⟨⟨⟨m2, n2, ⟨o2, ⟨q2, s2, _⟩, _⟩, _⟩, _, _⟩, t2⟩ =>
 bif o2 then
 bif !l0 then
 inrO (some ((), false))
 else
 bif (y1 != j0) then
 inrO (some ((), false))
 else
 bif (z1 != k0) then
 inrO (some ((), false))
 else
 Option.bind (p29 fu ((h0, i0, j0, k0, ()), ())) fun ⟨_, u2⟩ =>
 bif (t2 != u2) then
 inrO (some ((), false))
 else
 bif eqL m2 then
 some (.inl ((IntKind.wrap .i64 (l + (1 : Int)), ()), ((m2, n2, (true, (q2, s2, ()), dflt .unit), ()), (h0, i0, j0, k0, ()), ())))
 else none
 else
 bif !l0 then
 inrO (some ((), false))
 else
 bif (y1 != j0) then
 inrO (some ((), false))
 else
 bif (z1 != k0) then
 inrO (some ((), false))
 else
 Option.bind (p29 fu ((h0, i0, j0, k0, ()), ())) fun ⟨_, w2⟩ =>
 bif (t2 != w2) then
 inrO (some ((), false))
 else
 bif eqL m2 then
 some (.inl ((IntKind.wrap .i64 (l + (1 : Int)), ()), ((m2, n2, zR0, ()), (h0, i0, j0, k0, ()), ())))
 else none
 else none
 else none
 else none
 else none
 else none
 else
 inrO (some ((), true))
 else
 bif decide (l < (List.length c : Int)) then
 bif decide ((0 : Int) ≤ l ∧ l < (List.length c : Int)) then
 bif decide (Int.toNat l < List.length c) then
 bif eqL m then
 Option.bind (p28_2 fu ((m, n, zR0, ()), (t, u, w, x, ()), ((List.getD c (Int.toNat l) (dflt T_gazettelaw01_Step)).1, (List.getD c (Int.toNat l) (dflt T_gazettelaw01_Step)).2, ()), ())) fun ⟨⟨⟨x2, y2, ⟨z2, ⟨a3, c3, _⟩, _⟩, _⟩, _, ⟨f3, h3, i3, j3, _⟩, _⟩, k3⟩ =>
 bif z2 then
 bif eqL x2 then
 Option.bind (p16_2 fu ((x2, y2, (true, (a3, c3, ()), dflt .unit), ()), ())) fun ⟨⟨⟨l3, m3, ⟨n3, ⟨o3, q3, _⟩, _⟩, _⟩, _, _⟩, ⟨s3, t3, _⟩⟩ =>
 bif n3 then
 bif eqL l3 then
 Option.bind (p19_2 fu ((l3, m3, (true, (o3, q3, ()), dflt .unit), ()), ())) fun ⟨⟨⟨u3, w3, ⟨x3, ⟨y3, z3, _⟩, _⟩, _⟩, _, _⟩, a4⟩ =>
 bif x3 then
 bif !k3 then
 inrO (some ((), false))
 else
 bif (s3 != i3) then
 inrO (some ((), false))
 else
 bif (t3 != j3) then
 inrO (some ((), false))
 else
 Option.bind (p29 fu ((f3, h3, i3, j3, ()), ())) fun ⟨_, c4⟩ =>
 bif (a4 != c4) then
 inrO (some ((), false))
 else
 bif eqL u3 then
 some (.inl ((IntKind.wrap .i64 (l + (1 : Int)), ()), ((u3, w3, (true, (y3, z3, ()), dflt .unit), ()), (f3, h3, i3, j3, ()), ())))
 else none
 else
 bif !k3 then
 inrO (some ((), false))
 else
 bif (s3 != i3) then
 inrO (some ((), false))
 else
 bif (t3 != j3) then
 inrO (some ((), false))
 else
 Option.bind (p29 fu ((f3, h3, i3, j3, ()), ())) fun ⟨_, f4⟩ =>
 bif (a4 != f4) then
 inrO (some ((), false))
 else
 bif eqL u3 then
 some (.inl ((IntKind.wrap .i64 (l + (1 : Int)), ()), ((u3, w3, zR0, ()), (f3, h3, i3, j3, ()), ())))
 else none
 else none
 else
 bif eqL l3 then
 Option.bind (p19_2 fu ((l3, m3, zR0, ()), ())) fun ⟨⟨⟨h4, i4, ⟨j4, ⟨k4, l4, _⟩, _⟩, _⟩, _, _⟩, m4⟩ =>
 bif j4 then
 bif !k3 then
 inrO (some ((), false))
 else
 bif (s3 != i3) then
 inrO (some ((), false))
 else
 bif (t3 != j3) then
 inrO (some ((), false))
 else
 Option.bind (p29 fu ((f3, h3, i3, j3, ()), ())) fun ⟨_, n4⟩ =>
 bif (m4 != n4) then
 inrO (some ((), false))
 else
 bif eqL h4 then
 some (.inl ((IntKind.wrap .i64 (l + (1 : Int)), ()), ((h4, i4, (true, (k4, l4, ()), dflt .unit), ()), (f3, h3, i3, j3, ()), ())))
 else none
 else
 bif !k3 then
 inrO (some ((), false))
 else
 bif (s3 != i3) then
 inrO (some ((), false))
 else
 bif (t3 != j3) then
 inrO (some ((), false))
 else
 Option.bind (p29 fu ((f3, h3, i3, j3, ()), ())) fun ⟨_, o4⟩ =>
 bif (m4 != o4) then
 inrO (some ((), false))
 else
 bif eqL h4 then
 some (.inl ((IntKind.wrap .i64 (l + (1 : Int)), ()), ((h4, i4, zR0, ()), (f3, h3, i3, j3, ()), ())))
 else none
 else none
 else none
 else
 bif eqL x2 then
 Option.bind (p16_2 fu ((x2, y2, zR0, ()), ())) fun ⟨⟨⟨q4, s4, ⟨t4, ⟨u4, w4, _⟩, _⟩, _⟩, _, _⟩, ⟨x4, y4, _⟩⟩ =>
 bif t4 then
 bif eqL q4 then
 Option.bind (p19_2 fu ((q4, s4, (true, (u4, w4, ()), dflt .unit), ()), ())) fun ⟨⟨⟨z4, a5, ⟨c5, ⟨f5, h5, _⟩, _⟩, _⟩, _, _⟩, i5⟩ =>
 bif c5 then
 bif !k3 then
 inrO (some ((), false))
 else
 bif (x4 != i3) then
 inrO (some ((), false))
 else
 bif (y4 != j3) then
 inrO (some ((), false))
 else
 Option.bind (p29 fu ((f3, h3, i3, j3, ()), ())) fun ⟨_, j5⟩ =>
 bif (i5 != j5) then
 inrO (some ((), false))
 else
 bif eqL z4 then
 some (.inl ((IntKind.wrap .i64 (l + (1 : Int)), ()), ((z4, a5, (true, (f5, h5, ()), dflt .unit), ()), (f3, h3, i3, j3, ()), ())))
 else none
 else
 bif !k3 then
 inrO (some ((), false))
 else
 bif (x4 != i3) then
 inrO (some ((), false))
 else
 bif (y4 != j3) then
 inrO (some ((), false))
 else
 Option.bind (p29 fu ((f3, h3, i3, j3, ()), ())) fun ⟨_, k5⟩ =>
 bif (i5 != k5) then
 inrO (some ((), false))
 else
 bif eqL z4 then
 some (.inl ((IntKind.wrap .i64 (l + (1 : Int)), ()), ((z4, a5, zR0, ()), (f3, h3, i3, j3, ()), ())))
 else none
 else none
 else
 bif eqL q4 then
 Option.bind (p19_2 fu ((q4, s4, zR0, ()), ())) fun ⟨⟨⟨l5, m5, ⟨n5, ⟨o5, q5, _⟩, _⟩, _⟩, _, _⟩, s5⟩ =>
 bif n5 then
 bif !k3 then
 inrO (some ((), false))
 else
 bif (x4 != i3) then
 inrO (some ((), false))
 else
 bif (y4 != j3) then
 inrO (some ((), false))
 else
 Option.bind (p29 fu ((f3, h3, i3, j3, ()), ())) fun ⟨_, t5⟩ =>
 bif (s5 != t5) then
 inrO (some ((), false))
 else
 bif eqL l5 then
 some (.inl ((IntKind.wrap .i64 (l + (1 : Int)), ()), ((l5, m5, (true, (o5, q5, ()), dflt .unit), ()), (f3, h3, i3, j3, ()), ())))
 else none
 else
 bif !k3 then
 inrO (some ((), false))
 else
 bif (x4 != i3) then
 inrO (some ((), false))
 else
 bif (y4 != j3) then
 inrO (some ((), false))
 else
 Option.bind (p29 fu ((f3, h3, i3, j3, ()), ())) fun ⟨_, u5⟩ =>
 bif (s5 != u5) then
 inrO (some ((), false))
 else
 bif eqL l5 then
 some (.inl ((IntKind.wrap .i64 (l + (1 : Int)), ()), ((l5, m5, zR0, ()), (f3, h3, i3, j3, ()), ())))
 else none
 else none
 else none
 else none
 else none
 else none
 else
 inrO (some ((), true)))
 (((0 : Int), ()), ((h, i, zR0, ()), (a, (0 : Int), (0 : Int), (0 : Int), ()), ()))
 else none))
 (((([] : List (Int)) ++ a), (0 : Int), ()), ())
 else none
 else none
 else none
 else none
else none
def e6 (fu : Nat) : Ent := ⟨6, (.cons (.hole (.sl (.int .u8))) (.cons (.hole (.sl T_gazettelaw01_Step)) .nil)), .nil, (.hole .bool), p6 fu⟩
def d6 (fu : Nat) : DC := (.seq (.region [opD 4 (.mov (.const vB))] [[]] false) (.seq (.region [oqD 15 (.call 11 []) (.ent (e11 fu)), mvD 5 15] [[], [0, 0, 0]] false) (.seq (.region [oqD 16 (.bslice 5 1 0 [(.int .u8 0)] []) (.ty (.int .u8)), mvD 17 0, oqD 18 (.app 5 1 [(.int .u8 0)] 1 (tD 16) (tD 17)) (.ty (.int .u8)), mvD 6 18] [[], [], [0, 1], [2, 2, 0, 1, 2]] false) (.seq (.region [mvD 19 6, oqD 20 (.call 14 [(tD 19)]) (.ent (e14 fu)), mvD 7 20] [[], [0], [1, 1, 0, 1]] false) (.seq (.region [mvD 21 0, opD 22 (.build 4 [vS, vI, vI, vI] [(0, (1, (tD 21)))]), opD 23 (.box 73 4 (tD 22)), mvD 8 23] [[], [0], [1], [2, 0, 1, 2]] false) (.seq (.seq (.region [mvD 24 5, opD 25 (.not (tD 24)), mvD 26 25, ogD 27 26 false (.mov (tD 7)), ogD 28 26 false (.pure (.nilq 0 false) [(tD 27)]), opD 29 (.pick (tD 26) (.const (.bool true)) (tD 28)), mvD 30 29, ogD 31 30 false (.mov (tD 6)), ogD 32 30 false (.b2s (tD 31)), ogD 33 30 false (.mov (tD 0)), ogD 34 30 false (.b2s (tD 33)), ogD 35 30 false (.bin .neq (tD 32) (tD 34)), opD 36 (.pick (tD 30) (.const (.bool true)) (tD 35))] [[], [0], [1], [2], [3, 2], [2, 4], [5, 2], [6], [7, 6], [6], [9, 6], [8, 10, 6], [6, 11]] false) (.cond (.tmp 36) (.seq (.region [opD 4 (.mov (.const vB))] [[]] false) .ret) .skip)) (.seq (.seq (.region [opD 9 (.mov (cD 0))] [[]] false) (.block 0 (.loop ⟨[6, 9], (.cons (.own .own 5 (.int .u8)) (.cons (.hole (.int .i64)) .nil)), [], .nil, [1, 7, 8], [128, 129, 192]⟩
 (.seq (.seq (.region [mvD 37 9, mvD 38 6, opD 39 (.len false (tD 38)), opD 40 (.bin .lss (tD 37) (tD 39))] [[], [], [1], [0, 2]] false) (.cond (.tmp 40) .skip (.exit 0))) (.seq (.block 1 (.region [mvD 43 6, mvD 44 9, opD 45 (.iaddr 1 (tD 43) (tD 44)), opD 46 (.load false 1 (tD 45)), opD 47 (.bin .add (tD 46) (.const (.int .u8 1))), opD 48 (.iaddr 1 (tD 43) (tD 44)), onD (.store 1 (tD 48) (tD 47))] [[], [], [0, 1], [2], [3], [0, 1, 0, 1, 2, 3, 4], [5, 4, 0, 1, 2, 3, 4]] false)) (.region [mvD 41 9, opD 42 (.bin .add (tD 41) (cD 1)), mvD 9 42] [[], [0], [1, 0, 1]] false)))))) (.seq (.seq (.region [opD 10 (.mov (cD 0))] [[]] false) (.block 2 (.loop ⟨[10], (.cons (.hole (.int .i64)) .nil), [(128, 95, 3), (192, 73, 4)], (.cons Y0 (.cons Y2 .nil)), [1, 7, 8], []⟩
 (.seq (.seq (.region [mvD 49 10, mvD 50 1, opD 51 (.len false (tD 50)), opD 52 (.bin .lss (tD 49) (tD 51))] [[], [], [1], [0, 2]] false) (.cond (.tmp 52) .skip (.exit 2))) (.seq (.block 3 (.seq (.region [mvD 55 7, mvD 56 8, mvD 57 1, mvD 58 10, opD 59 (.iaddr 2 (tD 57) (tD 58)), opD 60 (.load true 2 (tD 59)), oqD 61 (.call 28 [(tD 55), (tD 56), (tD 60)]) (.ent (e28_2 fu)), mvD 11 61] [[], [], [], [], [2, 3], [4], [0, 1, 5], [6, 6, 0, 1, 2, 3, 4, 5, 6]] false) (.seq (.region [mvD 63 7, oqD 64 (.call 16 [(tD 63)]) (.ent (e16_2 fu)), mvD 62 64, opD 65 (.ext (tD 62) 0), opD 66 (.ext (tD 62) 1), mvD 12 65, mvD 13 66] [[], [0], [1], [2], [2], [3, 1, 0, 1, 2, 3], [4, 5, 0, 1, 2, 3, 4, 5]] false) (.seq (.region [mvD 67 7, oqD 68 (.call 19 [(tD 67)]) (.ent (e19_2 fu)), mvD 14 68] [[], [0], [1, 1, 0, 1]] false) (.seq (.region [mvD 69 11, opD 70 (.not (tD 69)), mvD 71 70, ogD 72 71 false (.mov (tD 12)), ogD 73 71 false (.mov (tD 8)), ogD 74 71 false (.pure .nilc [(tD 73)]), ogD 75 71 false (.faddr 2 (tD 74)), ogD 76 71 false (.load false 1 (tD 75)), ogD 77 71 false (.bin .neq (tD 72) (tD 76)), opD 78 (.pick (tD 71) (.const (.bool true)) (tD 77)), mvD 79 78, ogD 80 79 false (.mov (tD 13)), ogD 81 79 false (.mov (tD 8)), ogD 82 79 false (.pure .nilc [(tD 81)]), ogD 83 79 false (.faddr 3 (tD 82)), ogD 84 79 false (.load false 1 (tD 83)), ogD 85 79 false (.bin .neq (tD 80) (tD 84)), opD 86 (.pick (tD 79) (.const (.bool true)) (tD 85)), mvD 87 86, ogD 88 87 false (.mov (tD 14)), ogD 89 87 false (.mov (tD 8)), (⟨(some 90), (some (87, false)), (.call 29 [(tD 89)])⟩, (.ent (e29 fu))), ogD 91 87 false (.bin .neq (tD 88) (tD 90)), opD 92 (.pick (tD 87) (.const (.bool true)) (tD 91))] [[], [0], [1], [2], [2], [4, 2], [5, 2], [6, 2], [3, 7, 2], [2, 8], [9, 2], [10], [10], [12, 10], [13, 10], [14, 10], [11, 15, 10], [10, 16], [17, 10], [18], [18], [20, 18, 18], [19, 21, 18], [18, 22]] false) (.cond (.tmp 92) (.seq (.region [opD 4 (.mov (.const vB))] [[]] false) .ret) .skip)))))) (.region [mvD 53 10, opD 54 (.bin .add (tD 53) (cD 1)), mvD 10 54] [[], [0], [1, 0, 1]] false)))))) (.seq (.region [opD 4 (.mov (.const (.bool true)))] [[]] false) .ret)))))))))
set_option maxRecDepth 1000000 in
theorem v6 (fu : Nat) : evF fu (d6 fu) rs6 93 (e6 fu).ash (e6 fu).osh (e6 fu).vsh = p6 fu := by kernel_rfl
set_option maxRecDepth 1000000 in
theorem b6 (fu : Nat) : BodyD Tryd.prog 6 93 (d6 fu).erase rs6 := bodyD_mk Tryd.func6 (by kernel_rfl) (by kernel_rfl) (by kernel_rfl) (by kernel_rfl)
theorem g6 (fu : Nat) : (e6 fu).Good Tryd.prog := good_by orders (b6 fu) (l := [e11 fu, e14 fu, e28_2 fu, e16_2 fu, e19_2 fu, e29 fu]) (by kernel_rfl) ⟨g11 fu, g14 fu, g28_2 fu, g16_2 fu, g19_2 fu, g29 fu, trivial⟩ (by kernel_rfl) (v6 fu)
end Go.Proofs.YtfhdpeceppafiaaDoor
