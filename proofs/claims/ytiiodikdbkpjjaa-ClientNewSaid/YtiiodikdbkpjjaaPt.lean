/-
  The functions, typed, continued.
-/
import Derived.Test.YtiiodikdbkpjjaaPtA
namespace Go.Proofs.Ytiiodikdbkpjjaa
open Go.RowKit
def rs16 : List RVx := [(.cell 4 true 33), (.cell 5 true 41), (.tmp 6)]
/-- gazette/client.Step -/
def p16 (fu : Nat) : (Z1) × ((Z28) × (Unit)) → Option ((Unit) × ((Z1) × ((Z3) × ((Int) × (Unit))))) := fun ⟨⟨a, c, f, h, i, j, k, l, m, n, o, q, s, t, u, w, x, y, z, a0, c0, f0, h0, i0, j0, k0, l0, m0, n0, o0, q0, s0, t0, _⟩, ⟨u0, w0, x0, y0, z0, a1, c1, f1, h1, i1, j1, k1, l1, m1, n1, o1, q1, s1, t1, u1, w1, x1, y1, z1, a2, c2, f2, h2, i2, j2, k2, l2, _⟩, _⟩ =>
Option.bind (p27 fu ((a, c, f, h, i, j, k, l, m, n, o, q, s, t, u, w, x, y, z, a0, c0, f0, h0, i0, j0, k0, l0, m0, n0, o0, q0, s0, t0, ()), ())) fun ⟨_, ⟨m2, n2, o2, q2, s2, t2, u2, w2, x2, y2, z2, a3, c3, f3, h3, i3, j3, k3, l3, m3, n3, o3, q3, s3, t3, u3, w3, x3, y3, z3, a4, c4, f4, _⟩⟩ =>
Option.bind (p28 fu (u0, ())) fun ⟨_, ⟨h4, ⟨_, _⟩, ⟨i4, ⟨_, _⟩, ⟨j4, ⟨_, _⟩, _⟩⟩⟩⟩ =>
bif h4 then
 bif decide (List.length n2 = List.length n2) then
 bif decide (List.length s2 = List.length s2) then
 bif decide (List.length t2 = List.length t2) then
 bif decide (List.length z2 = List.length z2) then
 bif decide (List.length l3 = List.length l3) then
 Option.bind (p42 fu ((m2, n2, o2, q2, s2, t2, u2, w2, x2, y2, z2, a3, c3, f3, h3, i3, j3, k3, l3, m3, n3, o3, q3, s3, t3, u3, w3, x3, y3, z3, a4, c4, f4, false, (0 : Int), (0 : Int), (0 : Int), (0 : Int), (0 : Int), (0 : Int), (0 : Int), (0 : Int), (⟨#[]⟩ : ByteArray), (), (0 : Int), (0 : Int), (⟨#[]⟩ : ByteArray), (0 : Int), (0 : Int), (0 : Int), (0 : Int), (⟨#[]⟩ : ByteArray), (), (0 : Int), (0 : Int), (⟨#[]⟩ : ByteArray), (0 : Int), (0 : Int), (0 : Int), (0 : Int), (⟨#[]⟩ : ByteArray), false, (0 : Int), (0 : Int), (0 : Int), (0 : Int), (0 : Int), false, (), (0 : Int), (), (0 : Int), (0 : Int), (0 : Int), ()), (u0, w0, x0, y0, z0, a1, c1, f1, h1, i1, j1, k1, l1, m1, n1, o1, q1, s1, t1, u1, w1, x1, y1, z1, a2, c2, f2, h2, i2, j2, k2, l2, ()), ())) fun ⟨⟨⟨k4, l4, m4, n4, o4, q4, s4, t4, u4, w4, x4, y4, z4, a5, c5, f5, h5, i5, j5, k5, l5, m5, n5, o5, q5, s5, t5, u5, w5, x5, y5, z5, a6, c6, f6, h6, i6, j6, k6, l6, m6, n6, o6, q6, s6, t6, u6, w6, x6, y6, z6, a7, c7, f7, h7, i7, j7, k7, l7, m7, n7, o7, q7, s7, t7, u7, w7, x7, y7, z7, a8, c8, f8, h8, _⟩, _, _, _, _, _, _⟩, i8⟩ =>
 bif (i8 != (0 : Int)) then
 Option.bind (p27 fu ((a, c, f, h, i, j, k, l, m, n, o, q, s, t, u, w, x, y, z, a0, c0, f0, h0, i0, j0, k0, l0, m0, n0, o0, q0, s0, t0, ()), ())) fun ⟨_, ⟨j8, k8, l8, m8, n8, o8, q8, s8, t8, u8, w8, x8, y8, z8, a9, c9, f9, h9, i9, j9, k9, l9, m9, n9, o9, q9, s9, t9, u9, w9, x9, y9, z9, _⟩⟩ =>
 bif decide (List.length k8 = List.length k8) then
 bif decide (List.length n8 = List.length n8) then
 bif decide (List.length o8 = List.length o8) then
 bif decide (List.length w8 = List.length w8) then
 bif decide (List.length i9 = List.length i9) then
 some ((), ((j8, k8, l8, m8, n8, o8, q8, s8, t8, u8, w8, x8, y8, z8, a9, c9, f9, h9, i9, j9, k9, l9, m9, n9, o9, q9, s9, t9, u9, w9, x9, y9, z9, ()), (false, (0 : Int), (0 : Int), (0 : Int), (0 : Int), (0 : Int), (0 : Int), (0 : Int), (0 : Int), (⟨#[]⟩ : ByteArray), [], (0 : Int), (0 : Int), (⟨#[]⟩ : ByteArray), (0 : Int), (0 : Int), (0 : Int), (0 : Int), (⟨#[]⟩ : ByteArray), [], (0 : Int), (0 : Int), (⟨#[]⟩ : ByteArray), (0 : Int), (0 : Int), (0 : Int), (0 : Int), (⟨#[]⟩ : ByteArray), false, (0 : Int), (0 : Int), (0 : Int), (0 : Int), (0 : Int), false, [], (0 : Int), [], (0 : Int), (0 : Int), (0 : Int), ()), i8, ()))
 else none
 else none
 else none
 else none
 else none
 else
 bif decide (List.length l4 = List.length l4) then
 bif decide (List.length o4 = List.length o4) then
 bif decide (List.length q4 = List.length q4) then
 bif decide (List.length x4 = List.length x4) then
 bif decide (List.length j5 = List.length j5) then
 bif decide (List.length q6 = List.length q6) then
 bif decide (List.length c7 = List.length c7) then
 bif decide (List.length y7 = List.length y7) then
 bif decide (List.length a8 = List.length a8) then
 some ((), ((k4, l4, m4, n4, o4, q4, s4, t4, u4, w4, x4, y4, z4, a5, c5, f5, h5, i5, j5, k5, l5, m5, n5, o5, q5, s5, t5, u5, w5, x5, y5, z5, a6, ()), (c6, f6, h6, i6, j6, k6, l6, m6, n6, o6, q6, s6, t6, u6, w6, x6, y6, z6, a7, c7, f7, h7, i7, j7, k7, l7, m7, n7, o7, q7, s7, t7, u7, w7, x7, y7, z7, a8, c8, f8, h8, ()), (0 : Int), ()))
 else none
 else none
 else none
 else none
 else none
 else none
 else none
 else none
 else none
 else none
 else none
 else none
 else none
 else none
else
 bif i4 then
 bif decide (List.length n2 = List.length n2) then
 bif decide (List.length s2 = List.length s2) then
 bif decide (List.length t2 = List.length t2) then
 bif decide (List.length z2 = List.length z2) then
 bif decide (List.length l3 = List.length l3) then
 Option.bind (p43 fu ((m2, n2, o2, q2, s2, t2, u2, w2, x2, y2, z2, a3, c3, f3, h3, i3, j3, k3, l3, m3, n3, o3, q3, s3, t3, u3, w3, x3, y3, z3, a4, c4, f4, false, (0 : Int), (0 : Int), (0 : Int), (0 : Int), (0 : Int), (0 : Int), (0 : Int), (0 : Int), (⟨#[]⟩ : ByteArray), (), (0 : Int), (0 : Int), (⟨#[]⟩ : ByteArray), (0 : Int), (0 : Int), (0 : Int), (0 : Int), (⟨#[]⟩ : ByteArray), (), (0 : Int), (0 : Int), (⟨#[]⟩ : ByteArray), (0 : Int), (0 : Int), (0 : Int), (0 : Int), (⟨#[]⟩ : ByteArray), false, (0 : Int), (0 : Int), (0 : Int), (0 : Int), (0 : Int), false, (), (0 : Int), (), (0 : Int), (0 : Int), (0 : Int), ()), (u0, w0, x0, y0, z0, a1, c1, f1, h1, i1, j1, k1, l1, m1, n1, o1, q1, s1, t1, u1, w1, x1, y1, z1, a2, c2, f2, h2, i2, j2, k2, l2, ()), ())) fun ⟨⟨⟨a10, c10, f10, h10, i10, j10, k10, l10, m10, n10, o10, q10, s10, t10, u10, w10, x10, y10, z10, a11, c11, f11, h11, i11, j11, k11, l11, m11, n11, o11, q11, s11, t11, u11, w11, x11, y11, z11, a12, c12, f12, h12, i12, j12, k12, l12, m12, n12, o12, q12, s12, t12, u12, w12, x12, y12, z12, a13, c13, f13, h13, i13, j13, k13, l13, m13, n13, o13, q13, s13, t13, u13, w13, x13, _⟩, _, _, _, _, _, _⟩, y13⟩ =>
 bif (y13 != (0 : Int)) then
 Option.bind (p27 fu ((a, c, f, h, i, j, k, l, m, n, o, q, s, t, u, w, x, y, z, a0, c0, f0, h0, i0, j0, k0, l0, m0, n0, o0, q0, s0, t0, ()), ())) fun ⟨_, ⟨z13, a14, c14, f14, h14, i14, j14, k14, l14, m14, n14, o14, q14, s14, t14, u14, w14, x14, y14, z14, a15, c15, f15, h15, i15, j15, k15, l15, m15, n15, o15, q15, s15, _⟩⟩ =>
 bif decide (List.length a14 = List.length a14) then
 bif decide (List.length h14 = List.length h14) then
 bif decide (List.length i14 = List.length i14) then
 bif decide (List.length n14 = List.length n14) then
 bif decide (List.length y14 = List.length y14) then
 some ((), ((z13, a14, c14, f14, h14, i14, j14, k14, l14, m14, n14, o14, q14, s14, t14, u14, w14, x14, y14, z14, a15, c15, f15, h15, i15, j15, k15, l15, m15, n15, o15, q15, s15, ()), (false, (0 : Int), (0 : Int), (0 : Int), (0 : Int), (0 : Int), (0 : Int), (0 : Int), (0 : Int), (⟨#[]⟩ : ByteArray), [], (0 : Int), (0 : Int), (⟨#[]⟩ : ByteArray), (0 : Int), (0 : Int), (0 : Int), (0 : Int), (⟨#[]⟩ : ByteArray), [], (0 : Int), (0 : Int), (⟨#[]⟩ : ByteArray), (0 : Int), (0 : Int), (0 : Int), (0 : Int), (⟨#[]⟩ : ByteArray), false, (0 : Int), (0 : Int), (0 : Int), (0 : Int), (0 : Int), false, [], (0 : Int), [], (0 : Int), (0 : Int), (0 : Int), ()), y13, ()))
 else none
 else none
 else none
 else none
 else none
 else
 bif decide (List.length c10 = List.length c10) then
 bif decide (List.length i10 = List.length i10) then
 bif decide (List.length j10 = List.length j10) then
 bif decide (List.length o10 = List.length o10) then
 bif decide (List.length z10 = List.length z10) then
 bif decide (List.length j12 = List.length j12) then
 bif decide (List.length u12 = List.length u12) then
 bif decide (List.length q13 = List.length q13) then
 bif decide (List.length t13 = List.length t13) then
 some ((), ((a10, c10, f10, h10, i10, j10, k10, l10, m10, n10, o10, q10, s10, t10, u10, w10, x10, y10, z10, a11, c11, f11, h11, i11, j11, k11, l11, m11, n11, o11, q11, s11, t11, ()), (u11, w11, x11, y11, z11, a12, c12, f12, h12, i12, j12, k12, l12, m12, n12, o12, q12, s12, t12, u12, w12, x12, y12, z12, a13, c13, f13, h13, i13, j13, k13, l13, m13, n13, o13, q13, s13, t13, u13, w13, x13, ()), (0 : Int), ()))
 else none
 else none
 else none
 else none
 else none
 else none
 else none
 else none
 else none
 else none
 else none
 else none
 else none
 else none
 else
 bif j4 then
 bif decide (List.length n2 = List.length n2) then
 bif decide (List.length s2 = List.length s2) then
 bif decide (List.length t2 = List.length t2) then
 bif decide (List.length z2 = List.length z2) then
 bif decide (List.length l3 = List.length l3) then
 Option.bind (p44 fu ((m2, n2, o2, q2, s2, t2, u2, w2, x2, y2, z2, a3, c3, f3, h3, i3, j3, k3, l3, m3, n3, o3, q3, s3, t3, u3, w3, x3, y3, z3, a4, c4, f4, false, (0 : Int), (0 : Int), (0 : Int), (0 : Int), (0 : Int), (0 : Int), (0 : Int), (0 : Int), (⟨#[]⟩ : ByteArray), (), (0 : Int), (0 : Int), (⟨#[]⟩ : ByteArray), (0 : Int), (0 : Int), (0 : Int), (0 : Int), (⟨#[]⟩ : ByteArray), (), (0 : Int), (0 : Int), (⟨#[]⟩ : ByteArray), (0 : Int), (0 : Int), (0 : Int), (0 : Int), (⟨#[]⟩ : ByteArray), false, (0 : Int), (0 : Int), (0 : Int), (0 : Int), (0 : Int), false, (), (0 : Int), (), (0 : Int), (0 : Int), (0 : Int), ()), (u0, w0, x0, y0, z0, a1, c1, f1, h1, i1, j1, k1, l1, m1, n1, o1, q1, s1, t1, u1, w1, x1, y1, z1, a2, c2, f2, h2, i2, j2, k2, l2, ()), ())) fun ⟨⟨⟨t15, u15, w15, x15, y15, z15, a16, c16, f16, h16, i16, j16, k16, l16, m16, n16, o16, q16, s16, t16, u16, w16, x16, y16, z16, a17, c17, f17, h17, i17, j17, k17, l17, m17, n17, o17, q17, s17, t17, u17, w17, x17, y17, z17, a18, c18, f18, h18, i18, j18, k18, l18, m18, n18, o18, q18, s18, t18, u18, w18, x18, y18, z18, a19, c19, f19, h19, i19, j19, k19, l19, m19, n19, o19, _⟩, _, _, _, _, _, _⟩, q19⟩ =>
 bif (q19 != (0 : Int)) then
 Option.bind (p27 fu ((a, c, f, h, i, j, k, l, m, n, o, q, s, t, u, w, x, y, z, a0, c0, f0, h0, i0, j0, k0, l0, m0, n0, o0, q0, s0, t0, ()), ())) fun ⟨_, ⟨s19, t19, u19, w19, x19, y19, z19, a20, c20, f20, h20, i20, j20, k20, l20, m20, n20, o20, q20, s20, t20, u20, w20, x20, y20, z20, a21, c21, f21, h21, i21, j21, k21, _⟩⟩ =>
 bif decide (List.length t19 = List.length t19) then
 bif decide (List.length x19 = List.length x19) then
 bif decide (List.length y19 = List.length y19) then
 bif decide (List.length h20 = List.length h20) then
 bif decide (List.length q20 = List.length q20) then
 some ((), ((s19, t19, u19, w19, x19, y19, z19, a20, c20, f20, h20, i20, j20, k20, l20, m20, n20, o20, q20, s20, t20, u20, w20, x20, y20, z20, a21, c21, f21, h21, i21, j21, k21, ()), (false, (0 : Int), (0 : Int), (0 : Int), (0 : Int), (0 : Int), (0 : Int), (0 : Int), (0 : Int), (⟨#[]⟩ : ByteArray), [], (0 : Int), (0 : Int), (⟨#[]⟩ : ByteArray), (0 : Int), (0 : Int), (0 : Int), (0 : Int), (⟨#[]⟩ : ByteArray), [], (0 : Int), (0 : Int), (⟨#[]⟩ : ByteArray), (0 : Int), (0 : Int), (0 : Int), (0 : Int), (⟨#[]⟩ : ByteArray), false, (0 : Int), (0 : Int), (0 : Int), (0 : Int), (0 : Int), false, [], (0 : Int), [], (0 : Int), (0 : Int), (0 : Int), ()), q19, ()))
 else none
 else none
 else none
 else none
 else none
 else
 bif decide (List.length u15 = List.length u15) then
 bif decide (List.length y15 = List.length y15) then
 bif decide (List.length z15 = List.length z15) then
 bif decide (List.length i16 = List.length i16) then
 bif decide (List.length s16 = List.length s16) then
 bif decide (List.length z17 = List.length z17) then
 bif decide (List.length m18 = List.length m18) then
 bif decide (List.length j19 = List.length j19) then
 bif decide (List.length l19 = List.length l19) then
 some ((), ((t15, u15, w15, x15, y15, z15, a16, c16, f16, h16, i16, j16, k16, l16, m16, n16, o16, q16, s16, t16, u16, w16, x16, y16, z16, a17, c17, f17, h17, i17, j17, k17, l17, ()), (m17, n17, o17, q17, s17, t17, u17, w17, x17, y17, z17, a18, c18, f18, h18, i18, j18, k18, l18, m18, n18, o18, q18, s18, t18, u18, w18, x18, y18, z18, a19, c19, f19, h19, i19, j19, k19, l19, m19, n19, o19, ()), (0 : Int), ()))
 else none
 else none
 else none
 else none
 else none
 else none
 else none
 else none
 else none
 else none
 else none
 else none
 else none
 else none
 else
 bif decide (List.length n2 = List.length n2) then
 bif decide (List.length s2 = List.length s2) then
 bif decide (List.length t2 = List.length t2) then
 bif decide (List.length z2 = List.length z2) then
 bif decide (List.length l3 = List.length l3) then
 some ((), ((m2, n2, o2, q2, s2, t2, u2, w2, x2, y2, z2, a3, c3, f3, h3, i3, j3, k3, l3, m3, n3, o3, q3, s3, t3, u3, w3, x3, y3, z3, a4, c4, f4, ()), (false, (0 : Int), (0 : Int), (0 : Int), (0 : Int), (0 : Int), (0 : Int), (0 : Int), (0 : Int), (⟨#[]⟩ : ByteArray), [], (0 : Int), (0 : Int), (⟨#[]⟩ : ByteArray), (0 : Int), (0 : Int), (0 : Int), (0 : Int), (⟨#[]⟩ : ByteArray), [], (0 : Int), (0 : Int), (⟨#[]⟩ : ByteArray), (0 : Int), (0 : Int), (0 : Int), (0 : Int), (⟨#[]⟩ : ByteArray), false, (0 : Int), (0 : Int), (0 : Int), (0 : Int), (0 : Int), false, [], (0 : Int), [], (0 : Int), (0 : Int), (0 : Int), ()), (1 : Int), ()))
 else none
 else none
 else none
 else none
 else none
def e16 (fu : Nat) : Ent := ⟨16, (.cons Y14 (.cons Y29 .nil)), .nil, (.tup 3 (.cons Y15 (.cons Y30 (.cons (.hole (.int .i64)) .nil)))), p16 fu⟩
def d16 (fu : Nat) : DC := (.seq (.region [opD 2 (.box 35 33 (tD 0)), opD 3 (.box 50 32 (tD 1)), opD 4 (.alloc 35 33 [vI, vS, vU, vU, vS, vS, vB, vI, vT, vT, vS, vU, vI, vT, vI, vU, vU, vT, vS, vU, vU, vT, vI, vI, vU, vI, vU, vB, vU, vI, vI, vB, vI]), opD 5 (.alloc 60 41 [vB, vI, vU, vI, vU, vI, vU, vU, vU, vT, vS, vU, vI, vT, vU, vI, vU, vU, vT, vS, vU, vU, vT, vI, vI, vU, vI, vT, vB, vU, vI, vI, vI, vU, vB, vS, vU, vS, vU, vU, vU]), opD 6 (.mov (cD 0))] [[], [], [], [], []] false) (.seq (.region [opD 10 (.load true 33 (tD 2)), oqD 11 (.call 27 [(tD 10)]) (.ent (e27 fu)), opD 12 (.build 74 [vI, vS, vU, vU, vS, vS, vB, vI, vT, vT, vS, vU, vI, vT, vI, vU, vU, vT, vS, vU, vU, vT, vI, vI, vU, vI, vU, vB, vU, vI, vI, vB, vI, vB, vI, vU, vI, vU, vI, vU, vU, vU, vT, vS, vU, vI, vT, vU, vI, vU, vU, vT, vS, vU, vU, vT, vI, vI, vU, vI, vT, vB, vU, vI, vI, vI, vU, vB, vS, vU, vS, vU, vU, vU] [(0, (33, (tD 11)))]), opD 13 (.box 87 74 (tD 12)), mvD 7 13] [[], [0], [1], [2], [3, 1, 0, 1, 2, 3]] false) (.seq (.region [opD 14 (.faddr 0 (tD 3)), opD 15 (.load false 1 (tD 14)), oqD 16 (.call 28 [(tD 15)]) (.ent (e28 fu)), mvD 8 16] [[], [0], [1], [2, 2, 0, 1, 2]] false) (.seq (.seq (.region [mvD 17 8, opD 18 (.pure (.nilq 2 false) [(tD 17)])] [[], [0]] false) (.cond (.tmp 18) (.seq (.region [mvD 19 7, opD 20 (.pure .nilc [(tD 19)]), opD 21 (.faddr 0 (tD 20)), opD 22 (.load true 33 (tD 21)), opD 23 (.build 41 [vB, vI, vU, vI, vU, vI, vU, vU, vU, vT, vS, vU, vI, vT, vU, vI, vU, vU, vT, vS, vU, vU, vT, vI, vI, vU, vI, vT, vB, vU, vI, vI, vI, vU, vB, vS, vU, vS, vU, vU, vU] []), onD (.store 33 (tD 4) (tD 22)), onD (.store 41 (tD 5) (tD 23)), opD 6 (.mov (cD 1))] [[], [0], [1], [2], [], [3, 0, 1, 2, 3], [4, 5, 0, 1, 2, 3, 4, 5], [6, 0, 1, 2, 3, 4, 5, 6]] false) .ret) .skip)) (.seq (.seq (.region [mvD 24 8, mvD 25 7, opD 26 (.load true 32 (tD 3)), oqD 27 (.callv (tD 24) [(tD 25), (tD 26)]) (.either (.ent (e42 fu)) (.either (.ent (e43 fu)) (.ent (e44 fu)))), mvD 9 27] [[], [], [], [0, 1, 2], [3, 3, 0, 1, 2, 3]] false) (.seq (.region [mvD 28 9, opD 29 (.bin .neq (tD 28) (cD 0))] [[], [0]] false) (.cond (.tmp 29) (.seq (.region [opD 30 (.load true 33 (tD 2)), oqD 31 (.call 27 [(tD 30)]) (.ent (e27 fu)), opD 32 (.build 41 [vB, vI, vU, vI, vU, vI, vU, vU, vU, vT, vS, vU, vI, vT, vU, vI, vU, vU, vT, vS, vU, vU, vT, vI, vI, vU, vI, vT, vB, vU, vI, vI, vI, vU, vB, vS, vU, vS, vU, vU, vU] []), mvD 33 9, onD (.store 33 (tD 4) (tD 31)), onD (.store 41 (tD 5) (tD 32)), mvD 6 33] [[], [0], [], [], [1, 1, 0, 1], [2, 4, 0, 1, 2, 4], [3, 5, 0, 1, 2, 3, 4, 5]] false) .ret) .skip))) (.seq (.region [mvD 34 7, opD 35 (.pure .nilc [(tD 34)]), opD 36 (.faddr 0 (tD 35)), opD 37 (.load true 33 (tD 36)), mvD 38 7, opD 39 (.pure .nilc [(tD 38)]), opD 40 (.faddr 33 (tD 39)), opD 41 (.load true 41 (tD 40)), onD (.store 33 (tD 4) (tD 37)), onD (.store 41 (tD 5) (tD 41)), opD 6 (.mov (cD 0))] [[], [0], [1], [2], [], [4], [5], [6], [3, 0, 1, 2, 3], [7, 8, 0, 1, 2, 3, 4, 5, 6, 7, 8], [9, 0, 1, 2, 3, 4, 5, 6, 7, 8, 9]] true) .ret))))))
set_option maxRecDepth 1000000 in
theorem v16 (fu : Nat) : evF fu (d16 fu) rs16 42 (e16 fu).ash (e16 fu).osh (e16 fu).vsh = p16 fu := by kernel_rfl
set_option maxRecDepth 1000000 in
theorem b16 (fu : Nat) : BodyD Try.prog 16 42 (d16 fu).erase rs16 := bodyD_mk Try.func16 (by kernel_rfl) (by kernel_rfl) (by kernel_rfl) (by kernel_rfl)
theorem g16 (fu : Nat) : (e16 fu).Good Try.prog := good_by orders (b16 fu) (l := [e27 fu, e28 fu, e42 fu, e43 fu, e44 fu, e27 fu]) (by kernel_rfl) ⟨g27 fu, g28 fu, g42 fu, g43 fu, g44 fu, g27 fu, trivial⟩ (by kernel_rfl) (v16 fu)
def rs9 : List RVx := [(.tmp 0)]
/-- gazette/gazettelaw21.head -/
def p9 (fu : Nat) : Unit → Option ((Unit) × (Bool)) := fun _ =>
Option.bind (p10 fu ((4 : Int), [(1 : Int), (2 : Int), (3 : Int)], (4 : Int), ())) fun ⟨_, ⟨⟨a, c, f, h, i, j, k, l, m, n, o, q, s, t, u, w, x, y, z, a0, c0, f0, h0, i0, j0, k0, l0, m0, n0, o0, q0, s0, t0, _⟩, u0, _⟩⟩ =>
bif decide (List.length c = List.length c) then
 Option.bind (p16 fu ((a, c, f, h, i, j, k, l, m, n, o, q, s, t, u, w, x, y, z, a0, c0, f0, h0, i0, j0, k0, l0, m0, n0, o0, q0, s0, t0, ()), ((1 : Int), (1 : Int), (⟨#[116]⟩ : ByteArray), (⟨#[107]⟩ : ByteArray), [], (0 : Int), (0 : Int), (⟨#[]⟩ : ByteArray), (0 : Int), (0 : Int), (0 : Int), (⟨#[]⟩ : ByteArray), [], (0 : Int), (0 : Int), (⟨#[]⟩ : ByteArray), (0 : Int), (0 : Int), (0 : Int), (0 : Int), (0 : Int), (0 : Int), (0 : Int), (0 : Int), (0 : Int), false, [], (0 : Int), [], (0 : Int), (0 : Int), (0 : Int), ()), ())) fun ⟨_, ⟨⟨_, _, _, w0, _, _, x0, _, _, _, _, _, _, _, _, _, _, _, _, _, _, _, _, _, _, _, _, _, _, _, _, _, _, _⟩, ⟨y0, z0, a1, c1, _, _, _, _, _, _, _, _, _, _, _, _, _, _, _, _, _, _, _, _, _, _, _, f1, _, _, _, _, _, _, _, _, _, _, _, _, _, _⟩, h1, _⟩⟩ =>
 bif (u0 == (0 : Int)) then
 bif (h1 == (0 : Int)) then
 bif (w0 == (1 : Int)) then
 bif x0 then
 bif y0 then
 bif (z0 == (1 : Int)) then
 bif (c1 == (6 : Int)) then
 bif ByteArray.toList f1 == ByteArray.toList (⟨#[116]⟩ : ByteArray) then
 some ((), (a1 == (1 : Int)))
 else
 some ((), false)
 else
 some ((), false)
 else
 some ((), false)
 else
 some ((), false)
 else
 some ((), false)
 else
 some ((), false)
 else
 some ((), false)
 else
 some ((), false)
else none
def e9 (fu : Nat) : Ent := ⟨9, .nil, .nil, (.hole .bool), p9 fu⟩
def d9 (fu : Nat) : DC := (.seq (.region [opD 0 (.mov (.const vB))] [[]] false) (.seq (.region [oqD 7 (.bslice 3 1 3 [vI] [(0, (cD 1)), (1, (cD 2)), (2, (cD 3))]) (.ty (.int .i64)), oqD 8 (.call 10 [(cD 4), (tD 7), (.const (.int .u64 4))]) (.ent (e10 fu)), mvD 6 8, opD 9 (.ext (tD 6) 0), opD 10 (.ext (tD 6) 1), opD 1 (.alloc 35 33 [vI, vS, vU, vU, vS, vS, vB, vI, vT, vT, vS, vU, vI, vT, vI, vU, vU, vT, vS, vU, vU, vT, vI, vI, vU, vI, vU, vB, vU, vI, vI, vB, vI]), onD (.store 33 (tD 1) (tD 9)), mvD 2 10] [[], [0], [1], [2], [2], [], [5, 3, 1, 0, 1, 2, 3, 5], [4, 6, 0, 1, 2, 3, 4, 5, 6]] false) (.seq (.region [opD 12 (.load true 33 (tD 1)), opD 13 (.build 19 [vI, vT, vT, vS, vU, vI, vT, vI, vU, vU, vT, vS, vU, vU, vT, vI, vI, vU, vI] [(0, (1, (cD 1))), (1, (1, (.const (.string ⟨#[116]⟩)))), (2, (1, (.const (.string ⟨#[107]⟩))))]), opD 14 (.build 32 [vI, vI, vT, vT, vS, vU, vI, vT, vI, vU, vU, vT, vS, vU, vU, vT, vI, vI, vU, vI, vU, vI, vI, vI, vU, vB, vS, vU, vS, vU, vU, vU] [(0, (1, (cD 1))), (1, (19, (tD 13)))]), oqD 15 (.call 16 [(tD 12), (tD 14)]) (.ent (e16 fu)), mvD 11 15, opD 16 (.ext (tD 11) 0), opD 17 (.ext (tD 11) 1), opD 18 (.ext (tD 11) 2), opD 3 (.alloc 35 33 [vI, vS, vU, vU, vS, vS, vB, vI, vT, vT, vS, vU, vI, vT, vI, vU, vU, vT, vS, vU, vU, vT, vI, vI, vU, vI, vU, vB, vU, vI, vI, vB, vI]), opD 4 (.alloc 60 41 [vB, vI, vU, vI, vU, vI, vU, vU, vU, vT, vS, vU, vI, vT, vU, vI, vU, vU, vT, vS, vU, vU, vT, vI, vI, vU, vI, vT, vB, vU, vI, vI, vI, vU, vB, vS, vU, vS, vU, vU, vU]), onD (.store 33 (tD 3) (tD 16)), onD (.store 41 (tD 4) (tD 17)), mvD 5 18] [[], [], [1], [0, 2], [3], [4], [4], [4], [], [], [8, 5, 3, 0, 1, 2, 3, 4, 5, 8, 9], [9, 6, 10, 0, 1, 2, 3, 4, 5, 6, 8, 9, 10], [7, 11, 0, 1, 2, 3, 4, 5, 6, 7, 8, 9, 10, 11]] false) (.seq (.region [mvD 19 2, opD 20 (.bin .eql (tD 19) (cD 0)), mvD 21 20, ogD 22 21 true (.mov (tD 5)), ogD 23 21 true (.bin .eql (tD 22) (cD 0)), opD 24 (.pick (tD 21) (tD 23) (.const vB)), mvD 25 24, ogD 26 25 true (.faddr 3 (tD 3)), ogD 27 25 true (.load false 1 (tD 26)), ogD 28 25 true (.bin .eql (tD 27) (.const (.int .u64 1))), opD 29 (.pick (tD 25) (tD 28) (.const vB)), mvD 30 29, ogD 31 30 true (.faddr 6 (tD 3)), ogD 32 30 true (.load false 1 (tD 31)), opD 33 (.pick (tD 30) (tD 32) (.const vB)), mvD 34 33, ogD 35 34 true (.faddr 0 (tD 4)), ogD 36 34 true (.load false 1 (tD 35)), opD 37 (.pick (tD 34) (tD 36) (.const vB)), mvD 38 37, ogD 39 38 true (.faddr 1 (tD 4)), ogD 40 38 true (.load false 1 (tD 39)), ogD 41 38 true (.bin .eql (tD 40) (cD 1)), opD 42 (.pick (tD 38) (tD 41) (.const vB)), mvD 43 42, ogD 44 43 true (.faddr 2 (tD 4)), ogD 45 43 true (.faddr 1 (tD 44)), ogD 46 43 true (.load false 1 (tD 45)), ogD 47 43 true (.bin .eql (tD 46) (cD 6)), opD 48 (.pick (tD 43) (tD 47) (.const vB)), mvD 49 48, ogD 50 49 true (.faddr 2 (tD 4)), ogD 51 49 true (.faddr 25 (tD 50)), ogD 52 49 true (.load false 1 (tD 51)), ogD 53 49 true (.bin .eql (tD 52) (.const (.string ⟨#[116]⟩))), opD 54 (.pick (tD 49) (tD 53) (.const vB)), mvD 55 54, ogD 56 55 true (.faddr 2 (tD 4)), ogD 57 55 true (.faddr 0 (tD 56)), ogD 58 55 true (.load false 1 (tD 57)), ogD 59 55 true (.bin .eql (tD 58) (.const (.int .u64 1))), opD 60 (.pick (tD 55) (tD 59) (.const vB)), mvD 0 60] [[], [0], [1], [2], [3, 2], [2, 4], [5, 2], [6], [7, 6], [8, 6], [6, 9], [10, 6], [11], [12, 11], [11, 13], [14, 11], [15], [16, 15], [15, 17], [18, 15], [19], [20, 19], [21, 19], [19, 22], [23, 19], [24], [25, 24], [26, 24], [27, 24], [24, 28], [29, 24], [30], [31, 30], [32, 30], [33, 30], [30, 34], [35, 30], [36], [37, 36], [38, 36], [39, 36], [36, 40], [41, 36, 0, 1, 2, 3, 4, 5, 6, 7, 8, 9, 10, 11, 12, 13, 14, 15, 16, 17, 18, 19, 20, 21, 22, 23, 24, 25, 26, 27, 28, 29, 30, 31, 32, 33, 34, 35, 36, 37, 38, 39, 40, 41]] false) .ret))))
set_option maxRecDepth 1000000 in
theorem v9 (fu : Nat) : evF fu (d9 fu) rs9 61 (e9 fu).ash (e9 fu).osh (e9 fu).vsh = p9 fu := by kernel_rfl
set_option maxRecDepth 1000000 in
theorem b9 (fu : Nat) : BodyD Try.prog 9 61 (d9 fu).erase rs9 := bodyD_mk Try.func9 (by kernel_rfl) (by kernel_rfl) (by kernel_rfl) (by kernel_rfl)
theorem g9 (fu : Nat) : (e9 fu).Good Try.prog := good_by orders (b9 fu) (l := [e10 fu, e16 fu]) (by kernel_rfl) ⟨g10 fu, g16 fu, trivial⟩ (by kernel_rfl) (v9 fu)
def rs11 : List RVx := [(.cell 6 true 33), (.tmp 7)]
/-- gazette/gazetteref21.New -/
def p11 (fu : Nat) : (Int) × ((List (Int)) × ((Int) × (Unit))) → Option ((Unit) × ((Z1) × ((Int) × (Unit)))) := fun ⟨a, c, f, _⟩ =>
orK (E := ((Bool) × (Unit)) × (Unit))
 (bif decide (a < (1 : Int)) then
 some (.inl ((true, ()), ()))
 else
 bif decide (a > (7 : Int)) then
 some (.inl ((true, ()), ()))
 else
 bif ((List.length c : Int) == (0 : Int)) then
 some (.inl ((true, ()), ()))
 else
 some (.inl (((f == (0 : Int)), ()), ())))
 fun ⟨⟨h, _⟩, _⟩ =>
bif h then
 some ((), (((0 : Int), [], (0 : Int), (0 : Int), [], [], false, (0 : Int), (⟨#[]⟩ : ByteArray), (⟨#[]⟩ : ByteArray), [], (0 : Int), (0 : Int), (⟨#[]⟩ : ByteArray), (0 : Int), (0 : Int), (0 : Int), (⟨#[]⟩ : ByteArray), [], (0 : Int), (0 : Int), (⟨#[]⟩ : ByteArray), (0 : Int), (0 : Int), (0 : Int), (0 : Int), (0 : Int), false, (0 : Int), (0 : Int), (0 : Int), false, (0 : Int), ()), (1 : Int), ()))
else
 loopO (S := ((Int) × (Unit)) × (Unit)) fu (fun ⟨⟨i, _⟩, _⟩ =>
 bif decide (i < (List.length c : Int)) then
 orK (E := ((Bool) × (Unit)) × (Unit))
 (bif decide ((0 : Int) ≤ i ∧ i < (List.length c : Int)) then
 bif decide (Int.toNat i < List.length c) then
 bif decide ((List.getD c (Int.toNat i) (dflt (.int .i64))) < (1 : Int)) then
 some (.inl ((true, ()), ()))
 else
 bif decide ((0 : Int) ≤ i ∧ i < (List.length c : Int)) then
 bif decide (Int.toNat i < List.length c) then
 bif decide ((List.getD c (Int.toNat i) (dflt (.int .i64))) > (7 : Int)) then
 some (.inl ((true, ()), ()))
 else
 bif decide ((0 : Int) ≤ i ∧ i < (List.length c : Int)) then
 bif decide (Int.toNat i < List.length c) then
 some (.inl ((((List.getD c (Int.toNat i) (dflt (.int .i64))) == a), ()), ()))
 else none
 else none
 else none
 else none
 else none
 else none)
 fun ⟨⟨j, _⟩, _⟩ =>
 bif j then
 inrO (some ((), (((0 : Int), [], (0 : Int), (0 : Int), [], [], false, (0 : Int), (⟨#[]⟩ : ByteArray), (⟨#[]⟩ : ByteArray), [], (0 : Int), (0 : Int), (⟨#[]⟩ : ByteArray), (0 : Int), (0 : Int), (0 : Int), (⟨#[]⟩ : ByteArray), [], (0 : Int), (0 : Int), (⟨#[]⟩ : ByteArray), (0 : Int), (0 : Int), (0 : Int), (0 : Int), (0 : Int), false, (0 : Int), (0 : Int), (0 : Int), false, (0 : Int), ()), (1 : Int), ())))
 else
 loopO (S := ((Int) × (Unit)) × (Unit)) fu (fun ⟨⟨k, _⟩, _⟩ =>
 bif decide (k < i) then
 bif decide ((0 : Int) ≤ k ∧ k < (List.length c : Int)) then
 bif decide (Int.toNat k < List.length c) then
 bif decide ((0 : Int) ≤ i ∧ i < (List.length c : Int)) then
 bif decide (Int.toNat i < List.length c) then
 bif ((List.getD c (Int.toNat k) (dflt (.int .i64))) == (List.getD c (Int.toNat i) (dflt (.int .i64)))) then
 inrO (inrO (some ((), (((0 : Int), [], (0 : Int), (0 : Int), [], [], false, (0 : Int), (⟨#[]⟩ : ByteArray), (⟨#[]⟩ : ByteArray), [], (0 : Int), (0 : Int), (⟨#[]⟩ : ByteArray), (0 : Int), (0 : Int), (0 : Int), (⟨#[]⟩ : ByteArray), [], (0 : Int), (0 : Int), (⟨#[]⟩ : ByteArray), (0 : Int), (0 : Int), (0 : Int), (0 : Int), (0 : Int), false, (0 : Int), (0 : Int), (0 : Int), false, (0 : Int), ()), (1 : Int), ()))))
 else
 some (.inl ((IntKind.wrap .i64 (k + (1 : Int)), ()), ()))
 else none
 else none
 else none
 else none
 else
 inrO (some (.inl ((IntKind.wrap .i64 (i + (1 : Int)), ()), ()))))
 (((0 : Int), ()), ())
 else
 inrO (bif decide (0 = List.length ([] : List (Int))) then
 bif decide (List.length ([] : List (Int)) + List.length c ≤ maxLen ∧ (List.length ([] : List (Int)) + List.length c) * 8 ≤ 140737488355328) then
 bif decide (List.length (([] : List (Int)) ++ c) = List.length (([] : List (Int)) ++ c)) then
 some ((), ((a, (([] : List (Int)) ++ c), f, (0 : Int), [], [], false, (0 : Int), (⟨#[]⟩ : ByteArray), (⟨#[]⟩ : ByteArray), [], (0 : Int), (0 : Int), (⟨#[]⟩ : ByteArray), (0 : Int), (0 : Int), (0 : Int), (⟨#[]⟩ : ByteArray), [], (0 : Int), (0 : Int), (⟨#[]⟩ : ByteArray), (0 : Int), (0 : Int), (0 : Int), (0 : Int), (0 : Int), false, (0 : Int), (0 : Int), (0 : Int), false, (0 : Int), ()), (0 : Int), ()))
 else none
 else none
 else none))
 (((0 : Int), ()), ())
def e11 (fu : Nat) : Ent := ⟨11, (.cons (.hole (.int .i64)) (.cons (.hole (.sl (.int .i64))) (.cons (.hole (.int .u64)) .nil))), .nil, (.tup 2 (.cons Y5 (.cons (.hole (.int .i64)) .nil))), p11 fu⟩
def d11 (_ : Nat) : DC := (.seq (.region [opD 6 (.alloc 35 33 [vI, vS, vU, vU, vS, vS, vB, vI, vT, vT, vS, vU, vI, vT, vI, vU, vU, vT, vS, vU, vU, vT, vI, vI, vU, vI, vU, vB, vU, vI, vI, vB, vI]), opD 7 (.mov (cD 0))] [[], []] false) (.seq (.join ⟨[24], (.cons (.hole .bool) .nil), [], .nil, [0, 1, 2, 6], [0]⟩
 (.region [mvD 10 0, opD 11 (.bin .lss (tD 10) (cD 1)), mvD 12 11, ogD 13 12 false (.mov (tD 0)), ogD 14 12 false (.bin .gtr (tD 13) (cD 7)), opD 15 (.pick (tD 12) (.const (.bool true)) (tD 14)), mvD 16 15, ogD 17 16 false (.mov (tD 1)), ogD 18 16 false (.len false (tD 17)), ogD 19 16 false (.bin .eql (tD 18) (cD 0)), opD 20 (.pick (tD 16) (.const (.bool true)) (tD 19)), mvD 21 20, ogD 22 21 false (.mov (tD 2)), ogD 23 21 false (.bin .eql (tD 22) (.const vU)), opD 24 (.pick (tD 21) (.const (.bool true)) (tD 23))] [[], [0], [1], [2], [3, 2], [2, 4], [5, 2], [6], [7, 6], [8, 6], [6, 9], [10, 6], [11], [12, 11], [11, 13]] false)
 (.cond (.tmp 24) (.seq (.region [opD 25 (.build 33 [vI, vS, vU, vU, vS, vS, vB, vI, vT, vT, vS, vU, vI, vT, vI, vU, vU, vT, vS, vU, vU, vT, vI, vI, vU, vI, vU, vB, vU, vI, vI, vB, vI] []), onD (.store 33 (tD 6) (tD 25)), opD 7 (.mov (cD 1))] [[], [0, 0], [1, 0, 1]] false) .ret) .skip)) (.seq (.seq (.region [opD 8 (.mov (cD 0))] [[]] false) (.block 0 (.loop ⟨[8], (.cons (.hole (.int .i64)) .nil), [], .nil, [0, 1, 2, 6], [0]⟩
 (.seq (.seq (.region [mvD 26 8, mvD 27 1, opD 28 (.len false (tD 27)), opD 29 (.bin .lss (tD 26) (tD 28))] [[], [], [1], [0, 2]] false) (.cond (.tmp 29) .skip (.exit 0))) (.seq (.block 1 (.seq (.join ⟨[51], (.cons (.hole .bool) .nil), [], .nil, [0, 1, 2, 6, 8], [0]⟩
 (.region [mvD 32 1, mvD 33 8, opD 34 (.iaddr 1 (tD 32) (tD 33)), opD 35 (.load false 1 (tD 34)), opD 36 (.bin .lss (tD 35) (cD 1)), mvD 37 36, ogD 38 37 false (.mov (tD 1)), ogD 39 37 false (.mov (tD 8)), ogD 40 37 false (.iaddr 1 (tD 38) (tD 39)), ogD 41 37 false (.load false 1 (tD 40)), ogD 42 37 false (.bin .gtr (tD 41) (cD 7)), opD 43 (.pick (tD 37) (.const (.bool true)) (tD 42)), mvD 44 43, ogD 45 44 false (.mov (tD 1)), ogD 46 44 false (.mov (tD 8)), ogD 47 44 false (.iaddr 1 (tD 45) (tD 46)), ogD 48 44 false (.load false 1 (tD 47)), ogD 49 44 false (.mov (tD 0)), ogD 50 44 false (.bin .eql (tD 48) (tD 49)), opD 51 (.pick (tD 44) (.const (.bool true)) (tD 50))] [[], [], [0, 1], [2], [3], [4], [5], [5], [6, 7, 5], [8, 5], [9, 5], [5, 10], [11, 5], [12], [12], [13, 14, 12], [15, 12], [12], [16, 17, 12], [12, 18]] false)
 (.cond (.tmp 51) (.seq (.region [opD 52 (.build 33 [vI, vS, vU, vU, vS, vS, vB, vI, vT, vT, vS, vU, vI, vT, vI, vU, vU, vT, vS, vU, vU, vT, vI, vI, vU, vI, vU, vB, vU, vI, vI, vB, vI] []), onD (.store 33 (tD 6) (tD 52)), opD 7 (.mov (cD 1))] [[], [0, 0], [1, 0, 1]] false) .ret) .skip)) (.seq (.region [opD 9 (.mov (cD 0))] [[]] false) (.block 2 (.loop ⟨[9], (.cons (.hole (.int .i64)) .nil), [], .nil, [0, 1, 2, 6, 8], [0]⟩
 (.seq (.seq (.region [mvD 53 9, mvD 54 8, opD 55 (.bin .lss (tD 53) (tD 54))] [[], [], [0, 1]] false) (.cond (.tmp 55) .skip (.exit 2))) (.seq (.block 3 (.seq (.region [mvD 58 1, mvD 59 9, opD 60 (.iaddr 1 (tD 58) (tD 59)), opD 61 (.load false 1 (tD 60)), mvD 62 1, mvD 63 8, opD 64 (.iaddr 1 (tD 62) (tD 63)), opD 65 (.load false 1 (tD 64)), opD 66 (.bin .eql (tD 61) (tD 65))] [[], [], [0, 1], [2], [], [], [4, 5], [6], [3, 7]] true) (.cond (.tmp 66) (.seq (.region [opD 67 (.build 33 [vI, vS, vU, vU, vS, vS, vB, vI, vT, vT, vS, vU, vI, vT, vI, vU, vU, vT, vS, vU, vU, vT, vI, vI, vU, vI, vU, vB, vU, vI, vI, vB, vI] []), onD (.store 33 (tD 6) (tD 67)), opD 7 (.mov (cD 1))] [[], [0, 0], [1, 0, 1]] false) .ret) .skip))) (.region [mvD 56 9, opD 57 (.bin .add (tD 56) (cD 1)), mvD 9 57] [[], [0], [1, 0, 1]] false)))))))) (.region [mvD 30 8, opD 31 (.bin .add (tD 30) (cD 1)), mvD 8 31] [[], [0], [1, 0, 1]] false)))))) (.seq (.region [mvD 68 0, oqD 69 (.bslice 3 1 0 [vI] []) (.ty (.int .i64)), mvD 70 1, oqD 71 (.app 3 1 [vI] 8 (tD 69) (tD 70)) (.ty (.int .i64)), mvD 72 2, opD 73 (.build 33 [vI, vS, vU, vU, vS, vS, vB, vI, vT, vT, vS, vU, vI, vT, vI, vU, vU, vT, vS, vU, vU, vT, vI, vI, vU, vI, vU, vB, vU, vI, vI, vB, vI] [(0, (1, (tD 68))), (1, (1, (tD 71))), (2, (1, (tD 72)))]), onD (.store 33 (tD 6) (tD 73)), opD 7 (.mov (cD 0))] [[], [], [], [1, 2], [], [0, 3, 4], [5, 3, 0, 1, 2, 3, 4, 5], [6, 0, 1, 2, 3, 4, 5, 6]] false) .ret))))
set_option maxRecDepth 1000000 in
theorem v11 (fu : Nat) : evF fu (d11 fu) rs11 74 (e11 fu).ash (e11 fu).osh (e11 fu).vsh = p11 fu := by kernel_rfl
set_option maxRecDepth 1000000 in
theorem b11 (fu : Nat) : BodyD Try.prog 11 74 (d11 fu).erase rs11 := bodyD_mk Try.func11 (by kernel_rfl) (by kernel_rfl) (by kernel_rfl) (by kernel_rfl)
theorem g11 (fu : Nat) : (e11 fu).Good Try.prog := good_by orders (b11 fu) (l := []) (by kernel_rfl) trivial (by kernel_rfl) (v11 fu)
def rs25 : List RVx := [(.tmp 4)]
/-- gazette/gazetteref20.Ints -/
def p25 (fu : Nat) : (List (Int)) × ((List (Int)) × (Unit)) → Option ((Unit) × (Bool)) := fun ⟨a, c, _⟩ =>
bif ((List.length a : Int) != (List.length c : Int)) then
 some ((), false)
else
 loopO (S := ((Int) × (Unit)) × (Unit)) fu (fun ⟨⟨f, _⟩, _⟩ =>
 bif decide (f < (List.length a : Int)) then
 bif decide ((0 : Int) ≤ f ∧ f < (List.length a : Int)) then
 bif decide (Int.toNat f < List.length a) then
 bif decide ((0 : Int) ≤ f ∧ f < (List.length c : Int)) then
 bif decide (Int.toNat f < List.length c) then
 bif ((List.getD a (Int.toNat f) (dflt (.int .i64))) != (List.getD c (Int.toNat f) (dflt (.int .i64)))) then
 inrO (some ((), false))
 else
 some (.inl ((IntKind.wrap .i64 (f + (1 : Int)), ()), ()))
 else none
 else none
 else none
 else none
 else
 inrO (some ((), true)))
 (((0 : Int), ()), ())
def e25 (fu : Nat) : Ent := ⟨25, (.cons (.hole (.sl (.int .i64))) (.cons (.hole (.sl (.int .i64))) .nil)), .nil, (.hole .bool), p25 fu⟩
def d25 (_ : Nat) : DC := (.seq (.region [opD 4 (.mov (.const vB))] [[]] false) (.seq (.seq (.region [mvD 6 0, opD 7 (.len false (tD 6)), mvD 8 1, opD 9 (.len false (tD 8)), opD 10 (.bin .neq (tD 7) (tD 9))] [[], [0], [], [2], [1, 3]] false) (.cond (.tmp 10) (.seq (.region [opD 4 (.mov (.const vB))] [[]] false) .ret) .skip)) (.seq (.seq (.region [opD 5 (.mov (cD 0))] [[]] false) (.block 0 (.loop ⟨[5], (.cons (.hole (.int .i64)) .nil), [], .nil, [0, 1], []⟩
 (.seq (.seq (.region [mvD 11 5, mvD 12 0, opD 13 (.len false (tD 12)), opD 14 (.bin .lss (tD 11) (tD 13))] [[], [], [1], [0, 2]] false) (.cond (.tmp 14) .skip (.exit 0))) (.seq (.block 1 (.seq (.region [mvD 17 0, mvD 18 5, opD 19 (.iaddr 1 (tD 17) (tD 18)), opD 20 (.load false 1 (tD 19)), mvD 21 1, mvD 22 5, opD 23 (.iaddr 1 (tD 21) (tD 22)), opD 24 (.load false 1 (tD 23)), opD 25 (.bin .neq (tD 20) (tD 24))] [[], [], [0, 1], [2], [], [], [4, 5], [6], [3, 7]] true) (.cond (.tmp 25) (.seq (.region [opD 4 (.mov (.const vB))] [[]] false) .ret) .skip))) (.region [mvD 15 5, opD 16 (.bin .add (tD 15) (cD 1)), mvD 5 16] [[], [0], [1, 0, 1]] false)))))) (.seq (.region [opD 4 (.mov (.const (.bool true)))] [[]] false) .ret))))
set_option maxRecDepth 1000000 in
theorem v25 (fu : Nat) : evF fu (d25 fu) rs25 26 (e25 fu).ash (e25 fu).osh (e25 fu).vsh = p25 fu := by kernel_rfl
set_option maxRecDepth 1000000 in
theorem b25 (fu : Nat) : BodyD Try.prog 25 26 (d25 fu).erase rs25 := bodyD_mk Try.func25 (by kernel_rfl) (by kernel_rfl) (by kernel_rfl) (by kernel_rfl)
theorem g25 (fu : Nat) : (e25 fu).Good Try.prog := good_by orders (b25 fu) (l := []) (by kernel_rfl) trivial (by kernel_rfl) (v25 fu)
def rs58 : List RVx := [(.tmp 4)]
/-- gazette/gazetteref20.SameAdmin -/
def p58 (fu : Nat) : (Z9) × ((Z9) × (Unit)) → Option ((Unit) × (Bool)) := fun ⟨⟨a, c, f, h, i, j, k, l, m, n, o, q, _⟩, ⟨s, t, u, w, x, y, z, a0, c0, f0, h0, i0, _⟩, _⟩ =>
Option.bind (p25 fu (i, x, ())) fun ⟨_, j0⟩ =>
bif j0 then
 bif (a == s) then
 bif ByteArray.toList h == ByteArray.toList w then
 bif (j == y) then
 bif (k == z) then
 bif ByteArray.toList l == ByteArray.toList a0 then
 bif (m == c0) then
 bif (n == f0) then
 bif (o == h0) then
 bif (q == i0) then
 bif (c == t) then
 some ((), (f == u))
 else
 some ((), false)
 else
 some ((), false)
 else
 some ((), false)
 else
 some ((), false)
 else
 some ((), false)
 else
 some ((), false)
 else
 some ((), false)
 else
 some ((), false)
 else
 some ((), false)
 else
 some ((), false)
else
 some ((), false)
def e58 (fu : Nat) : Ent := ⟨58, (.cons Y10 (.cons Y10 .nil)), .nil, (.hole .bool), p58 fu⟩
def d58 (fu : Nat) : DC := (.seq (.region [opD 2 (.box 31 12 (tD 0)), opD 3 (.box 31 12 (tD 1)), opD 4 (.mov (.const vB))] [[], [], []] false) (.seq (.region [opD 6 (.faddr 4 (tD 2)), opD 7 (.load false 1 (tD 6)), opD 8 (.faddr 4 (tD 3)), opD 9 (.load false 1 (tD 8)), oqD 10 (.call 25 [(tD 7), (tD 9)]) (.ent (e25 fu)), mvD 5 10] [[], [0], [], [2], [1, 3], [4, 4, 0, 1, 2, 3, 4]] false) (.seq (.region [mvD 11 5, mvD 12 11, ogD 13 12 true (.faddr 0 (tD 2)), ogD 14 12 true (.load false 1 (tD 13)), ogD 15 12 true (.faddr 0 (tD 3)), ogD 16 12 true (.load false 1 (tD 15)), ogD 17 12 true (.bin .eql (tD 14) (tD 16)), opD 18 (.pick (tD 12) (tD 17) (.const vB)), mvD 19 18, ogD 20 19 true (.faddr 3 (tD 2)), ogD 21 19 true (.load false 1 (tD 20)), ogD 22 19 true (.faddr 3 (tD 3)), ogD 23 19 true (.load false 1 (tD 22)), ogD 24 19 true (.bin .eql (tD 21) (tD 23)), opD 25 (.pick (tD 19) (tD 24) (.const vB)), mvD 26 25, ogD 27 26 true (.faddr 5 (tD 2)), ogD 28 26 true (.load false 1 (tD 27)), ogD 29 26 true (.faddr 5 (tD 3)), ogD 30 26 true (.load false 1 (tD 29)), ogD 31 26 true (.bin .eql (tD 28) (tD 30)), opD 32 (.pick (tD 26) (tD 31) (.const vB)), mvD 33 32, ogD 34 33 true (.faddr 6 (tD 2)), ogD 35 33 true (.load false 1 (tD 34)), ogD 36 33 true (.faddr 6 (tD 3)), ogD 37 33 true (.load false 1 (tD 36)), ogD 38 33 true (.bin .eql (tD 35) (tD 37)), opD 39 (.pick (tD 33) (tD 38) (.const vB)), mvD 40 39, ogD 41 40 true (.faddr 7 (tD 2)), ogD 42 40 true (.load false 1 (tD 41)), ogD 43 40 true (.faddr 7 (tD 3)), ogD 44 40 true (.load false 1 (tD 43)), ogD 45 40 true (.bin .eql (tD 42) (tD 44)), opD 46 (.pick (tD 40) (tD 45) (.const vB)), mvD 47 46, ogD 48 47 true (.faddr 8 (tD 2)), ogD 49 47 true (.load false 1 (tD 48)), ogD 50 47 true (.faddr 8 (tD 3)), ogD 51 47 true (.load false 1 (tD 50)), ogD 52 47 true (.bin .eql (tD 49) (tD 51)), opD 53 (.pick (tD 47) (tD 52) (.const vB)), mvD 54 53, ogD 55 54 true (.faddr 9 (tD 2)), ogD 56 54 true (.load false 1 (tD 55)), ogD 57 54 true (.faddr 9 (tD 3)), ogD 58 54 true (.load false 1 (tD 57)), ogD 59 54 true (.bin .eql (tD 56) (tD 58)), opD 60 (.pick (tD 54) (tD 59) (.const vB)), mvD 61 60, ogD 62 61 true (.faddr 10 (tD 2)), ogD 63 61 true (.load false 1 (tD 62)), ogD 64 61 true (.faddr 10 (tD 3)), ogD 65 61 true (.load false 1 (tD 64)), ogD 66 61 true (.bin .eql (tD 63) (tD 65)), opD 67 (.pick (tD 61) (tD 66) (.const vB)), mvD 68 67, ogD 69 68 true (.faddr 11 (tD 2)), ogD 70 68 true (.load false 1 (tD 69)), ogD 71 68 true (.faddr 11 (tD 3)), ogD 72 68 true (.load false 1 (tD 71)), ogD 73 68 true (.bin .eql (tD 70) (tD 72)), opD 74 (.pick (tD 68) (tD 73) (.const vB)), mvD 75 74, ogD 76 75 true (.faddr 1 (tD 2)), ogD 77 75 true (.load false 1 (tD 76)), ogD 78 75 true (.faddr 1 (tD 3)), ogD 79 75 true (.load false 1 (tD 78)), ogD 80 75 true (.bin .eql (tD 77) (tD 79)), opD 81 (.pick (tD 75) (tD 80) (.const vB)), mvD 82 81, ogD 83 82 true (.faddr 2 (tD 2)), ogD 84 82 true (.load false 1 (tD 83)), ogD 85 82 true (.faddr 2 (tD 3)), ogD 86 82 true (.load false 1 (tD 85)), ogD 87 82 true (.bin .eql (tD 84) (tD 86)), opD 88 (.pick (tD 82) (tD 87) (.const vB)), mvD 4 88] [[], [0], [1], [2, 1], [1], [4, 1], [3, 5, 1], [1, 6], [7, 1], [8], [9, 8], [8], [11, 8], [10, 12, 8], [8, 13], [14, 8], [15], [16, 15], [15], [18, 15], [17, 19, 15], [15, 20], [21, 15], [22], [23, 22], [22], [25, 22], [24, 26, 22], [22, 27], [28, 22], [29], [30, 29], [29], [32, 29], [31, 33, 29], [29, 34], [35, 29], [36], [37, 36], [36], [39, 36], [38, 40, 36], [36, 41], [42, 36], [43], [44, 43], [43], [46, 43], [45, 47, 43], [43, 48], [49, 43], [50], [51, 50], [50], [53, 50], [52, 54, 50], [50, 55], [56, 50], [57], [58, 57], [57], [60, 57], [59, 61, 57], [57, 62], [63, 57], [64], [65, 64], [64], [67, 64], [66, 68, 64], [64, 69], [70, 64], [71], [72, 71], [71], [74, 71], [73, 75, 71], [71, 76], [77, 71, 0, 1, 2, 3, 4, 5, 6, 7, 8, 9, 10, 11, 12, 13, 14, 15, 16, 17, 18, 19, 20, 21, 22, 23, 24, 25, 26, 27, 28, 29, 30, 31, 32, 33, 34, 35, 36, 37, 38, 39, 40, 41, 42, 43, 44, 45, 46, 47, 48, 49, 50, 51, 52, 53, 54, 55, 56, 57, 58, 59, 60, 61, 62, 63, 64, 65, 66, 67, 68, 69, 70, 71, 72, 73, 74, 75, 76, 77]] false) .ret)))
set_option maxRecDepth 1000000 in
theorem v58 (fu : Nat) : evF fu (d58 fu) rs58 89 (e58 fu).ash (e58 fu).osh (e58 fu).vsh = p58 fu := by kernel_rfl
set_option maxRecDepth 1000000 in
theorem b58 (fu : Nat) : BodyD Try.prog 58 89 (d58 fu).erase rs58 := bodyD_mk Try.func58 (by kernel_rfl) (by kernel_rfl) (by kernel_rfl) (by kernel_rfl)
theorem g58 (fu : Nat) : (e58 fu).Good Try.prog := good_by orders (b58 fu) (l := [e25 fu]) (by kernel_rfl) ⟨g25 fu, trivial⟩ (by kernel_rfl) (v58 fu)
def rs38 : List RVx := [(.tmp 4)]
/-- gazette/gazetteref20.SameCall -/
def p38 (fu : Nat) : (Z2) × ((Z2) × (Unit)) → Option ((Unit) × (Bool)) := fun ⟨⟨a, c, f, h, i, j, k, l, m, n, o, q, s, t, u, w, x, y, z, _⟩, ⟨a0, c0, f0, h0, i0, j0, k0, l0, m0, n0, o0, q0, s0, t0, u0, w0, x0, y0, z0, _⟩, _⟩ =>
Option.bind (p58 fu ((l, m, n, o, q, s, t, u, w, x, y, z, ()), (l0, m0, n0, o0, q0, s0, t0, u0, w0, x0, y0, z0, ()), ())) fun ⟨_, a1⟩ =>
bif a1 then
 bif (a == a0) then
 bif ByteArray.toList c == ByteArray.toList c0 then
 bif ByteArray.toList f == ByteArray.toList f0 then
 bif ByteArray.toList (strOfNums h) == ByteArray.toList (strOfNums h0) then
 bif (i == i0) then
 bif (j == j0) then
 some ((), ByteArray.toList k == ByteArray.toList k0)
 else
 some ((), false)
 else
 some ((), false)
 else
 some ((), false)
 else
 some ((), false)
 else
 some ((), false)
 else
 some ((), false)
else
 some ((), false)
def e38 (fu : Nat) : Ent := ⟨38, (.cons Y12 (.cons Y12 .nil)), .nil, (.hole .bool), p38 fu⟩
def d38 (fu : Nat) : DC := (.seq (.region [opD 2 (.box 33 19 (tD 0)), opD 3 (.box 33 19 (tD 1)), opD 4 (.mov (.const vB))] [[], [], []] false) (.seq (.region [opD 6 (.faddr 7 (tD 2)), opD 7 (.load true 12 (tD 6)), opD 8 (.faddr 7 (tD 3)), opD 9 (.load true 12 (tD 8)), oqD 10 (.call 58 [(tD 7), (tD 9)]) (.ent (e58 fu)), mvD 5 10] [[], [0], [], [2], [1, 3], [4, 4, 0, 1, 2, 3, 4]] false) (.seq (.region [mvD 11 5, mvD 12 11, ogD 13 12 true (.faddr 0 (tD 2)), ogD 14 12 true (.load false 1 (tD 13)), ogD 15 12 true (.faddr 0 (tD 3)), ogD 16 12 true (.load false 1 (tD 15)), ogD 17 12 true (.bin .eql (tD 14) (tD 16)), opD 18 (.pick (tD 12) (tD 17) (.const vB)), mvD 19 18, ogD 20 19 true (.faddr 1 (tD 2)), ogD 21 19 true (.load false 1 (tD 20)), ogD 22 19 true (.faddr 1 (tD 3)), ogD 23 19 true (.load false 1 (tD 22)), ogD 24 19 true (.bin .eql (tD 21) (tD 23)), opD 25 (.pick (tD 19) (tD 24) (.const vB)), mvD 26 25, ogD 27 26 true (.faddr 2 (tD 2)), ogD 28 26 true (.load false 1 (tD 27)), ogD 29 26 true (.faddr 2 (tD 3)), ogD 30 26 true (.load false 1 (tD 29)), ogD 31 26 true (.bin .eql (tD 28) (tD 30)), opD 32 (.pick (tD 26) (tD 31) (.const vB)), mvD 33 32, ogD 34 33 true (.faddr 3 (tD 2)), ogD 35 33 true (.load false 1 (tD 34)), ogD 36 33 true (.b2s (tD 35)), ogD 37 33 true (.faddr 3 (tD 3)), ogD 38 33 true (.load false 1 (tD 37)), ogD 39 33 true (.b2s (tD 38)), ogD 40 33 true (.bin .eql (tD 36) (tD 39)), opD 41 (.pick (tD 33) (tD 40) (.const vB)), mvD 42 41, ogD 43 42 true (.faddr 4 (tD 2)), ogD 44 42 true (.load false 1 (tD 43)), ogD 45 42 true (.faddr 4 (tD 3)), ogD 46 42 true (.load false 1 (tD 45)), ogD 47 42 true (.bin .eql (tD 44) (tD 46)), opD 48 (.pick (tD 42) (tD 47) (.const vB)), mvD 49 48, ogD 50 49 true (.faddr 5 (tD 2)), ogD 51 49 true (.load false 1 (tD 50)), ogD 52 49 true (.faddr 5 (tD 3)), ogD 53 49 true (.load false 1 (tD 52)), ogD 54 49 true (.bin .eql (tD 51) (tD 53)), opD 55 (.pick (tD 49) (tD 54) (.const vB)), mvD 56 55, ogD 57 56 true (.faddr 6 (tD 2)), ogD 58 56 true (.load false 1 (tD 57)), ogD 59 56 true (.faddr 6 (tD 3)), ogD 60 56 true (.load false 1 (tD 59)), ogD 61 56 true (.bin .eql (tD 58) (tD 60)), opD 62 (.pick (tD 56) (tD 61) (.const vB)), mvD 4 62] [[], [0], [1], [2, 1], [1], [4, 1], [3, 5, 1], [1, 6], [7, 1], [8], [9, 8], [8], [11, 8], [10, 12, 8], [8, 13], [14, 8], [15], [16, 15], [15], [18, 15], [17, 19, 15], [15, 20], [21, 15], [22], [23, 22], [24, 22], [22], [26, 22], [27, 22], [25, 28, 22], [22, 29], [30, 22], [31], [32, 31], [31], [34, 31], [33, 35, 31], [31, 36], [37, 31], [38], [39, 38], [38], [41, 38], [40, 42, 38], [38, 43], [44, 38], [45], [46, 45], [45], [48, 45], [47, 49, 45], [45, 50], [51, 45, 0, 1, 2, 3, 4, 5, 6, 7, 8, 9, 10, 11, 12, 13, 14, 15, 16, 17, 18, 19, 20, 21, 22, 23, 24, 25, 26, 27, 28, 29, 30, 31, 32, 33, 34, 35, 36, 37, 38, 39, 40, 41, 42, 43, 44, 45, 46, 47, 48, 49, 50, 51]] false) .ret)))
set_option maxRecDepth 1000000 in
theorem v38 (fu : Nat) : evF fu (d38 fu) rs38 63 (e38 fu).ash (e38 fu).osh (e38 fu).vsh = p38 fu := by kernel_rfl
set_option maxRecDepth 1000000 in
theorem b38 (fu : Nat) : BodyD Try.prog 38 63 (d38 fu).erase rs38 := bodyD_mk Try.func38 (by kernel_rfl) (by kernel_rfl) (by kernel_rfl) (by kernel_rfl)
theorem g38 (fu : Nat) : (e38 fu).Good Try.prog := good_by orders (b38 fu) (l := [e58 fu]) (by kernel_rfl) ⟨g58 fu, trivial⟩ (by kernel_rfl) (v38 fu)
def rs24 : List RVx := [(.tmp 4)]
/-- gazette/gazetteref21.SameCall -/
def p24 (fu : Nat) : (Z2) × ((Z2) × (Unit)) → Option ((Unit) × (Bool)) := fun ⟨⟨a, c, f, h, i, j, k, l, m, n, o, q, s, t, u, w, x, y, z, _⟩, ⟨a0, c0, f0, h0, i0, j0, k0, l0, m0, n0, o0, q0, s0, t0, u0, w0, x0, y0, z0, _⟩, _⟩ =>
Option.bind (p38 fu ((a, c, f, h, i, j, k, l, m, n, o, q, s, t, u, w, x, y, z, ()), (a0, c0, f0, h0, i0, j0, k0, l0, m0, n0, o0, q0, s0, t0, u0, w0, x0, y0, z0, ()), ())) fun ⟨_, a1⟩ =>
some ((), a1)
def e24 (fu : Nat) : Ent := ⟨24, (.cons Y12 (.cons Y12 .nil)), .nil, (.hole .bool), p24 fu⟩
def d24 (fu : Nat) : DC := (.seq (.region [opD 2 (.box 33 19 (tD 0)), opD 3 (.box 33 19 (tD 1)), opD 4 (.mov (.const vB))] [[], [], []] false) (.seq (.region [opD 5 (.load true 19 (tD 2)), opD 6 (.load true 19 (tD 3)), oqD 7 (.call 38 [(tD 5), (tD 6)]) (.ent (e38 fu)), mvD 4 7] [[], [], [0, 1], [2, 2, 0, 1, 2]] false) .ret))
set_option maxRecDepth 1000000 in
theorem v24 (fu : Nat) : evF fu (d24 fu) rs24 8 (e24 fu).ash (e24 fu).osh (e24 fu).vsh = p24 fu := by kernel_rfl
set_option maxRecDepth 1000000 in
theorem b24 (fu : Nat) : BodyD Try.prog 24 8 (d24 fu).erase rs24 := bodyD_mk Try.func24 (by kernel_rfl) (by kernel_rfl) (by kernel_rfl) (by kernel_rfl)
theorem g24 (fu : Nat) : (e24 fu).Good Try.prog := good_by orders (b24 fu) (l := [e38 fu]) (by kernel_rfl) ⟨g38 fu, trivial⟩ (by kernel_rfl) (v24 fu)
def rs26 : List RVx := [(.tmp 4)]
/-- gazette/gazetteref20.SameShards -/
def p26 (fu : Nat) : (List (D_api_Shard)) × ((List (D_api_Shard)) × (Unit)) → Option ((Unit) × (Bool)) := fun ⟨a, c, _⟩ =>
bif ((List.length a : Int) != (List.length c : Int)) then
 some ((), false)
else
 loopO (S := ((Int) × (Unit)) × (Unit)) fu (fun ⟨⟨f, _⟩, _⟩ =>
 bif decide (f < (List.length a : Int)) then
 bif decide ((0 : Int) ≤ f ∧ f < (List.length a : Int)) then
 bif decide (Int.toNat f < List.length a) then
 bif decide ((0 : Int) ≤ f ∧ f < (List.length c : Int)) then
 bif decide (Int.toNat f < List.length c) then
 Option.bind (p25 fu (((((List.getD a (Int.toNat f) (dflt T_api_Shard)).2).2).2).1, ((((List.getD c (Int.toNat f) (dflt T_api_Shard)).2).2).2).1, ())) fun ⟨_, h⟩ =>
 bif decide ((0 : Int) ≤ f ∧ f < (List.length a : Int)) then
 bif decide (Int.toNat f < List.length a) then
 bif decide ((0 : Int) ≤ f ∧ f < (List.length c : Int)) then
 bif decide (Int.toNat f < List.length c) then
 Option.bind (p25 fu ((((((List.getD a (Int.toNat f) (dflt T_api_Shard)).2).2).2).2).1, (((((List.getD c (Int.toNat f) (dflt T_api_Shard)).2).2).2).2).1, ())) fun ⟨_, i⟩ =>
 bif !h then
 inrO (some ((), false))
 else
 bif !i then
 inrO (some ((), false))
 else
 bif decide ((0 : Int) ≤ f ∧ f < (List.length a : Int)) then
 bif decide (Int.toNat f < List.length a) then
 bif decide ((0 : Int) ≤ f ∧ f < (List.length c : Int)) then
 bif decide (Int.toNat f < List.length c) then
 bif (((List.getD a (Int.toNat f) (dflt T_api_Shard)).1) != ((List.getD c (Int.toNat f) (dflt T_api_Shard)).1)) then
 inrO (some ((), false))
 else
 bif decide ((0 : Int) ≤ f ∧ f < (List.length a : Int)) then
 bif decide (Int.toNat f < List.length a) then
 bif decide ((0 : Int) ≤ f ∧ f < (List.length c : Int)) then
 bif decide (Int.toNat f < List.length c) then
 bif !(((((List.getD a (Int.toNat f) (dflt T_api_Shard)).2).1).1) == ((((List.getD c (Int.toNat f) (dflt T_api_Shard)).2).1).1) && (((((List.getD a (Int.toNat f) (dflt T_api_Shard)).2).1).2) == ((((List.getD c (Int.toNat f) (dflt T_api_Shard)).2).1).2) && true)) then
 inrO (some ((), false))
 else
 bif decide ((0 : Int) ≤ f ∧ f < (List.length a : Int)) then
 bif decide (Int.toNat f < List.length a) then
 bif decide ((0 : Int) ≤ f ∧ f < (List.length c : Int)) then
 bif decide (Int.toNat f < List.length c) then
 bif (((((List.getD a (Int.toNat f) (dflt T_api_Shard)).2).2).1) != ((((List.getD c (Int.toNat f) (dflt T_api_Shard)).2).2).1)) then
 inrO (some ((), false))
 else
 bif decide ((0 : Int) ≤ f ∧ f < (List.length a : Int)) then
 bif decide (Int.toNat f < List.length a) then
 bif decide ((0 : Int) ≤ f ∧ f < (List.length c : Int)) then
 bif decide (Int.toNat f < List.length c) then
 bif (((((((List.getD a (Int.toNat f) (dflt T_api_Shard)).2).2).2).2).2) != ((((((List.getD c (Int.toNat f) (dflt T_api_Shard)).2).2).2).2).2)) then
 inrO (some ((), false))
 else
 some (.inl ((IntKind.wrap .i64 (f + (1 : Int)), ()), ()))
 else none
 else none
 else none
 else none
 else none
 else none
 else none
 else none
 else none
 else none
 else none
 else none
 else none
 else none
 else none
 else none
 else none
 else none
 else none
 else none
 else none
 else none
 else none
 else none
 else
 inrO (some ((), true)))
 (((0 : Int), ()), ())
def e26 (fu : Nat) : Ent := ⟨26, (.cons (.hole (.sl T_api_Shard)) (.cons (.hole (.sl T_api_Shard)) .nil)), .nil, (.hole .bool), p26 fu⟩
def d26 (fu : Nat) : DC := (.seq (.region [opD 4 (.mov (.const vB))] [[]] false) (.seq (.seq (.region [mvD 8 0, opD 9 (.len false (tD 8)), mvD 10 1, opD 11 (.len false (tD 10)), opD 12 (.bin .neq (tD 9) (tD 11))] [[], [0], [], [2], [1, 3]] false) (.cond (.tmp 12) (.seq (.region [opD 4 (.mov (.const vB))] [[]] false) .ret) .skip)) (.seq (.seq (.region [opD 5 (.mov (cD 0))] [[]] false) (.block 0 (.loop ⟨[5], (.cons (.hole (.int .i64)) .nil), [], .nil, [0, 1], []⟩
 (.seq (.seq (.region [mvD 13 5, mvD 14 0, opD 15 (.len false (tD 14)), opD 16 (.bin .lss (tD 13) (tD 15))] [[], [], [1], [0, 2]] false) (.cond (.tmp 16) .skip (.exit 0))) (.seq (.block 1 (.seq (.region [mvD 19 0, mvD 20 5, opD 21 (.iaddr 7 (tD 19) (tD 20)), opD 22 (.faddr 4 (tD 21)), opD 23 (.load false 1 (tD 22)), mvD 24 1, mvD 25 5, opD 26 (.iaddr 7 (tD 24) (tD 25)), opD 27 (.faddr 4 (tD 26)), opD 28 (.load false 1 (tD 27)), oqD 29 (.call 25 [(tD 23), (tD 28)]) (.ent (e25 fu)), mvD 6 29] [[], [], [0, 1], [2], [3], [], [], [5, 6], [7], [8], [4, 9], [10, 10, 0, 1, 2, 3, 4, 5, 6, 7, 8, 9, 10]] true) (.seq (.region [mvD 30 0, mvD 31 5, opD 32 (.iaddr 7 (tD 30) (tD 31)), opD 33 (.faddr 5 (tD 32)), opD 34 (.load false 1 (tD 33)), mvD 35 1, mvD 36 5, opD 37 (.iaddr 7 (tD 35) (tD 36)), opD 38 (.faddr 5 (tD 37)), opD 39 (.load false 1 (tD 38)), oqD 40 (.call 25 [(tD 34), (tD 39)]) (.ent (e25 fu)), mvD 7 40] [[], [], [0, 1], [2], [3], [], [], [5, 6], [7], [8], [4, 9], [10, 10, 0, 1, 2, 3, 4, 5, 6, 7, 8, 9, 10]] true) (.seq (.region [mvD 41 6, opD 42 (.not (tD 41)), mvD 43 42, ogD 44 43 false (.mov (tD 7)), ogD 45 43 false (.not (tD 44)), opD 46 (.pick (tD 43) (.const (.bool true)) (tD 45)), mvD 47 46, ogD 48 47 false (.mov (tD 0)), ogD 49 47 false (.mov (tD 5)), ogD 50 47 false (.iaddr 7 (tD 48) (tD 49)), ogD 51 47 false (.faddr 0 (tD 50)), ogD 52 47 false (.load false 1 (tD 51)), ogD 53 47 false (.mov (tD 1)), ogD 54 47 false (.mov (tD 5)), ogD 55 47 false (.iaddr 7 (tD 53) (tD 54)), ogD 56 47 false (.faddr 0 (tD 55)), ogD 57 47 false (.load false 1 (tD 56)), ogD 58 47 false (.bin .neq (tD 52) (tD 57)), opD 59 (.pick (tD 47) (.const (.bool true)) (tD 58)), mvD 60 59, ogD 61 60 false (.mov (tD 0)), ogD 62 60 false (.mov (tD 5)), ogD 63 60 false (.iaddr 7 (tD 61) (tD 62)), ogD 64 60 false (.faddr 1 (tD 63)), ogD 65 60 false (.load true 2 (tD 64)), ogD 66 60 false (.mov (tD 1)), ogD 67 60 false (.mov (tD 5)), ogD 68 60 false (.iaddr 7 (tD 66) (tD 67)), ogD 69 60 false (.faddr 1 (tD 68)), ogD 70 60 false (.load true 2 (tD 69)), ogD 71 60 false (.seq true [.str, .str] (tD 65) (tD 70)), opD 72 (.pick (tD 60) (.const (.bool true)) (tD 71)), mvD 73 72, ogD 74 73 false (.mov (tD 0)), ogD 75 73 false (.mov (tD 5)), ogD 76 73 false (.iaddr 7 (tD 74) (tD 75)), ogD 77 73 false (.faddr 3 (tD 76)), ogD 78 73 false (.load false 1 (tD 77)), ogD 79 73 false (.mov (tD 1)), ogD 80 73 false (.mov (tD 5)), ogD 81 73 false (.iaddr 7 (tD 79) (tD 80)), ogD 82 73 false (.faddr 3 (tD 81)), ogD 83 73 false (.load false 1 (tD 82)), ogD 84 73 false (.bin .neq (tD 78) (tD 83)), opD 85 (.pick (tD 73) (.const (.bool true)) (tD 84)), mvD 86 85, ogD 87 86 false (.mov (tD 0)), ogD 88 86 false (.mov (tD 5)), ogD 89 86 false (.iaddr 7 (tD 87) (tD 88)), ogD 90 86 false (.faddr 6 (tD 89)), ogD 91 86 false (.load false 1 (tD 90)), ogD 92 86 false (.mov (tD 1)), ogD 93 86 false (.mov (tD 5)), ogD 94 86 false (.iaddr 7 (tD 92) (tD 93)), ogD 95 86 false (.faddr 6 (tD 94)), ogD 96 86 false (.load false 1 (tD 95)), ogD 97 86 false (.bin .neq (tD 91) (tD 96)), opD 98 (.pick (tD 86) (.const (.bool true)) (tD 97))] [[], [0], [1], [2], [3, 2], [2, 4], [5, 2], [6], [6], [7, 8, 6], [9, 6], [10, 6], [6], [6], [12, 13, 6], [14, 6], [15, 6], [11, 16, 6], [6, 17], [18, 6], [19], [19], [20, 21, 19], [22, 19], [23, 19], [19], [19], [25, 26, 19], [27, 19], [28, 19], [24, 29, 19], [19, 30], [31, 19], [32], [32], [33, 34, 32], [35, 32], [36, 32], [32], [32], [38, 39, 32], [40, 32], [41, 32], [37, 42, 32], [32, 43], [44, 32], [45], [45], [46, 47, 45], [48, 45], [49, 45], [45], [45], [51, 52, 45], [53, 45], [54, 45], [50, 55, 45], [45, 56]] true) (.cond (.tmp 98) (.seq (.region [opD 4 (.mov (.const vB))] [[]] false) .ret) .skip))))) (.region [mvD 17 5, opD 18 (.bin .add (tD 17) (cD 1)), mvD 5 18] [[], [0], [1, 0, 1]] false)))))) (.seq (.region [opD 4 (.mov (.const (.bool true)))] [[]] false) .ret))))
set_option maxRecDepth 1000000 in
theorem v26 (fu : Nat) : evF fu (d26 fu) rs26 99 (e26 fu).ash (e26 fu).osh (e26 fu).vsh = p26 fu := by kernel_rfl
set_option maxRecDepth 1000000 in
theorem b26 (fu : Nat) : BodyD Try.prog 26 99 (d26 fu).erase rs26 := bodyD_mk Try.func26 (by kernel_rfl) (by kernel_rfl) (by kernel_rfl) (by kernel_rfl)
theorem g26 (fu : Nat) : (e26 fu).Good Try.prog := good_by orders (b26 fu) (l := [e25 fu, e25 fu]) (by kernel_rfl) ⟨g25 fu, g25 fu, trivial⟩ (by kernel_rfl) (v26 fu)
def rs12 : List RVx := [(.tmp 4)]
/-- gazette/gazetteref21.Same -/
def p12 (fu : Nat) : (Z1) × ((Z1) × (Unit)) → Option ((Unit) × (Bool)) := fun ⟨⟨a, c, f, h, i, j, k, l, m, n, o, q, s, t, u, w, x, y, z, a0, c0, f0, h0, i0, j0, k0, l0, m0, n0, o0, q0, s0, t0, _⟩, ⟨u0, w0, x0, y0, z0, a1, c1, f1, h1, i1, j1, k1, l1, m1, n1, o1, q1, s1, t1, u1, w1, x1, y1, z1, a2, c2, f2, h2, i2, j2, k2, l2, m2, _⟩, _⟩ =>
Option.bind (p24 fu ((l, m, n, o, q, s, t, u, w, x, y, z, a0, c0, f0, h0, i0, j0, k0, ()), (f1, h1, i1, j1, k1, l1, m1, n1, o1, q1, s1, t1, u1, w1, x1, y1, z1, a2, c2, ()), ())) fun ⟨_, n2⟩ =>
Option.bind (p25 fu (c, w0, ())) fun ⟨_, o2⟩ =>
bif !n2 then
 some ((), false)
else
 bif !o2 then
 some ((), false)
 else
 bif ((List.length i : Int) != (List.length z0 : Int)) then
 some ((), false)
 else
 bif ((List.length j : Int) != (List.length a1 : Int)) then
 some ((), false)
 else
 loopO (S := ((Int) × (Unit)) × (Unit)) fu (fun ⟨⟨q2, _⟩, _⟩ =>
 bif decide (q2 < (List.length i : Int)) then
 bif decide ((0 : Int) ≤ q2 ∧ q2 < (List.length i : Int)) then
 bif decide (Int.toNat q2 < List.length i) then
 bif decide ((0 : Int) ≤ q2 ∧ q2 < (List.length z0 : Int)) then
 bif decide (Int.toNat q2 < List.length z0) then
 Option.bind (p26 fu ((List.getD i (Int.toNat q2) (dflt T_api_Topic)).2, (List.getD z0 (Int.toNat q2) (dflt T_api_Topic)).2, ())) fun ⟨_, s2⟩ =>
 bif !s2 then
 inrO (some ((), false))
 else
 bif decide ((0 : Int) ≤ q2 ∧ q2 < (List.length i : Int)) then
 bif decide (Int.toNat q2 < List.length i) then
 bif decide ((0 : Int) ≤ q2 ∧ q2 < (List.length z0 : Int)) then
 bif decide (Int.toNat q2 < List.length z0) then
 bif !(ByteArray.toList ((List.getD i (Int.toNat q2) (dflt T_api_Topic)).1) == ByteArray.toList ((List.getD z0 (Int.toNat q2) (dflt T_api_Topic)).1)) then
 inrO (some ((), false))
 else
 some (.inl ((IntKind.wrap .i64 (q2 + (1 : Int)), ()), ()))
 else none
 else none
 else none
 else none
 else none
 else none
 else none
 else none
 else
 inrO (loopO (S := ((Int) × (Unit)) × (Unit)) fu (fun ⟨⟨t2, _⟩, _⟩ =>
 bif decide (t2 < (List.length j : Int)) then
 bif decide ((0 : Int) ≤ t2 ∧ t2 < (List.length j : Int)) then
 bif decide (Int.toNat t2 < List.length j) then
 bif decide ((0 : Int) ≤ t2 ∧ t2 < (List.length a1 : Int)) then
 bif decide (Int.toNat t2 < List.length a1) then
 bif !(((List.getD j (Int.toNat t2) (dflt T_api_Site)).1) == ((List.getD a1 (Int.toNat t2) (dflt T_api_Site)).1) && (((List.getD j (Int.toNat t2) (dflt T_api_Site)).2) == ((List.getD a1 (Int.toNat t2) (dflt T_api_Site)).2) && true)) then
 inrO (some ((), false))
 else
 some (.inl ((IntKind.wrap .i64 (t2 + (1 : Int)), ()), ()))
 else none
 else none
 else none
 else none
 else
 inrO (bif (a == u0) then
 bif (f == x0) then
 bif (h == y0) then
 bif k == c1 then
 bif (l0 == f2) then
 bif m0 == h2 then
 bif (n0 == i2) then
 bif (o0 == j2) then
 bif (q0 == k2) then
 bif s0 == l2 then
 some ((), (t0 == m2))
 else
 some ((), false)
 else
 some ((), false)
 else
 some ((), false)
 else
 some ((), false)
 else
 some ((), false)
 else
 some ((), false)
 else
 some ((), false)
 else
 some ((), false)
 else
 some ((), false)
 else
 some ((), false)))
 (((0 : Int), ()), ())))
 (((0 : Int), ()), ())
def e12 (fu : Nat) : Ent := ⟨12, (.cons Y14 (.cons Y14 .nil)), .nil, (.hole .bool), p12 fu⟩
def d12 (fu : Nat) : DC := (.seq (.region [opD 2 (.box 35 33 (tD 0)), opD 3 (.box 35 33 (tD 1)), opD 4 (.mov (.const vB))] [[], [], []] false) (.seq (.region [opD 10 (.faddr 7 (tD 2)), opD 11 (.load true 19 (tD 10)), opD 12 (.faddr 7 (tD 3)), opD 13 (.load true 19 (tD 12)), oqD 14 (.call 24 [(tD 11), (tD 13)]) (.ent (e24 fu)), mvD 5 14] [[], [0], [], [2], [1, 3], [4, 4, 0, 1, 2, 3, 4]] false) (.seq (.region [opD 15 (.faddr 1 (tD 2)), opD 16 (.load false 1 (tD 15)), opD 17 (.faddr 1 (tD 3)), opD 18 (.load false 1 (tD 17)), oqD 19 (.call 25 [(tD 16), (tD 18)]) (.ent (e25 fu)), mvD 6 19] [[], [0], [], [2], [1, 3], [4, 4, 0, 1, 2, 3, 4]] false) (.seq (.seq (.region [mvD 20 5, opD 21 (.not (tD 20)), mvD 22 21, ogD 23 22 false (.mov (tD 6)), ogD 24 22 false (.not (tD 23)), opD 25 (.pick (tD 22) (.const (.bool true)) (tD 24)), mvD 26 25, ogD 27 26 false (.faddr 4 (tD 2)), ogD 28 26 false (.load false 1 (tD 27)), ogD 29 26 false (.len false (tD 28)), ogD 30 26 false (.faddr 4 (tD 3)), ogD 31 26 false (.load false 1 (tD 30)), ogD 32 26 false (.len false (tD 31)), ogD 33 26 false (.bin .neq (tD 29) (tD 32)), opD 34 (.pick (tD 26) (.const (.bool true)) (tD 33)), mvD 35 34, ogD 36 35 false (.faddr 5 (tD 2)), ogD 37 35 false (.load false 1 (tD 36)), ogD 38 35 false (.len false (tD 37)), ogD 39 35 false (.faddr 5 (tD 3)), ogD 40 35 false (.load false 1 (tD 39)), ogD 41 35 false (.len false (tD 40)), ogD 42 35 false (.bin .neq (tD 38) (tD 41)), opD 43 (.pick (tD 35) (.const (.bool true)) (tD 42))] [[], [0], [1], [2], [3, 2], [2, 4], [5, 2], [6], [7, 6], [8, 6], [6], [10, 6], [11, 6], [9, 12, 6], [6, 13], [14, 6], [15], [16, 15], [17, 15], [15], [19, 15], [20, 15], [18, 21, 15], [15, 22]] false) (.cond (.tmp 43) (.seq (.region [opD 4 (.mov (.const vB))] [[]] false) .ret) .skip)) (.seq (.seq (.region [opD 7 (.mov (cD 0))] [[]] false) (.block 0 (.loop ⟨[7], (.cons (.hole (.int .i64)) .nil), [], .nil, [2, 3], [0, 16]⟩
 (.seq (.seq (.region [mvD 44 7, opD 45 (.faddr 4 (tD 2)), opD 46 (.load false 1 (tD 45)), opD 47 (.len false (tD 46)), opD 48 (.bin .lss (tD 44) (tD 47))] [[], [], [1], [2], [0, 3]] false) (.cond (.tmp 48) .skip (.exit 0))) (.seq (.block 1 (.seq (.region [opD 51 (.faddr 4 (tD 2)), opD 52 (.load false 1 (tD 51)), mvD 53 7, opD 54 (.iaddr 2 (tD 52) (tD 53)), opD 55 (.faddr 1 (tD 54)), opD 56 (.load false 1 (tD 55)), opD 57 (.faddr 4 (tD 3)), opD 58 (.load false 1 (tD 57)), mvD 59 7, opD 60 (.iaddr 2 (tD 58) (tD 59)), opD 61 (.faddr 1 (tD 60)), opD 62 (.load false 1 (tD 61)), oqD 63 (.call 26 [(tD 56), (tD 62)]) (.ent (e26 fu)), mvD 8 63] [[], [0], [], [1, 2], [3], [4], [], [6], [], [7, 8], [9], [10], [5, 11], [12, 12, 0, 1, 2, 3, 4, 5, 6, 7, 8, 9, 10, 11, 12]] true) (.seq (.region [mvD 64 8, opD 65 (.not (tD 64)), mvD 66 65, ogD 67 66 false (.faddr 4 (tD 2)), ogD 68 66 false (.load false 1 (tD 67)), ogD 69 66 false (.mov (tD 7)), ogD 70 66 false (.iaddr 2 (tD 68) (tD 69)), ogD 71 66 false (.faddr 0 (tD 70)), ogD 72 66 false (.load false 1 (tD 71)), ogD 73 66 false (.faddr 4 (tD 3)), ogD 74 66 false (.load false 1 (tD 73)), ogD 75 66 false (.mov (tD 7)), ogD 76 66 false (.iaddr 2 (tD 74) (tD 75)), ogD 77 66 false (.faddr 0 (tD 76)), ogD 78 66 false (.load false 1 (tD 77)), ogD 79 66 false (.bin .neq (tD 72) (tD 78)), opD 80 (.pick (tD 66) (.const (.bool true)) (tD 79))] [[], [0], [1], [2], [3, 2], [2], [4, 5, 2], [6, 2], [7, 2], [2], [9, 2], [2], [10, 11, 2], [12, 2], [13, 2], [8, 14, 2], [2, 15]] true) (.cond (.tmp 80) (.seq (.region [opD 4 (.mov (.const vB))] [[]] false) .ret) .skip)))) (.region [mvD 49 7, opD 50 (.bin .add (tD 49) (cD 1)), mvD 7 50] [[], [0], [1, 0, 1]] false)))))) (.seq (.seq (.region [opD 9 (.mov (cD 0))] [[]] false) (.block 2 (.loop ⟨[9], (.cons (.hole (.int .i64)) .nil), [], .nil, [2, 3], [0, 16]⟩
 (.seq (.seq (.region [mvD 81 9, opD 82 (.faddr 5 (tD 2)), opD 83 (.load false 1 (tD 82)), opD 84 (.len false (tD 83)), opD 85 (.bin .lss (tD 81) (tD 84))] [[], [], [1], [2], [0, 3]] false) (.cond (.tmp 85) .skip (.exit 2))) (.seq (.block 3 (.seq (.region [opD 88 (.faddr 5 (tD 2)), opD 89 (.load false 1 (tD 88)), mvD 90 9, opD 91 (.iaddr 2 (tD 89) (tD 90)), opD 92 (.load true 2 (tD 91)), opD 93 (.faddr 5 (tD 3)), opD 94 (.load false 1 (tD 93)), mvD 95 9, opD 96 (.iaddr 2 (tD 94) (tD 95)), opD 97 (.load true 2 (tD 96)), opD 98 (.seq true [.int, .int] (tD 92) (tD 97))] [[], [0], [], [1, 2], [3], [], [5], [], [6, 7], [8], [4, 9]] true) (.cond (.tmp 98) (.seq (.region [opD 4 (.mov (.const vB))] [[]] false) .ret) .skip))) (.region [mvD 86 9, opD 87 (.bin .add (tD 86) (cD 1)), mvD 9 87] [[], [0], [1, 0, 1]] false)))))) (.seq (.region [opD 99 (.faddr 0 (tD 2)), opD 100 (.load false 1 (tD 99)), opD 101 (.faddr 0 (tD 3)), opD 102 (.load false 1 (tD 101)), opD 103 (.bin .eql (tD 100) (tD 102)), mvD 104 103, ogD 105 104 true (.faddr 2 (tD 2)), ogD 106 104 true (.load false 1 (tD 105)), ogD 107 104 true (.faddr 2 (tD 3)), ogD 108 104 true (.load false 1 (tD 107)), ogD 109 104 true (.bin .eql (tD 106) (tD 108)), opD 110 (.pick (tD 104) (tD 109) (.const vB)), mvD 111 110, ogD 112 111 true (.faddr 3 (tD 2)), ogD 113 111 true (.load false 1 (tD 112)), ogD 114 111 true (.faddr 3 (tD 3)), ogD 115 111 true (.load false 1 (tD 114)), ogD 116 111 true (.bin .eql (tD 113) (tD 115)), opD 117 (.pick (tD 111) (tD 116) (.const vB)), mvD 118 117, ogD 119 118 true (.faddr 6 (tD 2)), ogD 120 118 true (.load false 1 (tD 119)), ogD 121 118 true (.faddr 6 (tD 3)), ogD 122 118 true (.load false 1 (tD 121)), ogD 123 118 true (.beq false (tD 120) (tD 122)), opD 124 (.pick (tD 118) (tD 123) (.const vB)), mvD 125 124, ogD 126 125 true (.faddr 26 (tD 2)), ogD 127 125 true (.load false 1 (tD 126)), ogD 128 125 true (.faddr 26 (tD 3)), ogD 129 125 true (.load false 1 (tD 128)), ogD 130 125 true (.bin .eql (tD 127) (tD 129)), opD 131 (.pick (tD 125) (tD 130) (.const vB)), mvD 132 131, ogD 133 132 true (.faddr 27 (tD 2)), ogD 134 132 true (.load false 1 (tD 133)), ogD 135 132 true (.faddr 27 (tD 3)), ogD 136 132 true (.load false 1 (tD 135)), ogD 137 132 true (.beq false (tD 134) (tD 136)), opD 138 (.pick (tD 132) (tD 137) (.const vB)), mvD 139 138, ogD 140 139 true (.faddr 28 (tD 2)), ogD 141 139 true (.load false 1 (tD 140)), ogD 142 139 true (.faddr 28 (tD 3)), ogD 143 139 true (.load false 1 (tD 142)), ogD 144 139 true (.bin .eql (tD 141) (tD 143)), opD 145 (.pick (tD 139) (tD 144) (.const vB)), mvD 146 145, ogD 147 146 true (.faddr 29 (tD 2)), ogD 148 146 true (.load false 1 (tD 147)), ogD 149 146 true (.faddr 29 (tD 3)), ogD 150 146 true (.load false 1 (tD 149)), ogD 151 146 true (.bin .eql (tD 148) (tD 150)), opD 152 (.pick (tD 146) (tD 151) (.const vB)), mvD 153 152, ogD 154 153 true (.faddr 30 (tD 2)), ogD 155 153 true (.load false 1 (tD 154)), ogD 156 153 true (.faddr 30 (tD 3)), ogD 157 153 true (.load false 1 (tD 156)), ogD 158 153 true (.bin .eql (tD 155) (tD 157)), opD 159 (.pick (tD 153) (tD 158) (.const vB)), mvD 160 159, ogD 161 160 true (.faddr 31 (tD 2)), ogD 162 160 true (.load false 1 (tD 161)), ogD 163 160 true (.faddr 31 (tD 3)), ogD 164 160 true (.load false 1 (tD 163)), ogD 165 160 true (.beq false (tD 162) (tD 164)), opD 166 (.pick (tD 160) (tD 165) (.const vB)), mvD 167 166, ogD 168 167 true (.faddr 32 (tD 2)), ogD 169 167 true (.load false 1 (tD 168)), ogD 170 167 true (.faddr 32 (tD 3)), ogD 171 167 true (.load false 1 (tD 170)), ogD 172 167 true (.bin .eql (tD 169) (tD 171)), opD 173 (.pick (tD 167) (tD 172) (.const vB)), mvD 4 173] [[], [0], [], [2], [1, 3], [4], [5], [6, 5], [5], [8, 5], [7, 9, 5], [5, 10], [11, 5], [12], [13, 12], [12], [15, 12], [14, 16, 12], [12, 17], [18, 12], [19], [20, 19], [19], [22, 19], [21, 23, 19], [19, 24], [25, 19], [26], [27, 26], [26], [29, 26], [28, 30, 26], [26, 31], [32, 26], [33], [34, 33], [33], [36, 33], [35, 37, 33], [33, 38], [39, 33], [40], [41, 40], [40], [43, 40], [42, 44, 40], [40, 45], [46, 40], [47], [48, 47], [47], [50, 47], [49, 51, 47], [47, 52], [53, 47], [54], [55, 54], [54], [57, 54], [56, 58, 54], [54, 59], [60, 54], [61], [62, 61], [61], [64, 61], [63, 65, 61], [61, 66], [67, 61], [68], [69, 68], [68], [71, 68], [70, 72, 68], [68, 73], [74, 68, 0, 1, 2, 3, 4, 5, 6, 7, 8, 9, 10, 11, 12, 13, 14, 15, 16, 17, 18, 19, 20, 21, 22, 23, 24, 25, 26, 27, 28, 29, 30, 31, 32, 33, 34, 35, 36, 37, 38, 39, 40, 41, 42, 43, 44, 45, 46, 47, 48, 49, 50, 51, 52, 53, 54, 55, 56, 57, 58, 59, 60, 61, 62, 63, 64, 65, 66, 67, 68, 69, 70, 71, 72, 73, 74]] false) .ret)))))))
set_option maxRecDepth 1000000 in
theorem v12 (fu : Nat) : evF fu (d12 fu) rs12 174 (e12 fu).ash (e12 fu).osh (e12 fu).vsh = p12 fu := by kernel_rfl
set_option maxRecDepth 1000000 in
theorem b12 (fu : Nat) : BodyD Try.prog 12 174 (d12 fu).erase rs12 := bodyD_mk Try.func12 (by kernel_rfl) (by kernel_rfl) (by kernel_rfl) (by kernel_rfl)
theorem g12 (fu : Nat) : (e12 fu).Good Try.prog := good_by orders (b12 fu) (l := [e24 fu, e25 fu, e26 fu]) (by kernel_rfl) ⟨g24 fu, g25 fu, g26 fu, trivial⟩ (by kernel_rfl) (v12 fu)
def rs3 : List RVx := [(.tmp 6)]
/-- gazette/gazettelaw21.ClientNew -/
def p3 (fu : Nat) : (Int) × ((List (Int)) × ((Int) × (Unit))) → Option ((Unit) × (Bool)) := fun ⟨a, c, f, _⟩ =>
Option.bind (p9 fu ()) fun ⟨_, h⟩ =>
bif decide (0 = List.length ([] : List (Int))) then
 bif decide (List.length ([] : List (Int)) + List.length c ≤ maxLen ∧ (List.length ([] : List (Int)) + List.length c) * 8 ≤ 140737488355328) then
 bif decide (List.length (([] : List (Int)) ++ c) = List.length (([] : List (Int)) ++ c)) then
 bif decide (List.length (([] : List (Int)) ++ c) + List.length ([(77 : Int)]) ≤ maxLen ∧ (List.length (([] : List (Int)) ++ c) + List.length ([(77 : Int)])) * 8 ≤ 140737488355328) then
 bif decide ((0 : Int) ≤ (List.length c : Int)) then
 bif decide (0 ≤ Int.toNat (List.length c : Int) ∧ 0 + (Int.toNat (List.length c : Int)) ≤ List.length ((([] : List (Int)) ++ c) ++ [(77 : Int)])) then
 bif decide (0 + (Int.toNat (List.length c : Int)) ≤ List.length ((([] : List (Int)) ++ c) ++ [(77 : Int)])) then
 Option.bind (p10 fu (a, List.take (Int.toNat (List.length c : Int)) ((([] : List (Int)) ++ c) ++ [(77 : Int)]), f, ())) fun ⟨_, ⟨⟨i, j, k, l, m, n, o, q, s, t, u, w, x, y, z, a0, c0, f0, h0, i0, j0, k0, l0, m0, n0, o0, q0, s0, t0, u0, w0, x0, y0, _⟩, z0, _⟩⟩ =>
 Option.bind (p11 fu (a, c, f, ())) fun ⟨_, ⟨⟨a1, c1, f1, h1, i1, j1, k1, l1, m1, n1, o1, q1, s1, t1, u1, w1, x1, y1, z1, a2, c2, f2, h2, i2, j2, k2, l2, m2, n2, o2, q2, s2, t2, _⟩, u2, _⟩⟩ =>
 bif decide (List.length j = List.length j) then
 bif decide (List.length c1 = List.length c1) then
 Option.bind (p12 fu ((i, j, k, l, m, n, o, q, s, t, u, w, x, y, z, a0, c0, f0, h0, i0, j0, k0, l0, m0, n0, o0, q0, s0, t0, u0, w0, x0, y0, ()), (a1, c1, f1, h1, i1, j1, k1, l1, m1, n1, o1, q1, s1, t1, u1, w1, x1, y1, z1, a2, c2, f2, h2, i2, j2, k2, l2, m2, n2, o2, q2, s2, t2, ()), ())) fun ⟨_, w2⟩ =>
 bif decide (List.length j = List.length j) then
 loopO (S := ((Int) × (Unit)) × ((Z1) × (Unit))) fu (fun ⟨⟨x2, _⟩, ⟨⟨y2, z2, a3, c3, f3, h3, i3, j3, k3, l3, m3, n3, o3, q3, s3, t3, u3, w3, x3, y3, z3, a4, c4, f4, h4, i4, j4, k4, l4, m4, n4, o4, q4, _⟩, _⟩⟩ =>
 bif decide (x2 < ((List.length z2) : Int)) then
 bif decide ((0 : Int) ≤ x2 ∧ x2 < (List.length z2 : Int)) then
 bif decide (Int.toNat x2 < List.length z2) then
 bif decide (List.length z2 = List.length (List.set z2 (Int.toNat x2) (99 : Int))) then
 some (.inl ((IntKind.wrap .i64 (x2 + (1 : Int)), ()), ((y2, (List.set z2 (Int.toNat x2) (99 : Int)), a3, c3, f3, h3, i3, j3, k3, l3, m3, n3, o3, q3, s3, t3, u3, w3, x3, y3, z3, a4, c4, f4, h4, i4, j4, k4, l4, m4, n4, o4, q4, ()), ())))
 else none
 else none
 else none
 else
 inrO (loopO (S := ((Int) × (Unit)) × (Unit)) fu (fun ⟨⟨s4, _⟩, _⟩ =>
 bif decide (s4 < (List.length c : Int)) then
 bif decide ((0 : Int) ≤ s4 ∧ s4 < (Int.toNat (List.length c : Int) : Int)) then
 bif decide (Int.toNat s4 < List.length ((([] : List (Int)) ++ c) ++ [(77 : Int)])) then
 bif decide ((0 : Int) ≤ s4 ∧ s4 < (List.length c : Int)) then
 bif decide (Int.toNat s4 < List.length c) then
 bif ((List.getD ((([] : List (Int)) ++ c) ++ [(77 : Int)]) (Int.toNat s4) (dflt (.int .i64))) != (List.getD c (Int.toNat s4) (dflt (.int .i64)))) then
 inrO (some ((), false))
 else
 some (.inl ((IntKind.wrap .i64 (s4 + (1 : Int)), ()), ()))
 else none
 else none
 else none
 else none
 else
 inrO (bif h then
 bif w2 then
 bif (z0 == u2) then
 bif decide ((0 : Int) ≤ IntKind.wrap .i64 ((List.length c : Int) + (1 : Int))) then
 bif decide (0 ≤ Int.toNat (IntKind.wrap .i64 ((List.length c : Int) + (1 : Int))) ∧ 0 + (Int.toNat (IntKind.wrap .i64 ((List.length c : Int) + (1 : Int)))) ≤ List.length ((([] : List (Int)) ++ c) ++ [(77 : Int)])) then
 bif decide ((0 : Int) ≤ (List.length c : Int) ∧ (List.length c : Int) < (Int.toNat (IntKind.wrap .i64 ((List.length c : Int) + (1 : Int))) : Int)) then
 bif decide (Int.toNat (List.length c : Int) < List.length ((([] : List (Int)) ++ c) ++ [(77 : Int)])) then
 some ((), ((List.getD ((([] : List (Int)) ++ c) ++ [(77 : Int)]) (Int.toNat (List.length c : Int)) (dflt (.int .i64))) == (77 : Int)))
 else none
 else none
 else none
 else none
 else
 some ((), false)
 else
 some ((), false)
 else
 some ((), false)))
 (((0 : Int), ()), ())))
 (((0 : Int), ()), ((i, j, k, l, m, n, o, q, s, t, u, w, x, y, z, a0, c0, f0, h0, i0, j0, k0, l0, m0, n0, o0, q0, s0, t0, u0, w0, x0, y0, ()), ()))
 else none
 else none
 else none
 else none
 else none
 else none
 else none
 else none
 else none
else none
def e3 (fu : Nat) : Ent := ⟨3, (.cons (.hole (.int .i64)) (.cons (.hole (.sl (.int .i64))) (.cons (.hole (.int .u64)) .nil))), .nil, (.hole .bool), p3 fu⟩
def d3 (fu : Nat) : DC := (.seq (.region [opD 6 (.mov (.const vB))] [[]] false) (.seq (.region [oqD 16 (.call 9 []) (.ent (e9 fu)), mvD 7 16] [[], [0, 0, 0]] false) (.seq (.region [oqD 17 (.bslice 3 1 0 [vI] []) (.ty (.int .i64)), mvD 18 1, oqD 19 (.app 3 1 [vI] 8 (tD 17) (tD 18)) (.ty (.int .i64)), oqD 20 (.bslice 3 1 1 [vI] [(0, (cD 77))]) (.ty (.int .i64)), oqD 21 (.app 3 1 [vI] 8 (tD 19) (tD 20)) (.ty (.int .i64)), mvD 22 1, opD 23 (.len false (tD 22)), opD 24 (.slc 1 (tD 21) none (some (tD 23))), mvD 8 24] [[], [], [0, 1], [], [2, 3, 2], [], [5], [4, 6], [7, 4, 0, 1, 2, 3, 4, 5, 6, 7]] false) (.seq (.region [mvD 26 0, mvD 27 8, mvD 28 2, oqD 29 (.call 10 [(tD 26), (tD 27), (tD 28)]) (.ent (e10 fu)), mvD 25 29, opD 30 (.ext (tD 25) 0), opD 31 (.ext (tD 25) 1), opD 9 (.alloc 35 33 [vI, vS, vU, vU, vS, vS, vB, vI, vT, vT, vS, vU, vI, vT, vI, vU, vU, vT, vS, vU, vU, vT, vI, vI, vU, vI, vU, vB, vU, vI, vI, vB, vI]), onD (.store 33 (tD 9) (tD 30)), mvD 10 31] [[], [], [], [0, 1, 2], [3], [4], [4], [], [7, 5, 3, 0, 1, 2, 3, 4, 5, 7], [6, 8, 0, 1, 2, 3, 4, 5, 6, 7, 8]] false) (.seq (.region [mvD 33 0, mvD 34 1, mvD 35 2, oqD 36 (.call 11 [(tD 33), (tD 34), (tD 35)]) (.ent (e11 fu)), mvD 32 36, opD 37 (.ext (tD 32) 0), opD 38 (.ext (tD 32) 1), opD 11 (.alloc 35 33 [vI, vS, vU, vU, vS, vS, vB, vI, vT, vT, vS, vU, vI, vT, vI, vU, vU, vT, vS, vU, vU, vT, vI, vI, vU, vI, vU, vB, vU, vI, vI, vB, vI]), onD (.store 33 (tD 11) (tD 37)), mvD 12 38] [[], [], [], [0, 1, 2], [3], [4], [4], [], [7, 5, 3, 0, 1, 2, 3, 4, 5, 7], [6, 8, 0, 1, 2, 3, 4, 5, 6, 7, 8]] false) (.seq (.region [opD 39 (.load true 33 (tD 9)), opD 40 (.load true 33 (tD 11)), oqD 41 (.call 12 [(tD 39), (tD 40)]) (.ent (e12 fu)), mvD 13 41] [[], [], [0, 1], [2, 2, 0, 1, 2]] false) (.seq (.seq (.region [opD 14 (.mov (cD 0))] [[]] false) (.block 0 (.loop ⟨[14], (.cons (.hole (.int .i64)) .nil), [(304, 35, 33)], (.cons Y5 .nil), [1, 7, 8, 9, 10, 12, 13], [48]⟩
 (.seq (.seq (.region [mvD 42 14, opD 43 (.faddr 1 (tD 9)), opD 44 (.load false 1 (tD 43)), opD 45 (.len false (tD 44)), opD 46 (.bin .lss (tD 42) (tD 45))] [[], [], [1], [2], [0, 3]] false) (.cond (.tmp 46) .skip (.exit 0))) (.seq (.block 1 (.region [opD 49 (.faddr 1 (tD 9)), opD 50 (.load false 1 (tD 49)), mvD 51 14, opD 52 (.iaddr 1 (tD 50) (tD 51)), onD (.store 1 (tD 52) (cD 99))] [[], [0], [], [1, 2, 0, 1, 2], [3, 0, 1, 2]] false)) (.region [mvD 47 14, opD 48 (.bin .add (tD 47) (cD 1)), mvD 14 48] [[], [0], [1, 0, 1]] false)))))) (.seq (.seq (.region [opD 15 (.mov (cD 0))] [[]] false) (.block 2 (.loop ⟨[15], (.cons (.hole (.int .i64)) .nil), [], .nil, [1, 7, 8, 10, 12, 13], [48]⟩
 (.seq (.seq (.region [mvD 53 15, mvD 54 1, opD 55 (.len false (tD 54)), opD 56 (.bin .lss (tD 53) (tD 55))] [[], [], [1], [0, 2]] false) (.cond (.tmp 56) .skip (.exit 2))) (.seq (.block 3 (.seq (.region [mvD 59 8, mvD 60 15, opD 61 (.iaddr 1 (tD 59) (tD 60)), opD 62 (.load false 1 (tD 61)), mvD 63 1, mvD 64 15, opD 65 (.iaddr 1 (tD 63) (tD 64)), opD 66 (.load false 1 (tD 65)), opD 67 (.bin .neq (tD 62) (tD 66))] [[], [], [0, 1], [2], [], [], [4, 5], [6], [3, 7]] true) (.cond (.tmp 67) (.seq (.region [opD 6 (.mov (.const vB))] [[]] false) .ret) .skip))) (.region [mvD 57 15, opD 58 (.bin .add (tD 57) (cD 1)), mvD 15 58] [[], [0], [1, 0, 1]] false)))))) (.seq (.region [mvD 68 7, mvD 69 68, ogD 70 69 true (.mov (tD 13)), opD 71 (.pick (tD 69) (tD 70) (.const vB)), mvD 72 71, ogD 73 72 true (.mov (tD 10)), ogD 74 72 true (.mov (tD 12)), ogD 75 72 true (.bin .eql (tD 73) (tD 74)), opD 76 (.pick (tD 72) (tD 75) (.const vB)), mvD 77 76, ogD 78 77 true (.mov (tD 8)), ogD 79 77 true (.mov (tD 1)), ogD 80 77 true (.len false (tD 79)), ogD 81 77 true (.bin .add (tD 80) (cD 1)), ogD 82 77 true (.slc 1 (tD 78) none (some (tD 81))), ogD 83 77 true (.mov (tD 1)), ogD 84 77 true (.len false (tD 83)), ogD 85 77 true (.iaddr 1 (tD 82) (tD 84)), ogD 86 77 true (.load false 1 (tD 85)), ogD 87 77 true (.bin .eql (tD 86) (cD 77)), opD 88 (.pick (tD 77) (tD 87) (.const vB)), mvD 6 88] [[], [0], [1], [1, 2], [3, 1], [4], [4], [5, 6, 4], [4, 7], [8, 4], [9], [9], [11, 9], [12, 9], [10, 13, 9], [9], [15, 9], [14, 16, 9], [17, 9], [18, 9], [9, 19], [20, 9, 0, 1, 2, 3, 4, 5, 6, 7, 8, 9, 10, 11, 12, 13, 14, 15, 16, 17, 18, 19, 20]] false) .ret)))))))))
set_option maxRecDepth 1000000 in
theorem v3 (fu : Nat) : evF fu (d3 fu) rs3 89 (e3 fu).ash (e3 fu).osh (e3 fu).vsh = p3 fu := by kernel_rfl
set_option maxRecDepth 1000000 in
theorem b3 (fu : Nat) : BodyD Try.prog 3 89 (d3 fu).erase rs3 := bodyD_mk Try.func3 (by kernel_rfl) (by kernel_rfl) (by kernel_rfl) (by kernel_rfl)
theorem g3 (fu : Nat) : (e3 fu).Good Try.prog := good_by orders (b3 fu) (l := [e9 fu, e10 fu, e11 fu, e12 fu]) (by kernel_rfl) ⟨g9 fu, g10 fu, g11 fu, g12 fu, trivial⟩ (by kernel_rfl) (v3 fu)
def rs13 : List RVx := [(.cell 2 true 19)]
/-- gazette/gazetteref21.CloneCall -/
def p13 (_ : Nat) : (Z2) × (Unit) → Option ((Unit) × ((Int) × ((ByteArray) × ((ByteArray) × ((List (Int)) × ((Int) × ((Int) × ((ByteArray) × ((Int) × ((Int) × ((Int) × ((ByteArray) × ((List (Int)) × ((Int) × ((Int) × ((ByteArray) × ((Int) × ((Int) × ((Int) × ((Int) × (Unit))))))))))))))))))))) := fun ⟨⟨a, c, f, h, i, j, k, l, m, n, o, q, s, t, u, w, x, y, z, _⟩, _⟩ =>
bif decide (0 = List.length ([] : List (Int))) then
 bif decide (List.length ([] : List (Int)) + List.length h ≤ maxLen ∧ (List.length ([] : List (Int)) + List.length h) * 1 ≤ 140737488355328) then
 bif decide (0 = List.length ([] : List (Int))) then
 bif decide (List.length ([] : List (Int)) + List.length q ≤ maxLen ∧ (List.length ([] : List (Int)) + List.length q) * 8 ≤ 140737488355328) then
 bif decide (List.length (([] : List (Int)) ++ h) = List.length (([] : List (Int)) ++ h)) then
 bif decide (List.length (([] : List (Int)) ++ q) = List.length (([] : List (Int)) ++ q)) then
 some ((), (a, c, f, (([] : List (Int)) ++ h), i, j, k, l, m, n, o, (([] : List (Int)) ++ q), s, t, u, w, x, y, z, ()))
 else none
 else none
 else none
 else none
 else none
else none
def e13 (fu : Nat) : Ent := ⟨13, (.cons Y12 .nil), .nil, Y13, p13 fu⟩
def d13 (_ : Nat) : DC := (.seq (.region [opD 1 (.box 33 19 (tD 0)), opD 2 (.alloc 33 19 [vI, vT, vT, vS, vU, vI, vT, vI, vU, vU, vT, vS, vU, vU, vT, vI, vI, vU, vI])] [[], []] false) (.seq (.region [oqD 3 (.bslice 5 1 0 [(.int .u8 0)] []) (.ty (.int .u8)), opD 4 (.faddr 3 (tD 1)), opD 5 (.load false 1 (tD 4)), oqD 6 (.app 5 1 [(.int .u8 0)] 1 (tD 3) (tD 5)) (.ty (.int .u8)), opD 7 (.faddr 3 (tD 1)), onD (.store 1 (tD 7) (tD 6))] [[], [], [1], [0, 2], [0, 1, 2, 3], [4, 3, 3, 0, 1, 2, 3]] false) (.seq (.region [oqD 8 (.bslice 3 1 0 [vI] []) (.ty (.int .i64)), opD 9 (.faddr 7 (tD 1)), opD 10 (.faddr 4 (tD 9)), opD 11 (.load false 1 (tD 10)), oqD 12 (.app 3 1 [vI] 8 (tD 8) (tD 11)) (.ty (.int .i64)), opD 13 (.faddr 7 (tD 1)), opD 14 (.faddr 4 (tD 13)), onD (.store 1 (tD 14) (tD 12))] [[], [], [1], [2], [0, 3], [0, 1, 2, 3, 4], [5, 0, 1, 2, 3, 4], [6, 4, 4, 0, 1, 2, 3, 4]] false) (.seq (.region [opD 15 (.load true 19 (tD 1)), onD (.store 19 (tD 2) (tD 15))] [[], [0, 0]] false) .ret))))
set_option maxRecDepth 1000000 in
theorem v13 (fu : Nat) : evF fu (d13 fu) rs13 16 (e13 fu).ash (e13 fu).osh (e13 fu).vsh = p13 fu := by kernel_rfl
set_option maxRecDepth 1000000 in
theorem b13 (fu : Nat) : BodyD Try.prog 13 16 (d13 fu).erase rs13 := bodyD_mk Try.func13 (by kernel_rfl) (by kernel_rfl) (by kernel_rfl) (by kernel_rfl)
theorem g13 (fu : Nat) : (e13 fu).Good Try.prog := good_by orders (b13 fu) (l := []) (by kernel_rfl) trivial (by kernel_rfl) (v13 fu)
def rs35 : List RVx := [(.tmp 2)]
/-- gazette/gazetteref13.Check -/
def p35 (_ : Nat) : ((ByteArray) × ((ByteArray) × (Unit))) × (Unit) → Option ((Unit) × (Int)) := fun ⟨⟨a, c, _⟩, _⟩ =>
bif decide ((ByteArray.size a : Int) > (32 : Int)) then
 some ((), (131 : Int))
else
 bif decide ((ByteArray.size c : Int) > (32 : Int)) then
 some ((), (131 : Int))
 else
 bif !(ByteArray.toList c == ByteArray.toList (⟨#[]⟩ : ByteArray)) then
 bif (Op.bytesLess (ByteArray.toList c) (ByteArray.toList a) || ByteArray.toList c == ByteArray.toList a) then
 some ((), (132 : Int))
 else
 some ((), (0 : Int))
 else
 some ((), (0 : Int))
def e35 (fu : Nat) : Ent := ⟨35, (.cons (.agg 2 (.cons (.hole .str) (.cons (.hole .str) .nil))) .nil), .nil, (.hole (.int .i64)), p35 fu⟩
def d35 (_ : Nat) : DC := (.seq (.region [opD 1 (.box 65 2 (tD 0)), opD 2 (.mov (cD 0))] [[], []] false) (.seq (.seq (.region [opD 3 (.faddr 0 (tD 1)), opD 4 (.load false 1 (tD 3)), opD 5 (.len true (tD 4)), opD 6 (.bin .gtr (tD 5) (cD 32)), mvD 7 6, ogD 8 7 false (.faddr 1 (tD 1)), ogD 9 7 false (.load false 1 (tD 8)), ogD 10 7 false (.len true (tD 9)), ogD 11 7 false (.bin .gtr (tD 10) (cD 32)), opD 12 (.pick (tD 7) (.const (.bool true)) (tD 11))] [[], [0], [1], [2], [3], [4], [5, 4], [6, 4], [7, 4], [4, 8]] false) (.cond (.tmp 12) (.seq (.region [opD 2 (.mov (cD 131))] [[]] false) .ret) .skip)) (.seq (.seq (.region [opD 13 (.faddr 1 (tD 1)), opD 14 (.load false 1 (tD 13)), opD 15 (.bin .neq (tD 14) (.const vT)), mvD 16 15, ogD 17 16 true (.faddr 1 (tD 1)), ogD 18 16 true (.load false 1 (tD 17)), ogD 19 16 true (.faddr 0 (tD 1)), ogD 20 16 true (.load false 1 (tD 19)), ogD 21 16 true (.bin .leq (tD 18) (tD 20)), opD 22 (.pick (tD 16) (tD 21) (.const vB))] [[], [0], [1], [2], [3], [4, 3], [3], [6, 3], [5, 7, 3], [3, 8]] false) (.cond (.tmp 22) (.seq (.region [opD 2 (.mov (cD 132))] [[]] false) .ret) .skip)) (.seq (.region [opD 2 (.mov (cD 0))] [[]] false) .ret))))
set_option maxRecDepth 1000000 in
theorem v35 (fu : Nat) : evF fu (d35 fu) rs35 23 (e35 fu).ash (e35 fu).osh (e35 fu).vsh = p35 fu := by kernel_rfl
set_option maxRecDepth 1000000 in
theorem b35 (fu : Nat) : BodyD Try.prog 35 23 (d35 fu).erase rs35 := bodyD_mk Try.func35 (by kernel_rfl) (by kernel_rfl) (by kernel_rfl) (by kernel_rfl)
theorem g35 (fu : Nat) : (e35 fu).Good Try.prog := good_by orders (b35 fu) (l := []) (by kernel_rfl) trivial (by kernel_rfl) (v35 fu)
def rs19 : List RVx := [(.tmp 4)]
/-- gazette/gazetteref13.Has -/
def p19 (fu : Nat) : ((ByteArray) × ((ByteArray) × (Unit))) × ((ByteArray) × (Unit)) → Option ((Unit) × (Bool)) := fun ⟨⟨a, c, _⟩, f, _⟩ =>
Option.bind (p35 fu ((a, c, ()), ())) fun ⟨_, h⟩ =>
bif (h == (0 : Int)) then
 bif decide ((ByteArray.size f : Int) ≤ (32 : Int)) then
 bif !Op.bytesLess (ByteArray.toList f) (ByteArray.toList a) then
 bif ByteArray.toList c == ByteArray.toList (⟨#[]⟩ : ByteArray) then
 some ((), true)
 else
 some ((), Op.bytesLess (ByteArray.toList f) (ByteArray.toList c))
 else
 some ((), false)
 else
 some ((), false)
else
 some ((), false)
def e19 (fu : Nat) : Ent := ⟨19, (.cons (.agg 2 (.cons (.hole .str) (.cons (.hole .str) .nil))) (.cons (.hole .str) .nil)), .nil, (.hole .bool), p19 fu⟩
def d19 (fu : Nat) : DC := (.seq (.region [opD 2 (.box 65 2 (tD 0)), opD 4 (.mov (.const vB))] [[], []] false) (.seq (.region [opD 5 (.load true 2 (tD 2)), oqD 6 (.call 35 [(tD 5)]) (.ent (e35 fu)), opD 7 (.bin .eql (tD 6) (cD 0)), mvD 8 7, ogD 9 8 true (.mov (tD 1)), ogD 10 8 true (.len true (tD 9)), ogD 11 8 true (.bin .leq (tD 10) (cD 32)), opD 12 (.pick (tD 8) (tD 11) (.const vB)), mvD 13 12, ogD 14 13 true (.mov (tD 1)), ogD 15 13 true (.faddr 0 (tD 2)), ogD 16 13 true (.load false 1 (tD 15)), ogD 17 13 true (.bin .geq (tD 14) (tD 16)), opD 18 (.pick (tD 13) (tD 17) (.const vB)), mvD 19 18, ogD 20 19 true (.faddr 1 (tD 2)), ogD 21 19 true (.load false 1 (tD 20)), ogD 22 19 true (.bin .eql (tD 21) (.const vT)), ogD 23 19 true (.mov (tD 22)), ogD 24 23 false (.mov (tD 1)), ogD 25 23 false (.faddr 1 (tD 2)), ogD 26 23 false (.load false 1 (tD 25)), ogD 27 23 false (.bin .lss (tD 24) (tD 26)), ogD 28 19 true (.pick (tD 23) (.const (.bool true)) (tD 27)), opD 29 (.pick (tD 19) (tD 28) (.const vB)), mvD 4 29] [[], [0], [1], [2, 1], [3], [4, 3], [5, 3], [3, 6], [7, 3], [8], [8], [10, 8], [9, 11, 8], [8, 12], [13, 8], [14], [15, 14], [16, 14], [17, 14, 14], [18], [18], [20, 18], [19, 21, 18], [18, 22, 14], [14, 23], [24, 18, 0, 1, 2, 3, 4, 5, 6, 7, 8, 9, 10, 11, 12, 13, 14, 15, 16, 17, 18, 19, 20, 21, 22, 23, 24]] false) .ret))
set_option maxRecDepth 1000000 in
theorem v19 (fu : Nat) : evF fu (d19 fu) rs19 30 (e19 fu).ash (e19 fu).osh (e19 fu).vsh = p19 fu := by kernel_rfl
set_option maxRecDepth 1000000 in
theorem b19 (fu : Nat) : BodyD Try.prog 19 30 (d19 fu).erase rs19 := bodyD_mk Try.func19 (by kernel_rfl) (by kernel_rfl) (by kernel_rfl) (by kernel_rfl)
theorem g19 (fu : Nat) : (e19 fu).Good Try.prog := good_by orders (b19 fu) (l := [e35 fu]) (by kernel_rfl) ⟨g35 fu, trivial⟩ (by kernel_rfl) (v19 fu)
def rs5 : List RVx := [(.tmp 6)]
/-- gazette/gazettelaw21.ClientRule -/
def p5 (fu : Nat) : (Int) × ((List (Int)) × ((List (D_api_ClientInput)) × (Unit))) → Option ((Unit) × (Bool)) := fun ⟨a, c, f, _⟩ =>
Option.bind (p9 fu ()) fun ⟨_, h⟩ =>
Option.bind (p10 fu (a, c, (9 : Int), ())) fun ⟨_, ⟨⟨i, j, k, l, m, n, o, q, s, t, u, w, x, y, z, a0, c0, f0, h0, i0, j0, k0, l0, m0, n0, o0, q0, s0, t0, u0, w0, x0, y0, _⟩, z0, _⟩⟩ =>
bif !h then
 some ((), h)
else
 bif (z0 != (0 : Int)) then
 some ((), h)
 else
 bif decide (List.length j = List.length j) then
 loopO (S := ((Int) × ((Bool) × ((Int) × (Unit)))) × ((Z1) × ((Z2) × (Unit)))) fu (fun ⟨⟨a1, c1, f1, _⟩, ⟨⟨h1, i1, j1, k1, l1, m1, n1, o1, q1, s1, t1, u1, w1, x1, y1, z1, a2, c2, f2, h2, i2, j2, k2, l2, m2, n2, o2, q2, s2, t2, u2, w2, x2, _⟩, ⟨y2, z2, a3, c3, f3, h3, i3, j3, k3, l3, m3, n3, o3, q3, s3, t3, u3, w3, x3, _⟩, _⟩⟩ =>
 bif decide (f1 < (List.length f : Int)) then
 bif decide ((0 : Int) ≤ f1 ∧ f1 < (List.length f : Int)) then
 bif decide (Int.toNat f1 < List.length f) then
 bif decide (List.length i1 = List.length i1) then
 Option.bind (p16 fu ((h1, i1, j1, k1, l1, m1, n1, o1, q1, s1, t1, u1, w1, x1, y1, z1, a2, c2, f2, h2, i2, j2, k2, l2, m2, n2, o2, q2, s2, t2, u2, w2, x2, ()), ((List.getD f (Int.toNat f1) (dflt T_api_ClientInput)).1, (((List.getD f (Int.toNat f1) (dflt T_api_ClientInput)).2).1).1, ((((List.getD f (Int.toNat f1) (dflt T_api_ClientInput)).2).1).2).1, (((((List.getD f (Int.toNat f1) (dflt T_api_ClientInput)).2).1).2).2).1, ((((((List.getD f (Int.toNat f1) (dflt T_api_ClientInput)).2).1).2).2).2).1, (((((((List.getD f (Int.toNat f1) (dflt T_api_ClientInput)).2).1).2).2).2).2).1, ((((((((List.getD f (Int.toNat f1) (dflt T_api_ClientInput)).2).1).2).2).2).2).2).1, (((((((((List.getD f (Int.toNat f1) (dflt T_api_ClientInput)).2).1).2).2).2).2).2).2).1, ((((((((((List.getD f (Int.toNat f1) (dflt T_api_ClientInput)).2).1).2).2).2).2).2).2).2).1, (((((((((((List.getD f (Int.toNat f1) (dflt T_api_ClientInput)).2).1).2).2).2).2).2).2).2).2).1, ((((((((((((List.getD f (Int.toNat f1) (dflt T_api_ClientInput)).2).1).2).2).2).2).2).2).2).2).2).1, (((((((((((((List.getD f (Int.toNat f1) (dflt T_api_ClientInput)).2).1).2).2).2).2).2).2).2).2).2).2).1, ((((((((((((((List.getD f (Int.toNat f1) (dflt T_api_ClientInput)).2).1).2).2).2).2).2).2).2).2).2).2).2).1, (((((((((((((((List.getD f (Int.toNat f1) (dflt T_api_ClientInput)).2).1).2).2).2).2).2).2).2).2).2).2).2).2).1, ((((((((((((((((List.getD f (Int.toNat f1) (dflt T_api_ClientInput)).2).1).2).2).2).2).2).2).2).2).2).2).2).2).2).1, (((((((((((((((((List.getD f (Int.toNat f1) (dflt T_api_ClientInput)).2).1).2).2).2).2).2).2).2).2).2).2).2).2).2).2).1, ((((((((((((((((((List.getD f (Int.toNat f1) (dflt T_api_ClientInput)).2).1).2).2).2).2).2).2).2).2).2).2).2).2).2).2).2).1, (((((((((((((((((((List.getD f (Int.toNat f1) (dflt T_api_ClientInput)).2).1).2).2).2).2).2).2).2).2).2).2).2).2).2).2).2).2).1, ((((((((((((((((((((List.getD f (Int.toNat f1) (dflt T_api_ClientInput)).2).1).2).2).2).2).2).2).2).2).2).2).2).2).2).2).2).2).2).1, ((((((((((((((((((((List.getD f (Int.toNat f1) (dflt T_api_ClientInput)).2).1).2).2).2).2).2).2).2).2).2).2).2).2).2).2).2).2).2).2, (((List.getD f (Int.toNat f1) (dflt T_api_ClientInput)).2).2).1, ((((List.getD f (Int.toNat f1) (dflt T_api_ClientInput)).2).2).2).1, (((((List.getD f (Int.toNat f1) (dflt T_api_ClientInput)).2).2).2).2).1, (((((((List.getD f (Int.toNat f1) (dflt T_api_ClientInput)).2).2).2).2).2).1).1, ((((((((List.getD f (Int.toNat f1) (dflt T_api_ClientInput)).2).2).2).2).2).1).2).1, (((((((((List.getD f (Int.toNat f1) (dflt T_api_ClientInput)).2).2).2).2).2).1).2).2).1, (((((((((List.getD f (Int.toNat f1) (dflt T_api_ClientInput)).2).2).2).2).2).1).2).2).2, (((((((List.getD f (Int.toNat f1) (dflt T_api_ClientInput)).2).2).2).2).2).2).1, ((((((((List.getD f (Int.toNat f1) (dflt T_api_ClientInput)).2).2).2).2).2).2).2).1, (((((((((List.getD f (Int.toNat f1) (dflt T_api_ClientInput)).2).2).2).2).2).2).2).2).1, ((((((((((List.getD f (Int.toNat f1) (dflt T_api_ClientInput)).2).2).2).2).2).2).2).2).2).1, ((((((((((List.getD f (Int.toNat f1) (dflt T_api_ClientInput)).2).2).2).2).2).2).2).2).2).2, ()), ())) fun ⟨_, ⟨⟨y3, z3, a4, c4, f4, h4, i4, j4, k4, l4, m4, n4, o4, q4, s4, t4, u4, w4, x4, y4, z4, a5, c5, f5, h5, i5, j5, k5, l5, m5, n5, o5, q5, _⟩, ⟨s5, _, _, t5, _, _, _, u5, w5, x5, y5, z5, _, a6, _, _, c6, f6, _, _, _, _, _, _, _, _, _, _, h6, _, _, _, _, _, _, _, _, _, _, _, _, _⟩, i6, _⟩⟩ =>
 orK (E := ((Int) × ((Bool) × (Unit))) × ((Z2) × (Unit)))
 (orK (E := ((Bool) × (Unit)) × (Unit))
 (bif decide ((0 : Int) ≤ f1 ∧ f1 < (List.length f : Int)) then
 bif decide (Int.toNat f1 < List.length f) then
 bif (((List.getD f (Int.toNat f1) (dflt T_api_ClientInput)).1) == (1 : Int)) then
 some (.inl (((i6 == (0 : Int)), ()), ()))
 else
 some (.inl ((false, ()), ()))
 else none
 else none)
 fun ⟨⟨j6, _⟩, _⟩ =>
 bif j6 then
 bif n1 then
 inrO (inrO (some ((), false)))
 else
 bif decide ((0 : Int) ≤ f1 ∧ f1 < (List.length f : Int)) then
 bif decide (Int.toNat f1 < List.length f) then
 Option.bind (p13 fu (((((List.getD f (Int.toNat f1) (dflt T_api_ClientInput)).2).1).1, ((((List.getD f (Int.toNat f1) (dflt T_api_ClientInput)).2).1).2).1, (((((List.getD f (Int.toNat f1) (dflt T_api_ClientInput)).2).1).2).2).1, ((((((List.getD f (Int.toNat f1) (dflt T_api_ClientInput)).2).1).2).2).2).1, (((((((List.getD f (Int.toNat f1) (dflt T_api_ClientInput)).2).1).2).2).2).2).1, ((((((((List.getD f (Int.toNat f1) (dflt T_api_ClientInput)).2).1).2).2).2).2).2).1, (((((((((List.getD f (Int.toNat f1) (dflt T_api_ClientInput)).2).1).2).2).2).2).2).2).1, ((((((((((List.getD f (Int.toNat f1) (dflt T_api_ClientInput)).2).1).2).2).2).2).2).2).2).1, (((((((((((List.getD f (Int.toNat f1) (dflt T_api_ClientInput)).2).1).2).2).2).2).2).2).2).2).1, ((((((((((((List.getD f (Int.toNat f1) (dflt T_api_ClientInput)).2).1).2).2).2).2).2).2).2).2).2).1, (((((((((((((List.getD f (Int.toNat f1) (dflt T_api_ClientInput)).2).1).2).2).2).2).2).2).2).2).2).2).1, ((((((((((((((List.getD f (Int.toNat f1) (dflt T_api_ClientInput)).2).1).2).2).2).2).2).2).2).2).2).2).2).1, (((((((((((((((List.getD f (Int.toNat f1) (dflt T_api_ClientInput)).2).1).2).2).2).2).2).2).2).2).2).2).2).2).1, ((((((((((((((((List.getD f (Int.toNat f1) (dflt T_api_ClientInput)).2).1).2).2).2).2).2).2).2).2).2).2).2).2).2).1, (((((((((((((((((List.getD f (Int.toNat f1) (dflt T_api_ClientInput)).2).1).2).2).2).2).2).2).2).2).2).2).2).2).2).2).1, ((((((((((((((((((List.getD f (Int.toNat f1) (dflt T_api_ClientInput)).2).1).2).2).2).2).2).2).2).2).2).2).2).2).2).2).2).1, (((((((((((((((((((List.getD f (Int.toNat f1) (dflt T_api_ClientInput)).2).1).2).2).2).2).2).2).2).2).2).2).2).2).2).2).2).2).1, ((((((((((((((((((((List.getD f (Int.toNat f1) (dflt T_api_ClientInput)).2).1).2).2).2).2).2).2).2).2).2).2).2).2).2).2).2).2).2).1, ((((((((((((((((((((List.getD f (Int.toNat f1) (dflt T_api_ClientInput)).2).1).2).2).2).2).2).2).2).2).2).2).2).2).2).2).2).2).2).2, ()), ())) fun ⟨_, ⟨k6, l6, m6, n6, o6, q6, s6, t6, u6, w6, x6, y6, z6, a7, c7, f7, h7, i7, j7, _⟩⟩ =>
 orK (E := ((Bool) × (Unit)) × (Unit))
 (bif (k6 == (1 : Int)) then
 some (.inl ((true, ()), ()))
 else
 bif (k6 == (3 : Int)) then
 some (.inl ((true, ()), ()))
 else
 some (.inl (((k6 == (5 : Int)), ()), ())))
 fun ⟨⟨c1, _⟩, _⟩ =>
 bif c1 then
 bif decide (List.length n6 = List.length n6) then
 bif decide (List.length y6 = List.length y6) then
 some (.inl ((IntKind.wrap .u64 (a1 + (1 : Int)), c1, ()), ((k6, l6, m6, n6, o6, q6, s6, t6, u6, w6, x6, y6, z6, a7, c7, f7, h7, i7, j7, ()), ())))
 else none
 else none
 else
 bif decide (List.length n6 = List.length n6) then
 bif decide (List.length y6 = List.length y6) then
 some (.inl ((a1, c1, ()), ((k6, l6, m6, n6, o6, q6, s6, t6, u6, w6, x6, y6, z6, a7, c7, f7, h7, i7, j7, ()), ())))
 else none
 else none
 else none
 else none
 else
 bif decide (List.length c3 = List.length c3) then
 bif decide (List.length n3 = List.length n3) then
 some (.inl ((a1, c1, ()), ((y2, z2, a3, c3, f3, h3, i3, j3, k3, l3, m3, n3, o3, q3, s3, t3, u3, w3, x3, ()), ())))
 else none
 else none)
 fun ⟨⟨a1, c1, _⟩, ⟨⟨y2, z2, a3, c3, f3, h3, i3, j3, k3, l3, m3, n3, o3, q3, s3, t3, u3, w3, x3, _⟩, _⟩⟩ =>
 orK (E := (Unit) × (Unit))
 (bif s5 then
 bif (t5 == (1 : Int)) then
 bif !c1 then
 inrO (inrO (some ((), false)))
 else
 bif (w5 != a1) then
 inrO (inrO (some ((), false)))
 else
 bif (u5 != (9 : Int)) then
 inrO (inrO (some ((), false)))
 else
 bif !(ByteArray.toList x5 == ByteArray.toList a3) then
 inrO (inrO (some ((), false)))
 else
 bif decide (List.length y5 = List.length y5) then
 bif decide (List.length c3 = List.length c3) then
 bif !(ByteArray.toList (strOfNums y5) == ByteArray.toList (strOfNums c3)) then
 inrO (inrO (some ((), false)))
 else
 some (.inl ((), ()))
 else none
 else none
 else
 some (.inl ((), ()))
 else
 some (.inl ((), ())))
 fun ⟨_, _⟩ =>
 orK (E := (Unit) × (Unit))
 (bif s5 then
 bif (t5 == (3 : Int)) then
 bif !c1 then
 inrO (inrO (some ((), false)))
 else
 bif (w5 != a1) then
 inrO (inrO (some ((), false)))
 else
 bif (u5 != (9 : Int)) then
 inrO (inrO (some ((), false)))
 else
 bif !(ByteArray.toList a6 == ByteArray.toList i3) then
 inrO (inrO (some ((), false)))
 else
 bif (z5 != f3) then
 inrO (inrO (some ((), false)))
 else
 some (.inl ((), ()))
 else
 some (.inl ((), ()))
 else
 some (.inl ((), ())))
 fun ⟨_, _⟩ =>
 orK (E := (Unit) × (Unit))
 (bif s5 then
 bif (t5 == (5 : Int)) then
 bif !c1 then
 inrO (inrO (some ((), false)))
 else
 bif (f6 != a1) then
 inrO (inrO (some ((), false)))
 else
 bif (c6 != (9 : Int)) then
 inrO (inrO (some ((), false)))
 else
 some (.inl ((), ()))
 else
 some (.inl ((), ()))
 else
 some (.inl ((), ())))
 fun ⟨_, _⟩ =>
 orK (E := ((Bool) × (Unit)) × (Unit))
 (bif h6 then
 some (.inl ((false, ()), ()))
 else
 some (.inl ((c1, ()), ())))
 fun ⟨⟨c1, _⟩, _⟩ =>
 bif (c4 != a1) then
 inrO (some ((), false))
 else
 bif decide (List.length z3 = List.length z3) then
 bif decide (List.length f4 = List.length f4) then
 bif decide (List.length h4 = List.length h4) then
 bif decide (List.length m4 = List.length m4) then
 bif decide (List.length x4 = List.length x4) then
 bif decide (List.length c3 = List.length c3) then
 bif decide (List.length n3 = List.length n3) then
 some (.inl ((a1, c1, IntKind.wrap .i64 (f1 + (1 : Int)), ()), ((y3, z3, a4, c4, f4, h4, i4, j4, k4, l4, m4, n4, o4, q4, s4, t4, u4, w4, x4, y4, z4, a5, c5, f5, h5, i5, j5, k5, l5, m5, n5, o5, q5, ()), (y2, z2, a3, c3, f3, h3, i3, j3, k3, l3, m3, n3, o3, q3, s3, t3, u3, w3, x3, ()), ())))
 else none
 else none
 else none
 else none
 else none
 else none
 else none
 else none
 else none
 else none
 else
 inrO (some ((), true)))
 (((0 : Int), false, (0 : Int), ()), ((i, j, k, l, m, n, o, q, s, t, u, w, x, y, z, a0, c0, f0, h0, i0, j0, k0, l0, m0, n0, o0, q0, s0, t0, u0, w0, x0, y0, ()), ((0 : Int), (⟨#[]⟩ : ByteArray), (⟨#[]⟩ : ByteArray), [], (0 : Int), (0 : Int), (⟨#[]⟩ : ByteArray), (0 : Int), (0 : Int), (0 : Int), (⟨#[]⟩ : ByteArray), [], (0 : Int), (0 : Int), (⟨#[]⟩ : ByteArray), (0 : Int), (0 : Int), (0 : Int), (0 : Int), ()), ()))
 else none
def e5 (fu : Nat) : Ent := ⟨5, (.cons (.hole (.int .i64)) (.cons (.hole (.sl (.int .i64))) (.cons (.hole (.sl T_api_ClientInput)) .nil))), .nil, (.hole .bool), p5 fu⟩
def d5 (fu : Nat) : DC := (.seq (.region [opD 6 (.mov (.const vB))] [[]] false) (.seq (.region [oqD 19 (.call 9 []) (.ent (e9 fu)), mvD 7 19] [[], [0, 0, 0]] false) (.seq (.region [mvD 21 0, mvD 22 1, oqD 23 (.call 10 [(tD 21), (tD 22), (.const (.int .u64 9))]) (.ent (e10 fu)), mvD 20 23, opD 24 (.ext (tD 20) 0), opD 25 (.ext (tD 20) 1), opD 8 (.alloc 35 33 [vI, vS, vU, vU, vS, vS, vB, vI, vT, vT, vS, vU, vI, vT, vI, vU, vU, vT, vS, vU, vU, vT, vI, vI, vU, vI, vU, vB, vU, vI, vI, vB, vI]), onD (.store 33 (tD 8) (tD 24)), mvD 9 25] [[], [], [0, 1], [2], [3], [3], [], [6, 4, 2, 0, 1, 2, 3, 4, 6], [5, 7, 0, 1, 2, 3, 4, 5, 6, 7]] false) (.seq (.seq (.region [mvD 26 7, opD 27 (.not (tD 26)), mvD 28 27, ogD 29 28 false (.mov (tD 9)), ogD 30 28 false (.bin .neq (tD 29) (cD 0)), opD 31 (.pick (tD 28) (.const (.bool true)) (tD 30))] [[], [0], [1], [2], [3, 2], [2, 4]] false) (.cond (.tmp 31) (.seq (.region [mvD 32 7, mvD 6 32] [[], [0, 0]] false) .ret) .skip)) (.seq (.region [opD 10 (.mov (.const vU))] [[]] false) (.seq (.region [opD 11 (.mov (.const vB))] [[]] false) (.seq (.region [opD 12 (.alloc 33 19 [vI, vT, vT, vS, vU, vI, vT, vI, vU, vU, vT, vS, vU, vU, vT, vI, vI, vU, vI])] [[]] false) (.seq (.seq (.region [opD 13 (.mov (cD 0))] [[]] false) (.block 0 (.loop ⟨[10, 11, 13], (.cons (.hole (.int .u64)) (.cons (.hole .bool) (.cons (.hole (.int .i64)) .nil))), [(144, 35, 33), (320, 33, 19)], (.cons Y5 (.cons Y13 .nil)), [2, 8, 12], []⟩
 (.seq (.seq (.region [mvD 33 13, mvD 34 2, opD 35 (.len false (tD 34)), opD 36 (.bin .lss (tD 33) (tD 35))] [[], [], [1], [0, 2]] false) (.cond (.tmp 36) .skip (.exit 0))) (.seq (.block 1 (.seq (.region [opD 39 (.faddr 6 (tD 8)), opD 40 (.load false 1 (tD 39)), mvD 14 40] [[], [0], [1, 0, 1]] false) (.seq (.region [opD 42 (.load true 33 (tD 8)), mvD 43 2, mvD 44 13, opD 45 (.iaddr 32 (tD 43) (tD 44)), opD 46 (.load true 32 (tD 45)), oqD 47 (.call 16 [(tD 42), (tD 46)]) (.ent (e16 fu)), mvD 41 47, opD 48 (.ext (tD 41) 0), opD 49 (.ext (tD 41) 1), opD 50 (.ext (tD 41) 2), opD 15 (.alloc 35 33 [vI, vS, vU, vU, vS, vS, vB, vI, vT, vT, vS, vU, vI, vT, vI, vU, vU, vT, vS, vU, vU, vT, vI, vI, vU, vI, vU, vB, vU, vI, vI, vB, vI]), opD 16 (.alloc 60 41 [vB, vI, vU, vI, vU, vI, vU, vU, vU, vT, vS, vU, vI, vT, vU, vI, vU, vU, vT, vS, vU, vU, vT, vI, vI, vU, vI, vT, vB, vU, vI, vI, vI, vU, vB, vS, vU, vS, vU, vU, vU]), onD (.store 33 (tD 15) (tD 48)), onD (.store 41 (tD 16) (tD 49)), mvD 17 50] [[], [], [], [1, 2], [3], [0, 4], [5], [6], [6], [6], [], [], [10, 7, 5, 0, 1, 2, 3, 4, 5, 6, 7, 10, 11], [11, 8, 12, 0, 1, 2, 3, 4, 5, 6, 7, 8, 10, 11, 12], [9, 13, 0, 1, 2, 3, 4, 5, 6, 7, 8, 9, 10, 11, 12, 13]] true) (.join ⟨[10, 11], (.cons (.hole (.int .u64)) (.cons (.hole .bool) .nil)), [(320, 33, 19)], (.cons Y13 .nil), [2, 8, 12, 13, 15, 16], [144, 352, 547, 548, 549, 550, 551, 552, 553, 554, 555, 627, 643]⟩
 (.join ⟨[60], (.cons (.hole .bool) .nil), [], .nil, [2, 8, 10, 11, 12, 13, 14, 15, 16], [144, 320, 352, 353, 354, 547, 548, 549, 550, 551, 552, 553, 554, 555, 627, 643]⟩
 (.region [mvD 51 2, mvD 52 13, opD 53 (.iaddr 32 (tD 51) (tD 52)), opD 54 (.faddr 0 (tD 53)), opD 55 (.load false 1 (tD 54)), opD 56 (.bin .eql (tD 55) (cD 1)), mvD 57 56, ogD 58 57 true (.mov (tD 17)), ogD 59 57 true (.bin .eql (tD 58) (cD 0)), opD 60 (.pick (tD 57) (tD 59) (.const vB))] [[], [], [0, 1], [2], [3], [4], [5], [6], [7, 6], [6, 8]] false)
 (.cond (.tmp 60) (.seq (.seq (.region [mvD 61 14] [[]] false) (.cond (.tmp 61) (.seq (.region [opD 6 (.mov (.const vB))] [[]] false) .ret) .skip)) (.seq (.region [mvD 62 2, mvD 63 13, opD 64 (.iaddr 32 (tD 62) (tD 63)), opD 65 (.faddr 1 (tD 64)), opD 66 (.load true 19 (tD 65)), oqD 67 (.call 13 [(tD 66)]) (.ent (e13 fu)), onD (.store 19 (tD 12) (tD 67))] [[], [], [0, 1], [2], [3], [4], [5, 5, 0, 1, 2, 3, 4, 5]] false) (.join ⟨[11], (.cons (.hole .bool) .nil), [], .nil, [2, 8, 10, 12, 13, 15, 16], [144, 320, 352, 547, 548, 549, 550, 551, 552, 553, 554, 555, 627, 643, 803, 804]⟩
 (.region [opD 68 (.faddr 0 (tD 12)), opD 69 (.load false 1 (tD 68)), opD 70 (.bin .eql (tD 69) (cD 1)), mvD 71 70, ogD 72 71 false (.faddr 0 (tD 12)), ogD 73 71 false (.load false 1 (tD 72)), ogD 74 71 false (.bin .eql (tD 73) (cD 3)), opD 75 (.pick (tD 71) (.const (.bool true)) (tD 74)), mvD 76 75, ogD 77 76 false (.faddr 0 (tD 12)), ogD 78 76 false (.load false 1 (tD 77)), ogD 79 76 false (.bin .eql (tD 78) (cD 5)), opD 80 (.pick (tD 76) (.const (.bool true)) (tD 79)), mvD 11 80] [[], [0], [1], [2], [3], [4, 3], [5, 3], [3, 6], [7, 3], [8], [9, 8], [10, 8], [8, 11], [12, 8, 0, 1, 2, 3, 4, 5, 6, 7, 8, 9, 10, 11, 12]] false)
 (.seq (.region [mvD 81 11] [[]] false) (.cond (.tmp 81) (.region [mvD 82 10, opD 83 (.bin .add (tD 82) (.const (.int .u64 1))), mvD 10 83] [[], [0], [1, 0, 1]] false) .skip))))) .skip))
 (.seq (.region [opD 84 (.faddr 2 (tD 16)), opD 85 (.faddr 3 (tD 84)), opD 86 (.load true 10 (tD 85)), opD 18 (.alloc 56 10 [vI, vU, vU, vU, vT, vS, vU, vI, vT, vU]), onD (.store 10 (tD 18) (tD 86))] [[], [0], [1], [], [3, 2, 0, 1, 2, 3]] false) (.join ⟨[], .nil, [], .nil, [2, 8, 10, 11, 12, 13, 15, 16, 18], [144, 320, 352, 547, 548, 549, 550, 551, 552, 553, 554, 555, 627, 643, 707, 708, 757]⟩
 (.seq (.region [opD 87 (.faddr 0 (tD 16)), opD 88 (.load false 1 (tD 87)), mvD 89 88, ogD 90 89 true (.faddr 2 (tD 16)), ogD 91 89 true (.faddr 1 (tD 90)), ogD 92 89 true (.load false 1 (tD 91)), ogD 93 89 true (.bin .eql (tD 92) (cD 1)), opD 94 (.pick (tD 89) (tD 93) (.const vB)), mvD 95 94, ogD 96 95 true (.mov (tD 11)), ogD 97 95 true (.not (tD 96)), ogD 98 95 true (.mov (tD 97)), ogD 99 98 false (.faddr 3 (tD 18)), ogD 100 98 false (.load false 1 (tD 99)), ogD 101 98 false (.mov (tD 10)), ogD 102 98 false (.bin .neq (tD 100) (tD 101)), ogD 103 95 true (.pick (tD 98) (.const (.bool true)) (tD 102)), ogD 104 95 true (.mov (tD 103)), ogD 105 104 false (.faddr 2 (tD 18)), ogD 106 104 false (.load false 1 (tD 105)), ogD 107 104 false (.bin .neq (tD 106) (.const (.int .u64 9))), ogD 108 95 true (.pick (tD 104) (.const (.bool true)) (tD 107)), ogD 109 95 true (.mov (tD 108)), ogD 110 109 false (.faddr 4 (tD 18)), ogD 111 109 false (.load false 1 (tD 110)), ogD 112 109 false (.faddr 2 (tD 12)), ogD 113 109 false (.load false 1 (tD 112)), ogD 114 109 false (.bin .neq (tD 111) (tD 113)), ogD 115 95 true (.pick (tD 109) (.const (.bool true)) (tD 114)), ogD 116 95 true (.mov (tD 115)), ogD 117 116 false (.faddr 5 (tD 18)), ogD 118 116 false (.load false 1 (tD 117)), ogD 119 116 false (.b2s (tD 118)), ogD 120 116 false (.faddr 3 (tD 12)), ogD 121 116 false (.load false 1 (tD 120)), ogD 122 116 false (.b2s (tD 121)), ogD 123 116 false (.bin .neq (tD 119) (tD 122)), ogD 124 95 true (.pick (tD 116) (.const (.bool true)) (tD 123)), opD 125 (.pick (tD 95) (tD 124) (.const vB))] [[], [0], [1], [2], [3, 2], [4, 2], [5, 2], [2, 6], [7, 2], [8], [9, 8], [10, 8, 8], [11], [12, 11], [11], [13, 14, 11], [11, 15, 8], [16, 11, 8], [17], [18, 17], [19, 17], [17, 20, 8], [21, 17, 8], [22], [23, 22], [22], [25, 22], [24, 26, 22], [22, 27, 8], [28, 22, 8], [29], [30, 29], [31, 29], [29], [33, 29], [34, 29], [32, 35, 29], [29, 36, 8], [8, 37]] false) (.cond (.tmp 125) (.seq (.region [opD 6 (.mov (.const vB))] [[]] false) .ret) .skip))
 (.join ⟨[], .nil, [], .nil, [2, 8, 10, 11, 12, 13, 15, 16], [144, 320, 352, 547, 548, 549, 550, 551, 552, 553, 554, 555, 627, 643, 707, 708]⟩
 (.seq (.region [opD 126 (.faddr 0 (tD 16)), opD 127 (.load false 1 (tD 126)), mvD 128 127, ogD 129 128 true (.faddr 2 (tD 16)), ogD 130 128 true (.faddr 1 (tD 129)), ogD 131 128 true (.load false 1 (tD 130)), ogD 132 128 true (.bin .eql (tD 131) (cD 3)), opD 133 (.pick (tD 128) (tD 132) (.const vB)), mvD 134 133, ogD 135 134 true (.mov (tD 11)), ogD 136 134 true (.not (tD 135)), ogD 137 134 true (.mov (tD 136)), ogD 138 137 false (.faddr 3 (tD 18)), ogD 139 137 false (.load false 1 (tD 138)), ogD 140 137 false (.mov (tD 10)), ogD 141 137 false (.bin .neq (tD 139) (tD 140)), ogD 142 134 true (.pick (tD 137) (.const (.bool true)) (tD 141)), ogD 143 134 true (.mov (tD 142)), ogD 144 143 false (.faddr 2 (tD 18)), ogD 145 143 false (.load false 1 (tD 144)), ogD 146 143 false (.bin .neq (tD 145) (.const (.int .u64 9))), ogD 147 134 true (.pick (tD 143) (.const (.bool true)) (tD 146)), ogD 148 134 true (.mov (tD 147)), ogD 149 148 false (.faddr 8 (tD 18)), ogD 150 148 false (.load false 1 (tD 149)), ogD 151 148 false (.faddr 6 (tD 12)), ogD 152 148 false (.load false 1 (tD 151)), ogD 153 148 false (.bin .neq (tD 150) (tD 152)), ogD 154 134 true (.pick (tD 148) (.const (.bool true)) (tD 153)), ogD 155 134 true (.mov (tD 154)), ogD 156 155 false (.faddr 6 (tD 18)), ogD 157 155 false (.load false 1 (tD 156)), ogD 158 155 false (.faddr 4 (tD 12)), ogD 159 155 false (.load false 1 (tD 158)), ogD 160 155 false (.bin .neq (tD 157) (tD 159)), ogD 161 134 true (.pick (tD 155) (.const (.bool true)) (tD 160)), opD 162 (.pick (tD 134) (tD 161) (.const vB))] [[], [0], [1], [2], [3, 2], [4, 2], [5, 2], [2, 6], [7, 2], [8], [9, 8], [10, 8, 8], [11], [12, 11], [11], [13, 14, 11], [11, 15, 8], [16, 11, 8], [17], [18, 17], [19, 17], [17, 20, 8], [21, 17, 8], [22], [23, 22], [22], [25, 22], [24, 26, 22], [22, 27, 8], [28, 22, 8], [29], [30, 29], [29], [32, 29], [31, 33, 29], [29, 34, 8], [8, 35]] false) (.cond (.tmp 162) (.seq (.region [opD 6 (.mov (.const vB))] [[]] false) .ret) .skip))
 (.join ⟨[], .nil, [], .nil, [2, 8, 10, 11, 12, 13, 15, 16], [144, 320, 352, 547, 548, 549, 550, 551, 552, 553, 554, 555, 627, 643, 707, 708]⟩
 (.seq (.region [opD 163 (.faddr 0 (tD 16)), opD 164 (.load false 1 (tD 163)), mvD 165 164, ogD 166 165 true (.faddr 2 (tD 16)), ogD 167 165 true (.faddr 1 (tD 166)), ogD 168 165 true (.load false 1 (tD 167)), ogD 169 165 true (.bin .eql (tD 168) (cD 5)), opD 170 (.pick (tD 165) (tD 169) (.const vB)), mvD 171 170, ogD 172 171 true (.mov (tD 11)), ogD 173 171 true (.not (tD 172)), ogD 174 171 true (.mov (tD 173)), ogD 175 174 false (.faddr 2 (tD 16)), ogD 176 174 false (.faddr 13 (tD 175)), ogD 177 174 false (.faddr 2 (tD 176)), ogD 178 174 false (.load false 1 (tD 177)), ogD 179 174 false (.mov (tD 10)), ogD 180 174 false (.bin .neq (tD 178) (tD 179)), ogD 181 171 true (.pick (tD 174) (.const (.bool true)) (tD 180)), ogD 182 171 true (.mov (tD 181)), ogD 183 182 false (.faddr 2 (tD 16)), ogD 184 182 false (.faddr 13 (tD 183)), ogD 185 182 false (.faddr 1 (tD 184)), ogD 186 182 false (.load false 1 (tD 185)), ogD 187 182 false (.bin .neq (tD 186) (.const (.int .u64 9))), ogD 188 171 true (.pick (tD 182) (.const (.bool true)) (tD 187)), opD 189 (.pick (tD 171) (tD 188) (.const vB))] [[], [0], [1], [2], [3, 2], [4, 2], [5, 2], [2, 6], [7, 2], [8], [9, 8], [10, 8, 8], [11], [12, 11], [13, 11], [14, 11], [11], [15, 16, 11], [11, 17, 8], [18, 11, 8], [19], [20, 19], [21, 19], [22, 19], [23, 19], [19, 24, 8], [8, 25]] false) (.cond (.tmp 189) (.seq (.region [opD 6 (.mov (.const vB))] [[]] false) .ret) .skip))
 (.join ⟨[11], (.cons (.hole .bool) .nil), [], .nil, [2, 8, 10, 12, 13, 15], [144, 320, 352, 547, 548, 549, 550, 551, 627, 707, 708]⟩
 (.seq (.region [opD 190 (.faddr 28 (tD 16)), opD 191 (.load false 1 (tD 190))] [[], [0]] false) (.cond (.tmp 191) (.region [opD 11 (.mov (.const vB))] [[]] false) .skip))
 (.seq (.seq (.region [opD 192 (.faddr 3 (tD 15)), opD 193 (.load false 1 (tD 192)), mvD 194 10, opD 195 (.bin .neq (tD 193) (tD 194))] [[], [0], [], [1, 2]] false) (.cond (.tmp 195) (.seq (.region [opD 6 (.mov (.const vB))] [[]] false) .ret) .skip)) (.region [opD 196 (.load true 33 (tD 15)), onD (.store 33 (tD 8) (tD 196))] [[], [0, 0]] false))))))))))) (.region [mvD 37 13, opD 38 (.bin .add (tD 37) (cD 1)), mvD 13 38] [[], [0], [1, 0, 1]] false)))))) (.seq (.region [opD 6 (.mov (.const (.bool true)))] [[]] false) .ret)))))))))
set_option maxRecDepth 1000000 in
theorem v5 (fu : Nat) : evF fu (d5 fu) rs5 197 (e5 fu).ash (e5 fu).osh (e5 fu).vsh = p5 fu := by kernel_rfl
set_option maxRecDepth 1000000 in
theorem b5 (fu : Nat) : BodyD Try.prog 5 197 (d5 fu).erase rs5 := bodyD_mk Try.func5 (by kernel_rfl) (by kernel_rfl) (by kernel_rfl) (by kernel_rfl)
theorem g5 (fu : Nat) : (e5 fu).Good Try.prog := good_by orders (b5 fu) (l := [e9 fu, e10 fu, e16 fu, e13 fu]) (by kernel_rfl) ⟨g9 fu, g10 fu, g16 fu, g13 fu, trivial⟩ (by kernel_rfl) (v5 fu)
def rs6 : List RVx := [(.tmp 8)]
/-- gazette/gazettelaw21.ClientEnds -/
def p6 (fu : Nat) : (Int) × ((List (Int)) × ((Z2) × ((List (D_api_Reply)) × (Unit)))) → Option ((Unit) × (Bool)) := fun ⟨a, c, ⟨f, h, i, j, k, l, m, n, o, q, s, t, u, w, x, y, z, a0, c0, _⟩, f0, _⟩ =>
Option.bind (p9 fu ()) fun ⟨_, h0⟩ =>
Option.bind (p10 fu (a, c, (9 : Int), ())) fun ⟨_, ⟨⟨i0, j0, k0, l0, m0, n0, o0, q0, s0, t0, u0, w0, x0, y0, z0, a1, c1, f1, h1, i1, j1, k1, l1, m1, n1, o1, q1, s1, t1, u1, w1, x1, y1, _⟩, z1, _⟩⟩ =>
bif !h0 then
 some ((), h0)
else
 bif (z1 != (0 : Int)) then
 some ((), h0)
 else
 bif decide (List.length j0 = List.length j0) then
 Option.bind (p16 fu ((i0, j0, k0, l0, m0, n0, o0, q0, s0, t0, u0, w0, x0, y0, z0, a1, c1, f1, h1, i1, j1, k1, l1, m1, n1, o1, q1, s1, t1, u1, w1, x1, y1, ()), ((1 : Int), f, h, i, j, k, l, m, n, o, q, s, t, u, w, x, y, z, a0, c0, (0 : Int), (0 : Int), (0 : Int), (0 : Int), (0 : Int), false, [], (0 : Int), [], (0 : Int), (0 : Int), (0 : Int), ()), ())) fun ⟨_, ⟨⟨a2, c2, f2, h2, i2, j2, k2, l2, m2, n2, o2, q2, s2, t2, u2, w2, x2, y2, z2, a3, c3, f3, h3, i3, j3, k3, l3, m3, n3, o3, q3, s3, t3, _⟩, ⟨u3, w3, x3, y3, z3, a4, c4, f4, h4, i4, j4, k4, l4, m4, n4, o4, q4, s4, t4, u4, w4, x4, y4, z4, a5, c5, f5, h5, i5, j5, k5, l5, m5, n5, o5, q5, s5, t5, u5, w5, x5, _⟩, y5, _⟩⟩ =>
 bif (y5 != (0 : Int)) then
 some ((), (y5 == (212 : Int)))
 else
 orK (E := ((Int) × (Unit)) × (Unit))
 (bif u3 then
 some (.inl (((1 : Int), ()), ()))
 else
 some (.inl (((0 : Int), ()), ())))
 fun ⟨⟨z5, _⟩, _⟩ =>
 bif decide (List.length c2 = List.length c2) then
 bif decide (List.length i2 = List.length i2) then
 bif decide (List.length j2 = List.length j2) then
 bif decide (List.length o2 = List.length o2) then
 bif decide (List.length z2 = List.length z2) then
 bif decide (List.length j4 = List.length j4) then
 bif decide (List.length u4 = List.length u4) then
 bif decide (List.length q5 = List.length q5) then
 bif decide (List.length t5 = List.length t5) then
 loopO (S := ((Int) × ((Int) × (Unit))) × ((Z1) × ((Z3) × (Unit)))) fu (fun ⟨⟨z5, a6, _⟩, ⟨⟨c6, f6, h6, i6, j6, k6, l6, m6, n6, o6, q6, s6, t6, u6, w6, x6, y6, z6, a7, c7, f7, h7, i7, j7, k7, l7, m7, n7, o7, q7, s7, t7, u7, _⟩, ⟨w7, x7, y7, z7, a8, c8, f8, h8, i8, j8, k8, l8, m8, n8, o8, q8, s8, t8, u8, w8, x8, y8, z8, a9, c9, f9, h9, i9, j9, k9, l9, m9, n9, o9, q9, s9, t9, u9, w9, x9, y9, _⟩, _⟩⟩ =>
 bif decide (a6 < (313 : Int)) then
 orK (E := ((Int) × (Unit)) × ((Z1) × ((Z3) × (Unit))))
 (bif decide (List.length f6 = List.length f6) then
 bif decide (List.length j6 = List.length j6) then
 bif decide (List.length k6 = List.length k6) then
 bif decide (List.length q6 = List.length q6) then
 bif decide (List.length a7 = List.length a7) then
 bif decide (List.length k8 = List.length k8) then
 bif decide (List.length w8 = List.length w8) then
 bif decide (List.length s9 = List.length s9) then
 bif decide (List.length u9 = List.length u9) then
 loopO (S := ((Int) × ((Int) × (Unit))) × ((Z1) × ((Z3) × (Unit)))) fu (fun ⟨⟨z5, z9, _⟩, ⟨⟨c6, f6, h6, i6, j6, k6, l6, m6, n6, o6, q6, s6, t6, u6, w6, x6, y6, z6, a7, c7, f7, h7, i7, j7, k7, l7, m7, n7, o7, q7, s7, t7, u7, _⟩, ⟨w7, x7, y7, z7, a8, c8, f8, h8, i8, j8, k8, l8, m8, n8, o8, q8, s8, t8, u8, w8, x8, y8, z8, a9, c9, f9, h9, i9, j9, k9, l9, m9, n9, o9, q9, s9, t9, u9, w9, x9, y9, _⟩, _⟩⟩ =>
 bif decide (z9 < (List.length f0 : Int)) then
 bif decide (z9 < (5 : Int)) then
 bif !((List.length f0 : Int) == 0) then
 bif decide ((0 : Int) ≤ Int.tmod (IntKind.wrap .i64 (a6 + z9)) (List.length f0 : Int) ∧ Int.tmod (IntKind.wrap .i64 (a6 + z9)) (List.length f0 : Int) < (List.length f0 : Int)) then
 bif decide (Int.toNat (Int.tmod (IntKind.wrap .i64 (a6 + z9)) (List.length f0 : Int)) < List.length f0) then
 bif decide (List.length f6 = List.length f6) then
 bif decide (List.length j6 = List.length j6) then
 bif decide (List.length k6 = List.length k6) then
 bif decide (List.length q6 = List.length q6) then
 bif decide (List.length a7 = List.length a7) then
 Option.bind (p16 fu ((c6, f6, h6, i6, j6, k6, l6, m6, n6, o6, q6, s6, t6, u6, w6, x6, y6, z6, a7, c7, f7, h7, i7, j7, k7, l7, m7, n7, o7, q7, s7, t7, u7, ()), ((2 : Int), (0 : Int), (⟨#[]⟩ : ByteArray), (⟨#[]⟩ : ByteArray), [], (0 : Int), (0 : Int), (⟨#[]⟩ : ByteArray), (0 : Int), (0 : Int), (0 : Int), (⟨#[]⟩ : ByteArray), [], (0 : Int), (0 : Int), (⟨#[]⟩ : ByteArray), (0 : Int), (0 : Int), (0 : Int), (0 : Int), m7, ((List.getD f0 (Int.toNat (Int.tmod (IntKind.wrap .i64 (a6 + z9)) (List.length f0 : Int))) (dflt T_api_Reply)).2).1, (((List.getD f0 (Int.toNat (Int.tmod (IntKind.wrap .i64 (a6 + z9)) (List.length f0 : Int))) (dflt T_api_Reply)).2).2).1, (((((List.getD f0 (Int.toNat (Int.tmod (IntKind.wrap .i64 (a6 + z9)) (List.length f0 : Int))) (dflt T_api_Reply)).2).2).2).1).1, ((((((List.getD f0 (Int.toNat (Int.tmod (IntKind.wrap .i64 (a6 + z9)) (List.length f0 : Int))) (dflt T_api_Reply)).2).2).2).1).2).1, (((((((List.getD f0 (Int.toNat (Int.tmod (IntKind.wrap .i64 (a6 + z9)) (List.length f0 : Int))) (dflt T_api_Reply)).2).2).2).1).2).2).1, (((((((List.getD f0 (Int.toNat (Int.tmod (IntKind.wrap .i64 (a6 + z9)) (List.length f0 : Int))) (dflt T_api_Reply)).2).2).2).1).2).2).2, (((((List.getD f0 (Int.toNat (Int.tmod (IntKind.wrap .i64 (a6 + z9)) (List.length f0 : Int))) (dflt T_api_Reply)).2).2).2).2).1, ((((((List.getD f0 (Int.toNat (Int.tmod (IntKind.wrap .i64 (a6 + z9)) (List.length f0 : Int))) (dflt T_api_Reply)).2).2).2).2).2).1, (((((((List.getD f0 (Int.toNat (Int.tmod (IntKind.wrap .i64 (a6 + z9)) (List.length f0 : Int))) (dflt T_api_Reply)).2).2).2).2).2).2).1, ((((((((List.getD f0 (Int.toNat (Int.tmod (IntKind.wrap .i64 (a6 + z9)) (List.length f0 : Int))) (dflt T_api_Reply)).2).2).2).2).2).2).2).1, ((((((((List.getD f0 (Int.toNat (Int.tmod (IntKind.wrap .i64 (a6 + z9)) (List.length f0 : Int))) (dflt T_api_Reply)).2).2).2).2).2).2).2).2, ()), ())) fun ⟨_, ⟨⟨a10, c10, f10, h10, i10, j10, k10, l10, m10, n10, o10, q10, s10, t10, u10, w10, x10, y10, z10, a11, c11, f11, h11, i11, j11, k11, l11, m11, n11, o11, q11, s11, t11, _⟩, ⟨u11, w11, x11, y11, z11, a12, c12, f12, h12, i12, j12, k12, l12, m12, n12, o12, q12, s12, t12, u12, w12, x12, y12, z12, a13, c13, f13, h13, i13, j13, k13, l13, m13, n13, o13, q13, s13, t13, u13, w13, x13, _⟩, _, _⟩⟩ =>
 orK (E := ((Int) × (Unit)) × (Unit))
 (bif u11 then
 some (.inl ((IntKind.wrap .i64 (z5 + (1 : Int)), ()), ()))
 else
 some (.inl ((z5, ()), ())))
 fun ⟨⟨z5, _⟩, _⟩ =>
 bif i13 then
 bif decide (z5 ≤ (24 : Int)) then
 inrO (inrO (inrO (some ((), !k10))))
 else
 inrO (inrO (inrO (some ((), false))))
 else
 bif decide (List.length c10 = List.length c10) then
 bif decide (List.length i10 = List.length i10) then
 bif decide (List.length j10 = List.length j10) then
 bif decide (List.length o10 = List.length o10) then
 bif decide (List.length z10 = List.length z10) then
 bif decide (List.length j12 = List.length j12) then
 bif decide (List.length u12 = List.length u12) then
 bif decide (List.length q13 = List.length q13) then
 bif decide (List.length t13 = List.length t13) then
 some (.inl ((z5, IntKind.wrap .i64 (z9 + (1 : Int)), ()), ((a10, c10, f10, h10, i10, j10, k10, l10, m10, n10, o10, q10, s10, t10, u10, w10, x10, y10, z10, a11, c11, f11, h11, i11, j11, k11, l11, m11, n11, o11, q11, s11, t11, ()), (u11, w11, x11, y11, z11, a12, c12, f12, h12, i12, j12, k12, l12, m12, n12, o12, q12, s12, t12, u12, w12, x12, y12, z12, a13, c13, f13, h13, i13, j13, k13, l13, m13, n13, o13, q13, s13, t13, u13, w13, x13, ()), ())))
 else none
 else none
 else none
 else none
 else none
 else none
 else none
 else none
 else none
 else none
 else none
 else none
 else none
 else none
 else none
 else none
 else none
 else
 inrO (bif decide (List.length f6 = List.length f6) then
 bif decide (List.length j6 = List.length j6) then
 bif decide (List.length k6 = List.length k6) then
 bif decide (List.length q6 = List.length q6) then
 bif decide (List.length a7 = List.length a7) then
 bif decide (List.length k8 = List.length k8) then
 bif decide (List.length w8 = List.length w8) then
 bif decide (List.length s9 = List.length s9) then
 bif decide (List.length u9 = List.length u9) then
 some (.inl ((z5, ()), ((c6, f6, h6, i6, j6, k6, l6, m6, n6, o6, q6, s6, t6, u6, w6, x6, y6, z6, a7, c7, f7, h7, i7, j7, k7, l7, m7, n7, o7, q7, s7, t7, u7, ()), (w7, x7, y7, z7, a8, c8, f8, h8, i8, j8, k8, l8, m8, n8, o8, q8, s8, t8, u8, w8, x8, y8, z8, a9, c9, f9, h9, i9, j9, k9, l9, m9, n9, o9, q9, s9, t9, u9, w9, x9, y9, ()), ())))
 else none
 else none
 else none
 else none
 else none
 else none
 else none
 else none
 else none)
 else
 inrO (bif decide (List.length f6 = List.length f6) then
 bif decide (List.length j6 = List.length j6) then
 bif decide (List.length k6 = List.length k6) then
 bif decide (List.length q6 = List.length q6) then
 bif decide (List.length a7 = List.length a7) then
 bif decide (List.length k8 = List.length k8) then
 bif decide (List.length w8 = List.length w8) then
 bif decide (List.length s9 = List.length s9) then
 bif decide (List.length u9 = List.length u9) then
 some (.inl ((z5, ()), ((c6, f6, h6, i6, j6, k6, l6, m6, n6, o6, q6, s6, t6, u6, w6, x6, y6, z6, a7, c7, f7, h7, i7, j7, k7, l7, m7, n7, o7, q7, s7, t7, u7, ()), (w7, x7, y7, z7, a8, c8, f8, h8, i8, j8, k8, l8, m8, n8, o8, q8, s8, t8, u8, w8, x8, y8, z8, a9, c9, f9, h9, i9, j9, k9, l9, m9, n9, o9, q9, s9, t9, u9, w9, x9, y9, ()), ())))
 else none
 else none
 else none
 else none
 else none
 else none
 else none
 else none
 else none))
 ((z5, (0 : Int), ()), ((c6, f6, h6, i6, j6, k6, l6, m6, n6, o6, q6, s6, t6, u6, w6, x6, y6, z6, a7, c7, f7, h7, i7, j7, k7, l7, m7, n7, o7, q7, s7, t7, u7, ()), (w7, x7, y7, z7, a8, c8, f8, h8, i8, j8, k8, l8, m8, n8, o8, q8, s8, t8, u8, w8, x8, y8, z8, a9, c9, f9, h9, i9, j9, k9, l9, m9, n9, o9, q9, s9, t9, u9, w9, x9, y9, ()), ()))
 else none
 else none
 else none
 else none
 else none
 else none
 else none
 else none
 else none)
 fun ⟨⟨z5, _⟩, ⟨⟨c6, f6, h6, i6, j6, k6, l6, m6, n6, o6, q6, s6, t6, u6, w6, x6, y6, z6, a7, c7, f7, h7, i7, j7, k7, l7, m7, n7, o7, q7, s7, t7, u7, _⟩, ⟨_, _, _, _, _, _, _, _, _, _, _, _, _, _, _, _, _, _, _, _, _, _, _, _, _, _, _, _, _, _, _, _, _, _, _, _, _, _, _, _, _, _⟩, _⟩⟩ =>
 bif decide (List.length f6 = List.length f6) then
 bif decide (List.length j6 = List.length j6) then
 bif decide (List.length k6 = List.length k6) then
 bif decide (List.length q6 = List.length q6) then
 bif decide (List.length a7 = List.length a7) then
 Option.bind (p16 fu ((c6, f6, h6, i6, j6, k6, l6, m6, n6, o6, q6, s6, t6, u6, w6, x6, y6, z6, a7, c7, f7, h7, i7, j7, k7, l7, m7, n7, o7, q7, s7, t7, u7, ()), ((3 : Int), (0 : Int), (⟨#[]⟩ : ByteArray), (⟨#[]⟩ : ByteArray), [], (0 : Int), (0 : Int), (⟨#[]⟩ : ByteArray), (0 : Int), (0 : Int), (0 : Int), (⟨#[]⟩ : ByteArray), [], (0 : Int), (0 : Int), (⟨#[]⟩ : ByteArray), (0 : Int), (0 : Int), (0 : Int), (0 : Int), (0 : Int), (0 : Int), (0 : Int), (0 : Int), (0 : Int), false, [], (0 : Int), [], (0 : Int), (0 : Int), (0 : Int), ()), ())) fun ⟨_, ⟨⟨y13, z13, a14, c14, f14, h14, i14, j14, k14, l14, m14, n14, o14, q14, s14, t14, u14, w14, x14, y14, z14, a15, c15, f15, h15, i15, j15, k15, l15, m15, n15, o15, q15, _⟩, ⟨s15, t15, u15, w15, x15, y15, z15, a16, c16, f16, h16, i16, j16, k16, l16, m16, n16, o16, q16, s16, t16, u16, w16, x16, y16, z16, a17, c17, f17, h17, i17, j17, k17, l17, m17, n17, o17, q17, s17, t17, u17, _⟩, _, _⟩⟩ =>
 orK (E := ((Int) × (Unit)) × (Unit))
 (bif s15 then
 some (.inl ((IntKind.wrap .i64 (z5 + (1 : Int)), ()), ()))
 else
 some (.inl ((z5, ()), ())))
 fun ⟨⟨z5, _⟩, _⟩ =>
 bif f17 then
 bif decide (z5 ≤ (24 : Int)) then
 inrO (some ((), !i14))
 else
 inrO (some ((), false))
 else
 bif decide (List.length z13 = List.length z13) then
 bif decide (List.length f14 = List.length f14) then
 bif decide (List.length h14 = List.length h14) then
 bif decide (List.length m14 = List.length m14) then
 bif decide (List.length x14 = List.length x14) then
 bif decide (List.length h16 = List.length h16) then
 bif decide (List.length s16 = List.length s16) then
 bif decide (List.length n17 = List.length n17) then
 bif decide (List.length q17 = List.length q17) then
 some (.inl ((z5, IntKind.wrap .i64 (a6 + (1 : Int)), ()), ((y13, z13, a14, c14, f14, h14, i14, j14, k14, l14, m14, n14, o14, q14, s14, t14, u14, w14, x14, y14, z14, a15, c15, f15, h15, i15, j15, k15, l15, m15, n15, o15, q15, ()), (s15, t15, u15, w15, x15, y15, z15, a16, c16, f16, h16, i16, j16, k16, l16, m16, n16, o16, q16, s16, t16, u16, w16, x16, y16, z16, a17, c17, f17, h17, i17, j17, k17, l17, m17, n17, o17, q17, s17, t17, u17, ()), ())))
 else none
 else none
 else none
 else none
 else none
 else none
 else none
 else none
 else none
 else none
 else none
 else none
 else none
 else none
 else
 inrO (some ((), false)))
 ((z5, (0 : Int), ()), ((a2, c2, f2, h2, i2, j2, k2, l2, m2, n2, o2, q2, s2, t2, u2, w2, x2, y2, z2, a3, c3, f3, h3, i3, j3, k3, l3, m3, n3, o3, q3, s3, t3, ()), (u3, w3, x3, y3, z3, a4, c4, f4, h4, i4, j4, k4, l4, m4, n4, o4, q4, s4, t4, u4, w4, x4, y4, z4, a5, c5, f5, h5, i5, j5, k5, l5, m5, n5, o5, q5, s5, t5, u5, w5, x5, ()), ()))
 else none
 else none
 else none
 else none
 else none
 else none
 else none
 else none
 else none
 else none
def e6 (fu : Nat) : Ent := ⟨6, (.cons (.hole (.int .i64)) (.cons (.hole (.sl (.int .i64))) (.cons Y12 (.cons (.hole (.sl T_api_Reply)) .nil)))), .nil, (.hole .bool), p6 fu⟩
def d6 (fu : Nat) : DC := (.seq (.region [opD 6 (.box 33 19 (tD 2)), opD 8 (.mov (.const vB))] [[], []] false) (.seq (.region [oqD 18 (.call 9 []) (.ent (e9 fu)), mvD 9 18] [[], [0, 0, 0]] false) (.seq (.region [mvD 20 0, mvD 21 1, oqD 22 (.call 10 [(tD 20), (tD 21), (.const (.int .u64 9))]) (.ent (e10 fu)), mvD 19 22, opD 23 (.ext (tD 19) 0), opD 24 (.ext (tD 19) 1), opD 10 (.alloc 35 33 [vI, vS, vU, vU, vS, vS, vB, vI, vT, vT, vS, vU, vI, vT, vI, vU, vU, vT, vS, vU, vU, vT, vI, vI, vU, vI, vU, vB, vU, vI, vI, vB, vI]), onD (.store 33 (tD 10) (tD 23)), mvD 11 24] [[], [], [0, 1], [2], [3], [3], [], [6, 4, 2, 0, 1, 2, 3, 4, 6], [5, 7, 0, 1, 2, 3, 4, 5, 6, 7]] false) (.seq (.seq (.region [mvD 25 9, opD 26 (.not (tD 25)), mvD 27 26, ogD 28 27 false (.mov (tD 11)), ogD 29 27 false (.bin .neq (tD 28) (cD 0)), opD 30 (.pick (tD 27) (.const (.bool true)) (tD 29))] [[], [0], [1], [2], [3, 2], [2, 4]] false) (.cond (.tmp 30) (.seq (.region [mvD 31 9, mvD 8 31] [[], [0, 0]] false) .ret) .skip)) (.seq (.region [opD 33 (.load true 33 (tD 10)), opD 34 (.load true 19 (tD 6)), opD 35 (.build 32 [vI, vI, vT, vT, vS, vU, vI, vT, vI, vU, vU, vT, vS, vU, vU, vT, vI, vI, vU, vI, vU, vI, vI, vI, vU, vB, vS, vU, vS, vU, vU, vU] [(0, (1, (cD 1))), (1, (19, (tD 34)))]), oqD 36 (.call 16 [(tD 33), (tD 35)]) (.ent (e16 fu)), mvD 32 36, opD 37 (.ext (tD 32) 0), opD 38 (.ext (tD 32) 1), opD 39 (.ext (tD 32) 2), opD 12 (.alloc 60 41 [vB, vI, vU, vI, vU, vI, vU, vU, vU, vT, vS, vU, vI, vT, vU, vI, vU, vU, vT, vS, vU, vU, vT, vI, vI, vU, vI, vT, vB, vU, vI, vI, vI, vU, vB, vS, vU, vS, vU, vU, vU]), onD (.store 33 (tD 10) (tD 37)), onD (.store 41 (tD 12) (tD 38)), mvD 13 39] [[], [], [1], [0, 2], [3], [4], [4], [4], [], [5, 3, 0, 1, 2, 3, 4, 5, 8], [8, 6, 9, 0, 1, 2, 3, 4, 5, 6, 8, 9], [7, 10, 0, 1, 2, 3, 4, 5, 6, 7, 8, 9, 10]] false) (.seq (.seq (.region [mvD 40 13, opD 41 (.bin .neq (tD 40) (cD 0))] [[], [0]] false) (.cond (.tmp 41) (.seq (.region [mvD 42 13, opD 43 (.bin .eql (tD 42) (cD 212)), mvD 8 43] [[], [0], [1, 0, 1]] false) .ret) .skip)) (.seq (.region [opD 14 (.mov (cD 0))] [[]] false) (.join ⟨[14], (.cons (.hole (.int .i64)) .nil), [], .nil, [3, 10, 12], [160, 352, 353, 354, 355, 356, 357, 358, 359, 360, 432]⟩
 (.seq (.region [opD 44 (.faddr 0 (tD 12)), opD 45 (.load false 1 (tD 44))] [[], [0]] false) (.cond (.tmp 45) (.region [mvD 46 14, opD 47 (.bin .add (tD 46) (cD 1)), mvD 14 47] [[], [0], [1, 0, 1]] false) .skip))
 (.seq (.seq (.region [opD 15 (.mov (cD 0))] [[]] false) (.block 0 (.loop ⟨[14, 15], (.cons (.hole (.int .i64)) (.cons (.hole (.int .i64)) .nil)), [(160, 35, 33), (432, 60, 41)], (.cons Y15 (.cons Y30 .nil)), [3, 10, 12], []⟩
 (.seq (.seq (.region [mvD 48 15, opD 49 (.bin .lss (tD 48) (cD 313))] [[], [0]] false) (.cond (.tmp 49) .skip (.exit 0))) (.seq (.block 1 (.join ⟨[14], (.cons (.hole (.int .i64)) .nil), [(160, 35, 33), (432, 60, 41)], (.cons Y15 (.cons Y30 .nil)), [3, 10, 12, 15], []⟩
 (.seq (.region [opD 16 (.mov (cD 0))] [[]] false) (.block 2 (.loop ⟨[14, 16], (.cons (.hole (.int .i64)) (.cons (.hole (.int .i64)) .nil)), [(160, 35, 33), (432, 60, 41)], (.cons Y15 (.cons Y30 .nil)), [3, 10, 12, 15], []⟩
 (.seq (.seq (.region [mvD 52 16, mvD 53 3, opD 54 (.len false (tD 53)), opD 55 (.bin .lss (tD 52) (tD 54)), mvD 56 55, ogD 57 56 true (.mov (tD 16)), ogD 58 56 true (.bin .lss (tD 57) (cD 5)), opD 59 (.pick (tD 56) (tD 58) (.const vB))] [[], [], [1], [0, 2], [3], [4], [5, 4], [4, 6]] false) (.cond (.tmp 59) .skip (.exit 2))) (.seq (.block 3 (.seq (.region [mvD 62 3, mvD 63 15, mvD 64 16, opD 65 (.bin .add (tD 63) (tD 64)), mvD 66 3, opD 67 (.len false (tD 66)), opD 68 (.bin .rem (tD 65) (tD 67)), opD 69 (.iaddr 12 (tD 62) (tD 68)), opD 70 (.load true 12 (tD 69)), opD 17 (.alloc 48 12 [vU, vI, vI, vI, vU, vB, vS, vU, vS, vU, vU, vU]), onD (.store 12 (tD 17) (tD 70))] [[], [], [], [1, 2], [], [4], [3, 5], [0, 6], [7], [], [9, 8, 0, 1, 2, 3, 4, 5, 6, 7, 8, 9]] false) (.seq (.region [opD 71 (.faddr 26 (tD 10)), opD 72 (.load false 1 (tD 71)), opD 73 (.faddr 0 (tD 17)), onD (.store 1 (tD 73) (tD 72))] [[], [0], [0, 1], [2, 1, 0, 1]] false) (.seq (.region [opD 75 (.load true 33 (tD 10)), opD 76 (.load true 12 (tD 17)), opD 77 (.build 32 [vI, vI, vT, vT, vS, vU, vI, vT, vI, vU, vU, vT, vS, vU, vU, vT, vI, vI, vU, vI, vU, vI, vI, vI, vU, vB, vS, vU, vS, vU, vU, vU] [(0, (1, (cD 2))), (20, (12, (tD 76)))]), oqD 78 (.call 16 [(tD 75), (tD 77)]) (.ent (e16 fu)), mvD 74 78, opD 79 (.ext (tD 74) 0), opD 80 (.ext (tD 74) 1), opD 81 (.ext (tD 74) 2), onD (.store 33 (tD 10) (tD 79)), onD (.store 41 (tD 12) (tD 80))] [[], [], [1], [0, 2], [3], [4], [4], [4], [5, 3, 0, 1, 2, 3, 4, 5], [6, 8, 0, 1, 2, 3, 4, 5, 6, 8]] false) (.join ⟨[14], (.cons (.hole (.int .i64)) .nil), [], .nil, [3, 10, 12, 15, 16, 57, 58], [160, 432, 1042, 1043, 1044, 1045, 1046, 1047, 1048, 1049, 1050]⟩
 (.seq (.region [opD 82 (.faddr 0 (tD 12)), opD 83 (.load false 1 (tD 82))] [[], [0]] false) (.cond (.tmp 83) (.region [mvD 84 14, opD 85 (.bin .add (tD 84) (cD 1)), mvD 14 85] [[], [0], [1, 0, 1]] false) .skip))
 (.seq (.region [opD 86 (.faddr 28 (tD 12)), opD 87 (.load false 1 (tD 86))] [[], [0]] false) (.cond (.tmp 87) (.seq (.region [mvD 88 14, opD 89 (.bin .leq (tD 88) (cD 24)), mvD 90 89, ogD 91 90 true (.faddr 6 (tD 10)), ogD 92 90 true (.load false 1 (tD 91)), ogD 93 90 true (.not (tD 92)), opD 94 (.pick (tD 90) (tD 93) (.const vB)), mvD 8 94] [[], [0], [1], [2], [3, 2], [4, 2], [2, 5], [6, 2, 0, 1, 2, 3, 4, 5, 6]] false) .ret) .skip))))))) (.region [mvD 60 16, opD 61 (.bin .add (tD 60) (cD 1)), mvD 16 61] [[], [0], [1, 0, 1]] false))))))
 (.seq (.region [opD 96 (.load true 33 (tD 10)), opD 97 (.build 32 [vI, vI, vT, vT, vS, vU, vI, vT, vI, vU, vU, vT, vS, vU, vU, vT, vI, vI, vU, vI, vU, vI, vI, vI, vU, vB, vS, vU, vS, vU, vU, vU] [(0, (1, (cD 3)))]), oqD 98 (.call 16 [(tD 96), (tD 97)]) (.ent (e16 fu)), mvD 95 98, opD 99 (.ext (tD 95) 0), opD 100 (.ext (tD 95) 1), opD 101 (.ext (tD 95) 2), onD (.store 33 (tD 10) (tD 99)), onD (.store 41 (tD 12) (tD 100))] [[], [], [0, 1], [2], [3], [3], [3], [4, 2, 0, 1, 2, 3, 4], [5, 7, 0, 1, 2, 3, 4, 5, 7]] false) (.join ⟨[14], (.cons (.hole (.int .i64)) .nil), [], .nil, [3, 10, 12, 15], [160, 432, 642, 643, 644, 645, 646, 647, 648, 649, 650]⟩
 (.seq (.region [opD 102 (.faddr 0 (tD 12)), opD 103 (.load false 1 (tD 102))] [[], [0]] false) (.cond (.tmp 103) (.region [mvD 104 14, opD 105 (.bin .add (tD 104) (cD 1)), mvD 14 105] [[], [0], [1, 0, 1]] false) .skip))
 (.seq (.region [opD 106 (.faddr 28 (tD 12)), opD 107 (.load false 1 (tD 106))] [[], [0]] false) (.cond (.tmp 107) (.seq (.region [mvD 108 14, opD 109 (.bin .leq (tD 108) (cD 24)), mvD 110 109, ogD 111 110 true (.faddr 6 (tD 10)), ogD 112 110 true (.load false 1 (tD 111)), ogD 113 110 true (.not (tD 112)), opD 114 (.pick (tD 110) (tD 113) (.const vB)), mvD 8 114] [[], [0], [1], [2], [3, 2], [4, 2], [2, 5], [6, 2, 0, 1, 2, 3, 4, 5, 6]] false) .ret) .skip)))))) (.region [mvD 50 15, opD 51 (.bin .add (tD 50) (cD 1)), mvD 15 51] [[], [0], [1, 0, 1]] false)))))) (.seq (.region [opD 8 (.mov (.const vB))] [[]] false) .ret))))))))))
set_option maxRecDepth 1000000 in
theorem v6 (fu : Nat) : evF fu (d6 fu) rs6 115 (e6 fu).ash (e6 fu).osh (e6 fu).vsh = p6 fu := by kernel_rfl
set_option maxRecDepth 1000000 in
theorem b6 (fu : Nat) : BodyD Try.prog 6 115 (d6 fu).erase rs6 := bodyD_mk Try.func6 (by kernel_rfl) (by kernel_rfl) (by kernel_rfl) (by kernel_rfl)
theorem g6 (fu : Nat) : (e6 fu).Good Try.prog := good_by orders (b6 fu) (l := [e9 fu, e10 fu, e16 fu, e16 fu, e16 fu]) (by kernel_rfl) ⟨g9 fu, g10 fu, g16 fu, g16 fu, g16 fu, trivial⟩ (by kernel_rfl) (v6 fu)
def rs77 : List RVx := [(.tmp 4)]
/-- gazette/gazetteref20.SameRecords -/
def p77 (fu : Nat) : (List (D_api_Record)) × ((List (D_api_Record)) × (Unit)) → Option ((Unit) × (Bool)) := fun ⟨a, c, _⟩ =>
bif ((List.length a : Int) != (List.length c : Int)) then
 some ((), false)
else
 loopO (S := ((Int) × (Unit)) × (Unit)) fu (fun ⟨⟨f, _⟩, _⟩ =>
 bif decide (f < (List.length a : Int)) then
 bif decide ((0 : Int) ≤ f ∧ f < (List.length a : Int)) then
 bif decide (Int.toNat f < List.length a) then
 bif decide ((0 : Int) ≤ f ∧ f < (List.length c : Int)) then
 bif decide (Int.toNat f < List.length c) then
 bif (((List.getD a (Int.toNat f) (dflt T_api_Record)).1) != ((List.getD c (Int.toNat f) (dflt T_api_Record)).1)) then
 inrO (some ((), false))
 else
 bif decide ((0 : Int) ≤ f ∧ f < (List.length a : Int)) then
 bif decide (Int.toNat f < List.length a) then
 bif decide ((0 : Int) ≤ f ∧ f < (List.length c : Int)) then
 bif decide (Int.toNat f < List.length c) then
 bif !(ByteArray.toList (((List.getD a (Int.toNat f) (dflt T_api_Record)).2).1) == ByteArray.toList (((List.getD c (Int.toNat f) (dflt T_api_Record)).2).1)) then
 inrO (some ((), false))
 else
 bif decide ((0 : Int) ≤ f ∧ f < (List.length a : Int)) then
 bif decide (Int.toNat f < List.length a) then
 bif decide ((0 : Int) ≤ f ∧ f < (List.length c : Int)) then
 bif decide (Int.toNat f < List.length c) then
 bif !(ByteArray.toList (strOfNums ((((List.getD a (Int.toNat f) (dflt T_api_Record)).2).2).1)) == ByteArray.toList (strOfNums ((((List.getD c (Int.toNat f) (dflt T_api_Record)).2).2).1))) then
 inrO (some ((), false))
 else
 bif decide ((0 : Int) ≤ f ∧ f < (List.length a : Int)) then
 bif decide (Int.toNat f < List.length a) then
 bif decide ((0 : Int) ≤ f ∧ f < (List.length c : Int)) then
 bif decide (Int.toNat f < List.length c) then
 bif ((((((List.getD a (Int.toNat f) (dflt T_api_Record)).2).2).2).1) != (((((List.getD c (Int.toNat f) (dflt T_api_Record)).2).2).2).1)) then
 inrO (some ((), false))
 else
 bif decide ((0 : Int) ≤ f ∧ f < (List.length a : Int)) then
 bif decide (Int.toNat f < List.length a) then
 bif decide ((0 : Int) ≤ f ∧ f < (List.length c : Int)) then
 bif decide (Int.toNat f < List.length c) then
 bif ((((((List.getD a (Int.toNat f) (dflt T_api_Record)).2).2).2).2) != (((((List.getD c (Int.toNat f) (dflt T_api_Record)).2).2).2).2)) then
 inrO (some ((), false))
 else
 some (.inl ((IntKind.wrap .i64 (f + (1 : Int)), ()), ()))
 else none
 else none
 else none
 else none
 else none
 else none
 else none
 else none
 else none
 else none
 else none
 else none
 else none
 else none
 else none
 else none
 else none
 else none
 else none
 else none
 else
 inrO (some ((), true)))
 (((0 : Int), ()), ())
def e77 (fu : Nat) : Ent := ⟨77, (.cons (.hole (.sl T_api_Record)) (.cons (.hole (.sl T_api_Record)) .nil)), .nil, (.hole .bool), p77 fu⟩
def d77 (_ : Nat) : DC := (.seq (.region [opD 4 (.mov (.const vB))] [[]] false) (.seq (.seq (.region [mvD 6 0, opD 7 (.len false (tD 6)), mvD 8 1, opD 9 (.len false (tD 8)), opD 10 (.bin .neq (tD 7) (tD 9))] [[], [0], [], [2], [1, 3]] false) (.cond (.tmp 10) (.seq (.region [opD 4 (.mov (.const vB))] [[]] false) .ret) .skip)) (.seq (.seq (.region [opD 5 (.mov (cD 0))] [[]] false) (.block 0 (.loop ⟨[5], (.cons (.hole (.int .i64)) .nil), [], .nil, [0, 1], []⟩
 (.seq (.seq (.region [mvD 11 5, mvD 12 0, opD 13 (.len false (tD 12)), opD 14 (.bin .lss (tD 11) (tD 13))] [[], [], [1], [0, 2]] false) (.cond (.tmp 14) .skip (.exit 0))) (.seq (.block 1 (.seq (.region [mvD 17 0, mvD 18 5, opD 19 (.iaddr 5 (tD 17) (tD 18)), opD 20 (.faddr 0 (tD 19)), opD 21 (.load false 1 (tD 20)), mvD 22 1, mvD 23 5, opD 24 (.iaddr 5 (tD 22) (tD 23)), opD 25 (.faddr 0 (tD 24)), opD 26 (.load false 1 (tD 25)), opD 27 (.bin .neq (tD 21) (tD 26)), mvD 28 27, ogD 29 28 false (.mov (tD 0)), ogD 30 28 false (.mov (tD 5)), ogD 31 28 false (.iaddr 5 (tD 29) (tD 30)), ogD 32 28 false (.faddr 1 (tD 31)), ogD 33 28 false (.load false 1 (tD 32)), ogD 34 28 false (.mov (tD 1)), ogD 35 28 false (.mov (tD 5)), ogD 36 28 false (.iaddr 5 (tD 34) (tD 35)), ogD 37 28 false (.faddr 1 (tD 36)), ogD 38 28 false (.load false 1 (tD 37)), ogD 39 28 false (.bin .neq (tD 33) (tD 38)), opD 40 (.pick (tD 28) (.const (.bool true)) (tD 39)), mvD 41 40, ogD 42 41 false (.mov (tD 0)), ogD 43 41 false (.mov (tD 5)), ogD 44 41 false (.iaddr 5 (tD 42) (tD 43)), ogD 45 41 false (.faddr 2 (tD 44)), ogD 46 41 false (.load false 1 (tD 45)), ogD 47 41 false (.b2s (tD 46)), ogD 48 41 false (.mov (tD 1)), ogD 49 41 false (.mov (tD 5)), ogD 50 41 false (.iaddr 5 (tD 48) (tD 49)), ogD 51 41 false (.faddr 2 (tD 50)), ogD 52 41 false (.load false 1 (tD 51)), ogD 53 41 false (.b2s (tD 52)), ogD 54 41 false (.bin .neq (tD 47) (tD 53)), opD 55 (.pick (tD 41) (.const (.bool true)) (tD 54)), mvD 56 55, ogD 57 56 false (.mov (tD 0)), ogD 58 56 false (.mov (tD 5)), ogD 59 56 false (.iaddr 5 (tD 57) (tD 58)), ogD 60 56 false (.faddr 3 (tD 59)), ogD 61 56 false (.load false 1 (tD 60)), ogD 62 56 false (.mov (tD 1)), ogD 63 56 false (.mov (tD 5)), ogD 64 56 false (.iaddr 5 (tD 62) (tD 63)), ogD 65 56 false (.faddr 3 (tD 64)), ogD 66 56 false (.load false 1 (tD 65)), ogD 67 56 false (.bin .neq (tD 61) (tD 66)), opD 68 (.pick (tD 56) (.const (.bool true)) (tD 67)), mvD 69 68, ogD 70 69 false (.mov (tD 0)), ogD 71 69 false (.mov (tD 5)), ogD 72 69 false (.iaddr 5 (tD 70) (tD 71)), ogD 73 69 false (.faddr 4 (tD 72)), ogD 74 69 false (.load false 1 (tD 73)), ogD 75 69 false (.mov (tD 1)), ogD 76 69 false (.mov (tD 5)), ogD 77 69 false (.iaddr 5 (tD 75) (tD 76)), ogD 78 69 false (.faddr 4 (tD 77)), ogD 79 69 false (.load false 1 (tD 78)), ogD 80 69 false (.bin .neq (tD 74) (tD 79)), opD 81 (.pick (tD 69) (.const (.bool true)) (tD 80))] [[], [], [0, 1], [2], [3], [], [], [5, 6], [7], [8], [4, 9], [10], [11], [11], [12, 13, 11], [14, 11], [15, 11], [11], [11], [17, 18, 11], [19, 11], [20, 11], [16, 21, 11], [11, 22], [23, 11], [24], [24], [25, 26, 24], [27, 24], [28, 24], [29, 24], [24], [24], [31, 32, 24], [33, 24], [34, 24], [35, 24], [30, 36, 24], [24, 37], [38, 24], [39], [39], [40, 41, 39], [42, 39], [43, 39], [39], [39], [45, 46, 39], [47, 39], [48, 39], [44, 49, 39], [39, 50], [51, 39], [52], [52], [53, 54, 52], [55, 52], [56, 52], [52], [52], [58, 59, 52], [60, 52], [61, 52], [57, 62, 52], [52, 63]] true) (.cond (.tmp 81) (.seq (.region [opD 4 (.mov (.const vB))] [[]] false) .ret) .skip))) (.region [mvD 15 5, opD 16 (.bin .add (tD 15) (cD 1)), mvD 5 16] [[], [0], [1, 0, 1]] false)))))) (.seq (.region [opD 4 (.mov (.const (.bool true)))] [[]] false) .ret))))
set_option maxRecDepth 1000000 in
theorem v77 (fu : Nat) : evF fu (d77 fu) rs77 82 (e77 fu).ash (e77 fu).osh (e77 fu).vsh = p77 fu := by kernel_rfl
set_option maxRecDepth 1000000 in
theorem b77 (fu : Nat) : BodyD Try.prog 77 82 (d77 fu).erase rs77 := bodyD_mk Try.func77 (by kernel_rfl) (by kernel_rfl) (by kernel_rfl) (by kernel_rfl)
theorem g77 (fu : Nat) : (e77 fu).Good Try.prog := good_by orders (b77 fu) (l := []) (by kernel_rfl) trivial (by kernel_rfl) (v77 fu)
def rs57 : List RVx := [(.tmp 4)]
/-- gazette/gazetteref20.SameResult -/
def p57 (fu : Nat) : ((Int) × ((Int) × ((Bool) × ((List (D_api_Record)) × (Unit))))) × (((Int) × ((Int) × ((Bool) × ((List (D_api_Record)) × (Unit))))) × (Unit)) → Option ((Unit) × (Bool)) := fun ⟨⟨a, c, f, h, _⟩, ⟨i, j, k, l, _⟩, _⟩ =>
Option.bind (p77 fu (h, l, ())) fun ⟨_, m⟩ =>
bif m then
 bif (a == i) then
 bif (c == j) then
 some ((), f == k)
 else
 some ((), false)
 else
 some ((), false)
else
 some ((), false)
def e57 (fu : Nat) : Ent := ⟨57, (.cons Y31 (.cons Y31 .nil)), .nil, (.hole .bool), p57 fu⟩
def d57 (fu : Nat) : DC := (.seq (.region [opD 2 (.box 45 4 (tD 0)), opD 3 (.box 45 4 (tD 1)), opD 4 (.mov (.const vB))] [[], [], []] false) (.seq (.region [opD 6 (.faddr 3 (tD 2)), opD 7 (.load false 1 (tD 6)), opD 8 (.faddr 3 (tD 3)), opD 9 (.load false 1 (tD 8)), oqD 10 (.call 77 [(tD 7), (tD 9)]) (.ent (e77 fu)), mvD 5 10] [[], [0], [], [2], [1, 3], [4, 4, 0, 1, 2, 3, 4]] false) (.seq (.region [mvD 11 5, mvD 12 11, ogD 13 12 true (.faddr 0 (tD 2)), ogD 14 12 true (.load false 1 (tD 13)), ogD 15 12 true (.faddr 0 (tD 3)), ogD 16 12 true (.load false 1 (tD 15)), ogD 17 12 true (.bin .eql (tD 14) (tD 16)), opD 18 (.pick (tD 12) (tD 17) (.const vB)), mvD 19 18, ogD 20 19 true (.faddr 1 (tD 2)), ogD 21 19 true (.load false 1 (tD 20)), ogD 22 19 true (.faddr 1 (tD 3)), ogD 23 19 true (.load false 1 (tD 22)), ogD 24 19 true (.bin .eql (tD 21) (tD 23)), opD 25 (.pick (tD 19) (tD 24) (.const vB)), mvD 26 25, ogD 27 26 true (.faddr 2 (tD 2)), ogD 28 26 true (.load false 1 (tD 27)), ogD 29 26 true (.faddr 2 (tD 3)), ogD 30 26 true (.load false 1 (tD 29)), ogD 31 26 true (.beq false (tD 28) (tD 30)), opD 32 (.pick (tD 26) (tD 31) (.const vB)), mvD 4 32] [[], [0], [1], [2, 1], [1], [4, 1], [3, 5, 1], [1, 6], [7, 1], [8], [9, 8], [8], [11, 8], [10, 12, 8], [8, 13], [14, 8], [15], [16, 15], [15], [18, 15], [17, 19, 15], [15, 20], [21, 15, 0, 1, 2, 3, 4, 5, 6, 7, 8, 9, 10, 11, 12, 13, 14, 15, 16, 17, 18, 19, 20, 21]] false) .ret)))
set_option maxRecDepth 1000000 in
theorem v57 (fu : Nat) : evF fu (d57 fu) rs57 33 (e57 fu).ash (e57 fu).osh (e57 fu).vsh = p57 fu := by kernel_rfl
set_option maxRecDepth 1000000 in
theorem b57 (fu : Nat) : BodyD Try.prog 57 33 (d57 fu).erase rs57 := bodyD_mk Try.func57 (by kernel_rfl) (by kernel_rfl) (by kernel_rfl) (by kernel_rfl)
theorem g57 (fu : Nat) : (e57 fu).Good Try.prog := good_by orders (b57 fu) (l := [e77 fu]) (by kernel_rfl) ⟨g77 fu, trivial⟩ (by kernel_rfl) (v57 fu)
def rs36 : List RVx := [(.tmp 4)]
/-- gazette/gazetteref20.SameReply -/
def p36 (fu : Nat) : (Z4) × ((Z4) × (Unit)) → Option ((Unit) × (Bool)) := fun ⟨⟨a, c, f, h, i, j, k, l, m, n, o, q, _⟩, ⟨s, t, u, w, x, y, z, a0, c0, f0, h0, i0, _⟩, _⟩ =>
Option.bind (p57 fu ((h, i, j, k, ()), (w, x, y, z, ()), ())) fun ⟨_, j0⟩ =>
Option.bind (p26 fu (m, c0, ())) fun ⟨_, k0⟩ =>
bif j0 then
 bif k0 then
 bif (a == s) then
 bif (c == t) then
 bif (f == u) then
 bif (l == a0) then
 bif (n == f0) then
 bif (o == h0) then
 some ((), (q == i0))
 else
 some ((), false)
 else
 some ((), false)
 else
 some ((), false)
 else
 some ((), false)
 else
 some ((), false)
 else
 some ((), false)
 else
 some ((), false)
else
 some ((), false)
def e36 (fu : Nat) : Ent := ⟨36, (.cons Y17 (.cons Y17 .nil)), .nil, (.hole .bool), p36 fu⟩
def d36 (fu : Nat) : DC := (.seq (.region [opD 2 (.box 48 12 (tD 0)), opD 3 (.box 48 12 (tD 1)), opD 4 (.mov (.const vB))] [[], [], []] false) (.seq (.region [opD 7 (.faddr 3 (tD 2)), opD 8 (.load true 4 (tD 7)), opD 9 (.faddr 3 (tD 3)), opD 10 (.load true 4 (tD 9)), oqD 11 (.call 57 [(tD 8), (tD 10)]) (.ent (e57 fu)), mvD 5 11] [[], [0], [], [2], [1, 3], [4, 4, 0, 1, 2, 3, 4]] false) (.seq (.region [opD 12 (.faddr 8 (tD 2)), opD 13 (.load false 1 (tD 12)), opD 14 (.faddr 8 (tD 3)), opD 15 (.load false 1 (tD 14)), oqD 16 (.call 26 [(tD 13), (tD 15)]) (.ent (e26 fu)), mvD 6 16] [[], [0], [], [2], [1, 3], [4, 4, 0, 1, 2, 3, 4]] false) (.seq (.region [mvD 17 5, mvD 18 17, ogD 19 18 true (.mov (tD 6)), opD 20 (.pick (tD 18) (tD 19) (.const vB)), mvD 21 20, ogD 22 21 true (.faddr 0 (tD 2)), ogD 23 21 true (.load false 1 (tD 22)), ogD 24 21 true (.faddr 0 (tD 3)), ogD 25 21 true (.load false 1 (tD 24)), ogD 26 21 true (.bin .eql (tD 23) (tD 25)), opD 27 (.pick (tD 21) (tD 26) (.const vB)), mvD 28 27, ogD 29 28 true (.faddr 1 (tD 2)), ogD 30 28 true (.load false 1 (tD 29)), ogD 31 28 true (.faddr 1 (tD 3)), ogD 32 28 true (.load false 1 (tD 31)), ogD 33 28 true (.bin .eql (tD 30) (tD 32)), opD 34 (.pick (tD 28) (tD 33) (.const vB)), mvD 35 34, ogD 36 35 true (.faddr 2 (tD 2)), ogD 37 35 true (.load false 1 (tD 36)), ogD 38 35 true (.faddr 2 (tD 3)), ogD 39 35 true (.load false 1 (tD 38)), ogD 40 35 true (.bin .eql (tD 37) (tD 39)), opD 41 (.pick (tD 35) (tD 40) (.const vB)), mvD 42 41, ogD 43 42 true (.faddr 7 (tD 2)), ogD 44 42 true (.load false 1 (tD 43)), ogD 45 42 true (.faddr 7 (tD 3)), ogD 46 42 true (.load false 1 (tD 45)), ogD 47 42 true (.bin .eql (tD 44) (tD 46)), opD 48 (.pick (tD 42) (tD 47) (.const vB)), mvD 49 48, ogD 50 49 true (.faddr 9 (tD 2)), ogD 51 49 true (.load false 1 (tD 50)), ogD 52 49 true (.faddr 9 (tD 3)), ogD 53 49 true (.load false 1 (tD 52)), ogD 54 49 true (.bin .eql (tD 51) (tD 53)), opD 55 (.pick (tD 49) (tD 54) (.const vB)), mvD 56 55, ogD 57 56 true (.faddr 10 (tD 2)), ogD 58 56 true (.load false 1 (tD 57)), ogD 59 56 true (.faddr 10 (tD 3)), ogD 60 56 true (.load false 1 (tD 59)), ogD 61 56 true (.bin .eql (tD 58) (tD 60)), opD 62 (.pick (tD 56) (tD 61) (.const vB)), mvD 63 62, ogD 64 63 true (.faddr 11 (tD 2)), ogD 65 63 true (.load false 1 (tD 64)), ogD 66 63 true (.faddr 11 (tD 3)), ogD 67 63 true (.load false 1 (tD 66)), ogD 68 63 true (.bin .eql (tD 65) (tD 67)), opD 69 (.pick (tD 63) (tD 68) (.const vB)), mvD 4 69] [[], [0], [1], [1, 2], [3, 1], [4], [5, 4], [4], [7, 4], [6, 8, 4], [4, 9], [10, 4], [11], [12, 11], [11], [14, 11], [13, 15, 11], [11, 16], [17, 11], [18], [19, 18], [18], [21, 18], [20, 22, 18], [18, 23], [24, 18], [25], [26, 25], [25], [28, 25], [27, 29, 25], [25, 30], [31, 25], [32], [33, 32], [32], [35, 32], [34, 36, 32], [32, 37], [38, 32], [39], [40, 39], [39], [42, 39], [41, 43, 39], [39, 44], [45, 39], [46], [47, 46], [46], [49, 46], [48, 50, 46], [46, 51], [52, 46, 0, 1, 2, 3, 4, 5, 6, 7, 8, 9, 10, 11, 12, 13, 14, 15, 16, 17, 18, 19, 20, 21, 22, 23, 24, 25, 26, 27, 28, 29, 30, 31, 32, 33, 34, 35, 36, 37, 38, 39, 40, 41, 42, 43, 44, 45, 46, 47, 48, 49, 50, 51, 52]] false) .ret))))
set_option maxRecDepth 1000000 in
theorem v36 (fu : Nat) : evF fu (d36 fu) rs36 70 (e36 fu).ash (e36 fu).osh (e36 fu).vsh = p36 fu := by kernel_rfl
set_option maxRecDepth 1000000 in
theorem b36 (fu : Nat) : BodyD Try.prog 36 70 (d36 fu).erase rs36 := bodyD_mk Try.func36 (by kernel_rfl) (by kernel_rfl) (by kernel_rfl) (by kernel_rfl)
theorem g36 (fu : Nat) : (e36 fu).Good Try.prog := good_by orders (b36 fu) (l := [e57 fu, e26 fu]) (by kernel_rfl) ⟨g57 fu, g26 fu, trivial⟩ (by kernel_rfl) (v36 fu)
def rs20 : List RVx := [(.tmp 4)]
/-- gazette/gazetteref21.SameReply -/
def p20 (fu : Nat) : (Z4) × ((Z4) × (Unit)) → Option ((Unit) × (Bool)) := fun ⟨⟨a, c, f, h, i, j, k, l, m, n, o, q, _⟩, ⟨s, t, u, w, x, y, z, a0, c0, f0, h0, i0, _⟩, _⟩ =>
Option.bind (p36 fu ((a, c, f, h, i, j, k, l, m, n, o, q, ()), (s, t, u, w, x, y, z, a0, c0, f0, h0, i0, ()), ())) fun ⟨_, j0⟩ =>
some ((), j0)
def e20 (fu : Nat) : Ent := ⟨20, (.cons Y17 (.cons Y17 .nil)), .nil, (.hole .bool), p20 fu⟩
def d20 (fu : Nat) : DC := (.seq (.region [opD 2 (.box 48 12 (tD 0)), opD 3 (.box 48 12 (tD 1)), opD 4 (.mov (.const vB))] [[], [], []] false) (.seq (.region [opD 5 (.load true 12 (tD 2)), opD 6 (.load true 12 (tD 3)), oqD 7 (.call 36 [(tD 5), (tD 6)]) (.ent (e36 fu)), mvD 4 7] [[], [], [0, 1], [2, 2, 0, 1, 2]] false) .ret))
set_option maxRecDepth 1000000 in
theorem v20 (fu : Nat) : evF fu (d20 fu) rs20 8 (e20 fu).ash (e20 fu).osh (e20 fu).vsh = p20 fu := by kernel_rfl
set_option maxRecDepth 1000000 in
theorem b20 (fu : Nat) : BodyD Try.prog 20 8 (d20 fu).erase rs20 := bodyD_mk Try.func20 (by kernel_rfl) (by kernel_rfl) (by kernel_rfl) (by kernel_rfl)
theorem g20 (fu : Nat) : (e20 fu).Good Try.prog := good_by orders (b20 fu) (l := [e36 fu]) (by kernel_rfl) ⟨g36 fu, trivial⟩ (by kernel_rfl) (v20 fu)
def rs7 : List RVx := [(.tmp 6)]
/-- gazette/gazettelaw21.ClientFinds -/
def p7 (fu : Nat) : (Z2) × ((List (D_api_Shard)) × ((Z4) × (Unit))) → Option ((Unit) × (Bool)) := fun ⟨⟨a, c, f, h, i, j, k, l, m, n, o, q, s, t, u, w, x, y, z, _⟩, a0, ⟨_, _, c0, f0, h0, i0, j0, k0, l0, m0, n0, o0, _⟩, _⟩ =>
Option.bind (p9 fu ()) fun ⟨_, q0⟩ =>
Option.bind (p10 fu ((4 : Int), [(1 : Int), (2 : Int), (3 : Int)], (9 : Int), ())) fun ⟨_, ⟨⟨s0, t0, u0, w0, x0, y0, z0, a1, c1, f1, h1, i1, j1, k1, l1, m1, n1, o1, q1, s1, t1, u1, w1, x1, y1, z1, a2, c2, f2, h2, i2, j2, k2, _⟩, l2, _⟩⟩ =>
bif decide (List.length t0 = List.length t0) then
 Option.bind (p16 fu ((s0, t0, u0, w0, x0, y0, z0, a1, c1, f1, h1, i1, j1, k1, l1, m1, n1, o1, q1, s1, t1, u1, w1, x1, y1, z1, a2, c2, f2, h2, i2, j2, k2, ()), ((1 : Int), a, c, f, h, i, j, k, l, m, n, o, q, s, t, u, w, x, y, z, (0 : Int), (0 : Int), (0 : Int), (0 : Int), (0 : Int), false, [], (0 : Int), [], (0 : Int), (0 : Int), (0 : Int), ()), ())) fun ⟨_, ⟨⟨m2, n2, o2, q2, s2, t2, u2, w2, x2, y2, z2, a3, c3, f3, h3, i3, j3, k3, l3, m3, n3, o3, q3, s3, t3, u3, w3, x3, y3, z3, a4, c4, f4, _⟩, ⟨h4, _, _, i4, _, _, _, _, _, _, _, _, _, _, _, _, _, _, _, _, _, _, _, _, _, _, _, j4, _, _, _, _, _, _, _, _, _, _, _, _, _, _⟩, k4, _⟩⟩ =>
 orK (E := ((Bool) × (Unit)) × (Unit))
 (bif !q0 then
 some (.inl ((true, ()), ()))
 else
 bif (l2 != (0 : Int)) then
 some (.inl ((true, ()), ()))
 else
 bif (k4 != (0 : Int)) then
 some (.inl ((true, ()), ()))
 else
 bif (a == (5 : Int)) then
 some (.inl ((true, ()), ()))
 else
 some (.inl (((a == (6 : Int)), ()), ())))
 fun ⟨⟨l4, _⟩, _⟩ =>
 bif l4 then
 bif q0 then
 some ((), (l2 == (0 : Int)))
 else
 some ((), false)
 else
 bif !h4 then
 some ((), false)
 else
 bif (i4 != (6 : Int)) then
 some ((), false)
 else
 bif !(ByteArray.toList j4 == ByteArray.toList c) then
 some ((), false)
 else
 bif decide (List.length n2 = List.length n2) then
 bif decide (List.length s2 = List.length s2) then
 bif decide (List.length t2 = List.length t2) then
 bif decide (List.length z2 = List.length z2) then
 bif decide (List.length l3 = List.length l3) then
 Option.bind (p16 fu ((m2, n2, o2, q2, s2, t2, u2, w2, x2, y2, z2, a3, c3, f3, h3, i3, j3, k3, l3, m3, n3, o3, q3, s3, t3, u3, w3, x3, y3, z3, a4, c4, f4, ()), ((2 : Int), (0 : Int), (⟨#[]⟩ : ByteArray), (⟨#[]⟩ : ByteArray), [], (0 : Int), (0 : Int), (⟨#[]⟩ : ByteArray), (0 : Int), (0 : Int), (0 : Int), (⟨#[]⟩ : ByteArray), [], (0 : Int), (0 : Int), (⟨#[]⟩ : ByteArray), (0 : Int), (0 : Int), (0 : Int), (0 : Int), w3, (0 : Int), (0 : Int), (0 : Int), (0 : Int), false, [], (0 : Int), a0, (0 : Int), (0 : Int), (0 : Int), ()), ())) fun ⟨_, ⟨⟨m4, n4, o4, q4, s4, t4, u4, w4, x4, y4, z4, a5, c5, f5, h5, i5, j5, k5, l5, m5, n5, o5, q5, s5, t5, u5, w5, x5, y5, z5, a6, c6, f6, _⟩, ⟨h6, _, _, i6, j6, _, k6, _, _, _, _, _, _, _, _, _, _, _, _, _, _, _, _, _, _, _, _, _, _, _, _, _, _, _, _, _, _, _, _, _, _, _⟩, _, _⟩⟩ =>
 loopO (S := ((Int) × ((Int) × (Unit))) × (Unit)) fu (fun ⟨⟨l6, m6, _⟩, _⟩ =>
 bif decide (m6 ≥ (0 : Int)) then
 bif decide ((0 : Int) ≤ m6 ∧ m6 < (List.length a0 : Int)) then
 bif decide (Int.toNat m6 < List.length a0) then
 Option.bind (p19 fu (((((List.getD a0 (Int.toNat m6) (dflt T_api_Shard)).2).1).1, (((List.getD a0 (Int.toNat m6) (dflt T_api_Shard)).2).1).2, ()), f, ())) fun ⟨_, n6⟩ =>
 bif n6 then
 some (.inl ((m6, IntKind.wrap .i64 (m6 - (1 : Int)), ()), ()))
 else
 some (.inl ((l6, IntKind.wrap .i64 (m6 - (1 : Int)), ()), ()))
 else none
 else none
 else
 inrO (bif decide (l6 < (0 : Int)) then
 bif !h6 then
 bif u4 then
 some ((), c6)
 else
 some ((), false)
 else
 some ((), false)
 else
 bif !h6 then
 some ((), false)
 else
 bif (i6 != a) then
 some ((), false)
 else
 bif decide ((0 : Int) ≤ l6 ∧ l6 < (List.length a0 : Int)) then
 bif decide (Int.toNat l6 < List.length a0) then
 bif (j6 != ((List.getD a0 (Int.toNat l6) (dflt T_api_Shard)).1)) then
 some ((), false)
 else
 bif decide ((0 : Int) ≤ l6 ∧ l6 < (List.length a0 : Int)) then
 bif decide (Int.toNat l6 < List.length a0) then
 bif (k6 != ((((List.getD a0 (Int.toNat l6) (dflt T_api_Shard)).2).2).1)) then
 some ((), false)
 else
 bif decide (List.length n4 = List.length n4) then
 bif decide (List.length s4 = List.length s4) then
 bif decide (List.length t4 = List.length t4) then
 bif decide (List.length z4 = List.length z4) then
 bif decide (List.length l5 = List.length l5) then
 Option.bind (p16 fu ((m4, n4, o4, q4, s4, t4, u4, w4, x4, y4, z4, a5, c5, f5, h5, i5, j5, k5, l5, m5, n5, o5, q5, s5, t5, u5, w5, x5, y5, z5, a6, c6, f6, ()), ((2 : Int), (0 : Int), (⟨#[]⟩ : ByteArray), (⟨#[]⟩ : ByteArray), [], (0 : Int), (0 : Int), (⟨#[]⟩ : ByteArray), (0 : Int), (0 : Int), (0 : Int), (⟨#[]⟩ : ByteArray), [], (0 : Int), (0 : Int), (⟨#[]⟩ : ByteArray), (0 : Int), (0 : Int), (0 : Int), (0 : Int), w5, (0 : Int), c0, f0, h0, i0, j0, k0, l0, m0, n0, o0, ()), ())) fun ⟨_, ⟨⟨_, _, _, _, _, _, o6, _, _, _, _, _, _, _, _, _, _, _, _, _, _, _, _, _, _, _, _, _, _, _, _, _, _, _⟩, ⟨q6, _, _, _, _, _, _, _, _, _, _, _, _, _, _, _, _, _, _, _, _, _, _, _, _, _, _, _, s6, t6, u6, w6, x6, y6, z6, a7, c7, f7, h7, i7, j7, _⟩, _, _⟩⟩ =>
 bif s6 then
 bif !q6 then
 bif !o6 then
 bif decide (List.length a7 = List.length a7) then
 bif decide (List.length f7 = List.length f7) then
 Option.bind (p20 fu ((t6, u6, w6, x6, y6, z6, a7, c7, f7, h7, i7, j7, ()), (w5, (0 : Int), c0, f0, h0, i0, j0, k0, l0, m0, n0, o0, ()), ())) fun ⟨_, k7⟩ =>
 some ((), k7)
 else none
 else none
 else
 some ((), false)
 else
 some ((), false)
 else
 some ((), false)
 else none
 else none
 else none
 else none
 else none
 else none
 else none
 else none
 else none))
 ((((-1) : Int), IntKind.wrap .i64 ((List.length a0 : Int) - (1 : Int)), ()), ())
 else none
 else none
 else none
 else none
 else none
else none
def e7 (fu : Nat) : Ent := ⟨7, (.cons Y12 (.cons (.hole (.sl T_api_Shard)) (.cons Y17 .nil))), .nil, (.hole .bool), p7 fu⟩
def d7 (fu : Nat) : DC := (.seq (.region [opD 3 (.box 33 19 (tD 0)), opD 5 (.box 48 12 (tD 2)), opD 6 (.mov (.const vB))] [[], [], []] false) (.seq (.region [oqD 15 (.call 9 []) (.ent (e9 fu)), mvD 7 15] [[], [0, 0, 0]] false) (.seq (.region [oqD 17 (.bslice 3 1 3 [vI] [(0, (cD 1)), (1, (cD 2)), (2, (cD 3))]) (.ty (.int .i64)), oqD 18 (.call 10 [(cD 4), (tD 17), (.const (.int .u64 9))]) (.ent (e10 fu)), mvD 16 18, opD 19 (.ext (tD 16) 0), opD 20 (.ext (tD 16) 1), opD 8 (.alloc 35 33 [vI, vS, vU, vU, vS, vS, vB, vI, vT, vT, vS, vU, vI, vT, vI, vU, vU, vT, vS, vU, vU, vT, vI, vI, vU, vI, vU, vB, vU, vI, vI, vB, vI]), onD (.store 33 (tD 8) (tD 19)), mvD 9 20] [[], [0], [1], [2], [2], [], [5, 3, 1, 0, 1, 2, 3, 5], [4, 6, 0, 1, 2, 3, 4, 5, 6]] false) (.seq (.region [opD 22 (.load true 33 (tD 8)), opD 23 (.load true 19 (tD 3)), opD 24 (.build 32 [vI, vI, vT, vT, vS, vU, vI, vT, vI, vU, vU, vT, vS, vU, vU, vT, vI, vI, vU, vI, vU, vI, vI, vI, vU, vB, vS, vU, vS, vU, vU, vU] [(0, (1, (cD 1))), (1, (19, (tD 23)))]), oqD 25 (.call 16 [(tD 22), (tD 24)]) (.ent (e16 fu)), mvD 21 25, opD 26 (.ext (tD 21) 0), opD 27 (.ext (tD 21) 1), opD 28 (.ext (tD 21) 2), opD 10 (.alloc 60 41 [vB, vI, vU, vI, vU, vI, vU, vU, vU, vT, vS, vU, vI, vT, vU, vI, vU, vU, vT, vS, vU, vU, vT, vI, vI, vU, vI, vT, vB, vU, vI, vI, vI, vU, vB, vS, vU, vS, vU, vU, vU]), onD (.store 33 (tD 8) (tD 26)), onD (.store 41 (tD 10) (tD 27)), mvD 11 28] [[], [], [1], [0, 2], [3], [4], [4], [4], [], [5, 3, 0, 1, 2, 3, 4, 5, 8], [8, 6, 9, 0, 1, 2, 3, 4, 5, 6, 8, 9], [7, 10, 0, 1, 2, 3, 4, 5, 6, 7, 8, 9, 10]] false) (.seq (.join ⟨[48], (.cons (.hole .bool) .nil), [], .nil, [1, 3, 5, 7, 8, 9, 10], [0, 16, 160, 256, 257, 258, 259, 260, 261, 262, 263, 264, 336]⟩
 (.region [mvD 29 7, opD 30 (.not (tD 29)), mvD 31 30, ogD 32 31 false (.mov (tD 9)), ogD 33 31 false (.bin .neq (tD 32) (cD 0)), opD 34 (.pick (tD 31) (.const (.bool true)) (tD 33)), mvD 35 34, ogD 36 35 false (.mov (tD 11)), ogD 37 35 false (.bin .neq (tD 36) (cD 0)), opD 38 (.pick (tD 35) (.const (.bool true)) (tD 37)), mvD 39 38, ogD 40 39 false (.faddr 0 (tD 3)), ogD 41 39 false (.load false 1 (tD 40)), ogD 42 39 false (.bin .eql (tD 41) (cD 5)), opD 43 (.pick (tD 39) (.const (.bool true)) (tD 42)), mvD 44 43, ogD 45 44 false (.faddr 0 (tD 3)), ogD 46 44 false (.load false 1 (tD 45)), ogD 47 44 false (.bin .eql (tD 46) (cD 6)), opD 48 (.pick (tD 44) (.const (.bool true)) (tD 47))] [[], [0], [1], [2], [3, 2], [2, 4], [5, 2], [6], [7, 6], [6, 8], [9, 6], [10], [11, 10], [12, 10], [10, 13], [14, 10], [15], [16, 15], [17, 15], [15, 18]] false)
 (.cond (.tmp 48) (.seq (.region [mvD 49 7, mvD 50 49, ogD 51 50 true (.mov (tD 9)), ogD 52 50 true (.bin .eql (tD 51) (cD 0)), opD 53 (.pick (tD 50) (tD 52) (.const vB)), mvD 6 53] [[], [0], [1], [2, 1], [1, 3], [4, 1, 0, 1, 2, 3, 4]] false) .ret) .skip)) (.seq (.seq (.region [opD 54 (.faddr 0 (tD 10)), opD 55 (.load false 1 (tD 54)), opD 56 (.not (tD 55)), mvD 57 56, ogD 58 57 false (.faddr 2 (tD 10)), ogD 59 57 false (.faddr 1 (tD 58)), ogD 60 57 false (.load false 1 (tD 59)), ogD 61 57 false (.bin .neq (tD 60) (cD 6)), opD 62 (.pick (tD 57) (.const (.bool true)) (tD 61)), mvD 63 62, ogD 64 63 false (.faddr 2 (tD 10)), ogD 65 63 false (.faddr 25 (tD 64)), ogD 66 63 false (.load false 1 (tD 65)), ogD 67 63 false (.faddr 1 (tD 3)), ogD 68 63 false (.load false 1 (tD 67)), ogD 69 63 false (.bin .neq (tD 66) (tD 68)), opD 70 (.pick (tD 63) (.const (.bool true)) (tD 69))] [[], [0], [1], [2], [3], [4, 3], [5, 3], [6, 3], [3, 7], [8, 3], [9], [10, 9], [11, 9], [9], [13, 9], [12, 14, 9], [9, 15]] false) (.cond (.tmp 70) (.seq (.region [opD 6 (.mov (.const vB))] [[]] false) .ret) .skip)) (.seq (.region [opD 72 (.load true 33 (tD 8)), opD 73 (.faddr 26 (tD 8)), opD 74 (.load false 1 (tD 73)), mvD 75 1, opD 76 (.build 12 [vU, vI, vI, vI, vU, vB, vS, vU, vS, vU, vU, vU] [(0, (1, (tD 74))), (8, (1, (tD 75)))]), opD 77 (.build 32 [vI, vI, vT, vT, vS, vU, vI, vT, vI, vU, vU, vT, vS, vU, vU, vT, vI, vI, vU, vI, vU, vI, vI, vI, vU, vB, vS, vU, vS, vU, vU, vU] [(0, (1, (cD 2))), (20, (12, (tD 76)))]), oqD 78 (.call 16 [(tD 72), (tD 77)]) (.ent (e16 fu)), mvD 71 78, opD 79 (.ext (tD 71) 0), opD 80 (.ext (tD 71) 1), opD 81 (.ext (tD 71) 2), onD (.store 33 (tD 8) (tD 79)), onD (.store 41 (tD 10) (tD 80))] [[], [], [1], [], [2, 3], [4], [0, 5], [6], [7], [7], [7], [8, 6, 0, 1, 2, 3, 4, 5, 6, 7, 8], [9, 11, 0, 1, 2, 3, 4, 5, 6, 7, 8, 9, 11]] false) (.seq (.region [opD 12 (.mov (.const (.int .i64 (-1))))] [[]] false) (.seq (.seq (.region [mvD 82 1, opD 83 (.len false (tD 82)), opD 84 (.bin .sub (tD 83) (cD 1)), mvD 13 84] [[], [0], [1], [2, 0, 1, 2]] false) (.block 0 (.loop ⟨[12, 13], (.cons (.hole (.int .i64)) (.cons (.hole (.int .i64)) .nil)), [], .nil, [1, 3, 5, 8, 10], [0, 16, 160, 336, 768, 769, 770, 771, 772, 773, 774, 775, 776]⟩
 (.seq (.seq (.region [mvD 85 13, opD 86 (.bin .geq (tD 85) (cD 0))] [[], [0]] false) (.cond (.tmp 86) .skip (.exit 0))) (.seq (.block 1 (.seq (.region [mvD 89 1, mvD 90 13, opD 91 (.iaddr 7 (tD 89) (tD 90)), opD 92 (.faddr 1 (tD 91)), opD 93 (.load true 2 (tD 92)), opD 94 (.faddr 2 (tD 3)), opD 95 (.load false 1 (tD 94)), oqD 96 (.call 19 [(tD 93), (tD 95)]) (.ent (e19 fu)), mvD 14 96] [[], [], [0, 1], [2], [3], [], [5], [4, 6], [7, 7, 0, 1, 2, 3, 4, 5, 6, 7]] true) (.seq (.region [mvD 97 14] [[]] false) (.cond (.tmp 97) (.region [mvD 98 13, mvD 12 98] [[], [0, 0]] false) .skip)))) (.region [mvD 87 13, opD 88 (.bin .sub (tD 87) (cD 1)), mvD 13 88] [[], [0], [1, 0, 1]] false)))))) (.seq (.seq (.region [mvD 99 12, opD 100 (.bin .lss (tD 99) (cD 0))] [[], [0]] false) (.cond (.tmp 100) (.seq (.region [opD 101 (.faddr 0 (tD 10)), opD 102 (.load false 1 (tD 101)), opD 103 (.not (tD 102)), mvD 104 103, ogD 105 104 true (.faddr 6 (tD 8)), ogD 106 104 true (.load false 1 (tD 105)), opD 107 (.pick (tD 104) (tD 106) (.const vB)), mvD 108 107, ogD 109 108 true (.faddr 31 (tD 8)), ogD 110 108 true (.load false 1 (tD 109)), opD 111 (.pick (tD 108) (tD 110) (.const vB)), mvD 6 111] [[], [0], [1], [2], [3], [4, 3], [3, 5], [6, 3], [7], [8, 7], [7, 9], [10, 7, 0, 1, 2, 3, 4, 5, 6, 7, 8, 9, 10]] false) .ret) .skip)) (.seq (.seq (.region [opD 112 (.faddr 0 (tD 10)), opD 113 (.load false 1 (tD 112)), opD 114 (.not (tD 113)), mvD 115 114, ogD 116 115 false (.faddr 2 (tD 10)), ogD 117 115 false (.faddr 1 (tD 116)), ogD 118 115 false (.load false 1 (tD 117)), ogD 119 115 false (.faddr 0 (tD 3)), ogD 120 115 false (.load false 1 (tD 119)), ogD 121 115 false (.bin .neq (tD 118) (tD 120)), opD 122 (.pick (tD 115) (.const (.bool true)) (tD 121)), mvD 123 122, ogD 124 123 false (.faddr 2 (tD 10)), ogD 125 123 false (.faddr 2 (tD 124)), ogD 126 123 false (.load false 1 (tD 125)), ogD 127 123 false (.mov (tD 1)), ogD 128 123 false (.mov (tD 12)), ogD 129 123 false (.iaddr 7 (tD 127) (tD 128)), ogD 130 123 false (.faddr 0 (tD 129)), ogD 131 123 false (.load false 1 (tD 130)), ogD 132 123 false (.bin .neq (tD 126) (tD 131)), opD 133 (.pick (tD 123) (.const (.bool true)) (tD 132)), mvD 134 133, ogD 135 134 false (.faddr 2 (tD 10)), ogD 136 134 false (.faddr 3 (tD 135)), ogD 137 134 false (.faddr 1 (tD 136)), ogD 138 134 false (.load false 1 (tD 137)), ogD 139 134 false (.mov (tD 1)), ogD 140 134 false (.mov (tD 12)), ogD 141 134 false (.iaddr 7 (tD 139) (tD 140)), ogD 142 134 false (.faddr 3 (tD 141)), ogD 143 134 false (.load false 1 (tD 142)), ogD 144 134 false (.bin .neq (tD 138) (tD 143)), opD 145 (.pick (tD 134) (.const (.bool true)) (tD 144))] [[], [0], [1], [2], [3], [4, 3], [5, 3], [3], [7, 3], [6, 8, 3], [3, 9], [10, 3], [11], [12, 11], [13, 11], [11], [11], [15, 16, 11], [17, 11], [18, 11], [14, 19, 11], [11, 20], [21, 11], [22], [23, 22], [24, 22], [25, 22], [22], [22], [27, 28, 22], [29, 22], [30, 22], [26, 31, 22], [22, 32]] true) (.cond (.tmp 145) (.seq (.region [opD 6 (.mov (.const vB))] [[]] false) .ret) .skip)) (.seq (.region [opD 146 (.faddr 26 (tD 8)), opD 147 (.load false 1 (tD 146)), opD 148 (.faddr 0 (tD 5)), onD (.store 1 (tD 148) (tD 147))] [[], [0], [0, 1], [2, 1, 0, 1]] false) (.seq (.region [opD 149 (.faddr 1 (tD 5)), onD (.store 1 (tD 149) (cD 0))] [[], [0]] false) (.seq (.region [opD 151 (.load true 33 (tD 8)), opD 152 (.load true 12 (tD 5)), opD 153 (.build 32 [vI, vI, vT, vT, vS, vU, vI, vT, vI, vU, vU, vT, vS, vU, vU, vT, vI, vI, vU, vI, vU, vI, vI, vI, vU, vB, vS, vU, vS, vU, vU, vU] [(0, (1, (cD 2))), (20, (12, (tD 152)))]), oqD 154 (.call 16 [(tD 151), (tD 153)]) (.ent (e16 fu)), mvD 150 154, opD 155 (.ext (tD 150) 0), opD 156 (.ext (tD 150) 1), opD 157 (.ext (tD 150) 2), onD (.store 33 (tD 8) (tD 155)), onD (.store 41 (tD 10) (tD 156))] [[], [], [1], [0, 2], [3], [4], [4], [4], [5, 3, 0, 1, 2, 3, 4, 5], [6, 8, 0, 1, 2, 3, 4, 5, 6, 8]] false) (.seq (.region [opD 158 (.faddr 28 (tD 10)), opD 159 (.load false 1 (tD 158)), mvD 160 159, ogD 161 160 true (.faddr 0 (tD 10)), ogD 162 160 true (.load false 1 (tD 161)), ogD 163 160 true (.not (tD 162)), opD 164 (.pick (tD 160) (tD 163) (.const vB)), mvD 165 164, ogD 166 165 true (.faddr 6 (tD 8)), ogD 167 165 true (.load false 1 (tD 166)), ogD 168 165 true (.not (tD 167)), opD 169 (.pick (tD 165) (tD 168) (.const vB)), mvD 170 169, ogD 171 170 true (.faddr 29 (tD 10)), ogD 172 170 true (.load true 12 (tD 171)), ogD 173 170 true (.load true 12 (tD 5)), (⟨(some 174), (some (170, true)), (.call 20 [(tD 172), (tD 173)])⟩, (.ent (e20 fu))), opD 175 (.pick (tD 170) (tD 174) (.const vB)), mvD 6 175] [[], [0], [1], [2], [3, 2], [4, 2], [2, 5], [6, 2], [7], [8, 7], [9, 7], [7, 10], [11, 7], [12], [13, 12], [12], [14, 15, 12, 12], [12, 16], [17, 16, 0, 1, 2, 3, 4, 5, 6, 7, 8, 9, 10, 11, 12, 13, 14, 15, 16, 17]] false) .ret)))))))))))))))
set_option maxRecDepth 1000000 in
theorem v7 (fu : Nat) : evF fu (d7 fu) rs7 176 (e7 fu).ash (e7 fu).osh (e7 fu).vsh = p7 fu := by kernel_rfl
set_option maxRecDepth 1000000 in
theorem b7 (fu : Nat) : BodyD Try.prog 7 176 (d7 fu).erase rs7 := bodyD_mk Try.func7 (by kernel_rfl) (by kernel_rfl) (by kernel_rfl) (by kernel_rfl)
theorem g7 (fu : Nat) : (e7 fu).Good Try.prog := good_by orders (b7 fu) (l := [e9 fu, e10 fu, e16 fu, e16 fu, e19 fu, e16 fu, e20 fu]) (by kernel_rfl) ⟨g9 fu, g10 fu, g16 fu, g16 fu, g19 fu, g16 fu, g20 fu, trivial⟩ (by kernel_rfl) (v7 fu)
def rs8 : List RVx := [(.tmp 8)]
/-- gazette/gazettelaw21.ClientLate -/
def p8 (fu : Nat) : (Int) × ((List (Int)) × ((List (D_api_ClientInput)) × ((Z4) × (Unit)))) → Option ((Unit) × (Bool)) := fun ⟨a, c, f, ⟨h, i, j, k, l, m, n, o, q, s, t, u, _⟩, _⟩ =>
Option.bind (p9 fu ()) fun ⟨_, w⟩ =>
Option.bind (p10 fu (a, c, (9 : Int), ())) fun ⟨_, ⟨⟨x, y, z, a0, c0, f0, h0, i0, j0, k0, l0, m0, n0, o0, q0, s0, t0, u0, w0, x0, y0, z0, a1, c1, f1, h1, i1, j1, k1, l1, m1, n1, o1, _⟩, q1, _⟩⟩ =>
bif !w then
 some ((), w)
else
 bif (q1 != (0 : Int)) then
 some ((), w)
 else
 bif decide (List.length y = List.length y) then
 loopO (S := ((Int) × (Unit)) × ((Z1) × (Unit))) fu (fun ⟨⟨s1, _⟩, ⟨⟨t1, u1, w1, x1, y1, z1, a2, c2, f2, h2, i2, j2, k2, l2, m2, n2, o2, q2, s2, t2, u2, w2, x2, y2, z2, a3, c3, f3, h3, i3, j3, k3, l3, _⟩, _⟩⟩ =>
 bif decide (s1 < (List.length f : Int)) then
 bif decide ((0 : Int) ≤ s1 ∧ s1 < (List.length f : Int)) then
 bif decide (Int.toNat s1 < List.length f) then
 Option.bind (p16 fu ((t1, u1, w1, x1, y1, z1, a2, c2, f2, h2, i2, j2, k2, l2, m2, n2, o2, q2, s2, t2, u2, w2, x2, y2, z2, a3, c3, f3, h3, i3, j3, k3, l3, ()), ((List.getD f (Int.toNat s1) (dflt T_api_ClientInput)).1, (((List.getD f (Int.toNat s1) (dflt T_api_ClientInput)).2).1).1, ((((List.getD f (Int.toNat s1) (dflt T_api_ClientInput)).2).1).2).1, (((((List.getD f (Int.toNat s1) (dflt T_api_ClientInput)).2).1).2).2).1, ((((((List.getD f (Int.toNat s1) (dflt T_api_ClientInput)).2).1).2).2).2).1, (((((((List.getD f (Int.toNat s1) (dflt T_api_ClientInput)).2).1).2).2).2).2).1, ((((((((List.getD f (Int.toNat s1) (dflt T_api_ClientInput)).2).1).2).2).2).2).2).1, (((((((((List.getD f (Int.toNat s1) (dflt T_api_ClientInput)).2).1).2).2).2).2).2).2).1, ((((((((((List.getD f (Int.toNat s1) (dflt T_api_ClientInput)).2).1).2).2).2).2).2).2).2).1, (((((((((((List.getD f (Int.toNat s1) (dflt T_api_ClientInput)).2).1).2).2).2).2).2).2).2).2).1, ((((((((((((List.getD f (Int.toNat s1) (dflt T_api_ClientInput)).2).1).2).2).2).2).2).2).2).2).2).1, (((((((((((((List.getD f (Int.toNat s1) (dflt T_api_ClientInput)).2).1).2).2).2).2).2).2).2).2).2).2).1, ((((((((((((((List.getD f (Int.toNat s1) (dflt T_api_ClientInput)).2).1).2).2).2).2).2).2).2).2).2).2).2).1, (((((((((((((((List.getD f (Int.toNat s1) (dflt T_api_ClientInput)).2).1).2).2).2).2).2).2).2).2).2).2).2).2).1, ((((((((((((((((List.getD f (Int.toNat s1) (dflt T_api_ClientInput)).2).1).2).2).2).2).2).2).2).2).2).2).2).2).2).1, (((((((((((((((((List.getD f (Int.toNat s1) (dflt T_api_ClientInput)).2).1).2).2).2).2).2).2).2).2).2).2).2).2).2).2).1, ((((((((((((((((((List.getD f (Int.toNat s1) (dflt T_api_ClientInput)).2).1).2).2).2).2).2).2).2).2).2).2).2).2).2).2).2).1, (((((((((((((((((((List.getD f (Int.toNat s1) (dflt T_api_ClientInput)).2).1).2).2).2).2).2).2).2).2).2).2).2).2).2).2).2).2).1, ((((((((((((((((((((List.getD f (Int.toNat s1) (dflt T_api_ClientInput)).2).1).2).2).2).2).2).2).2).2).2).2).2).2).2).2).2).2).2).1, ((((((((((((((((((((List.getD f (Int.toNat s1) (dflt T_api_ClientInput)).2).1).2).2).2).2).2).2).2).2).2).2).2).2).2).2).2).2).2).2, (((List.getD f (Int.toNat s1) (dflt T_api_ClientInput)).2).2).1, ((((List.getD f (Int.toNat s1) (dflt T_api_ClientInput)).2).2).2).1, (((((List.getD f (Int.toNat s1) (dflt T_api_ClientInput)).2).2).2).2).1, (((((((List.getD f (Int.toNat s1) (dflt T_api_ClientInput)).2).2).2).2).2).1).1, ((((((((List.getD f (Int.toNat s1) (dflt T_api_ClientInput)).2).2).2).2).2).1).2).1, (((((((((List.getD f (Int.toNat s1) (dflt T_api_ClientInput)).2).2).2).2).2).1).2).2).1, (((((((((List.getD f (Int.toNat s1) (dflt T_api_ClientInput)).2).2).2).2).2).1).2).2).2, (((((((List.getD f (Int.toNat s1) (dflt T_api_ClientInput)).2).2).2).2).2).2).1, ((((((((List.getD f (Int.toNat s1) (dflt T_api_ClientInput)).2).2).2).2).2).2).2).1, (((((((((List.getD f (Int.toNat s1) (dflt T_api_ClientInput)).2).2).2).2).2).2).2).2).1, ((((((((((List.getD f (Int.toNat s1) (dflt T_api_ClientInput)).2).2).2).2).2).2).2).2).2).1, ((((((((((List.getD f (Int.toNat s1) (dflt T_api_ClientInput)).2).2).2).2).2).2).2).2).2).2, ()), ())) fun ⟨_, ⟨⟨m3, n3, o3, q3, s3, t3, u3, w3, x3, y3, z3, a4, c4, f4, h4, i4, j4, k4, l4, m4, n4, o4, q4, s4, t4, u4, w4, x4, y4, z4, a5, c5, f5, _⟩, ⟨_, _, _, _, _, _, _, _, _, _, _, _, _, _, _, _, _, _, _, _, _, _, _, _, _, _, _, _, _, _, _, _, _, _, _, _, _, _, _, _, _, _⟩, _, _⟩⟩ =>
 orK (E := (Unit) × ((Z4) × (Unit)))
 (bif (h == w4) then
 some (.inl ((), ((IntKind.wrap .u64 (h + (1 : Int)), i, j, k, l, m, n, o, q, s, t, u, ()), ())))
 else
 some (.inl ((), ((h, i, j, k, l, m, n, o, q, s, t, u, ()), ()))))
 fun ⟨_, ⟨⟨h5, i5, j5, k5, l5, m5, n5, o5, q5, s5, t5, u5, _⟩, _⟩⟩ =>
 bif decide (List.length n3 = List.length n3) then
 bif decide (List.length s3 = List.length s3) then
 bif decide (List.length t3 = List.length t3) then
 bif decide (List.length z3 = List.length z3) then
 bif decide (List.length l4 = List.length l4) then
 Option.bind (p16 fu ((m3, n3, o3, q3, s3, t3, u3, w3, x3, y3, z3, a4, c4, f4, h4, i4, j4, k4, l4, m4, n4, o4, q4, s4, t4, u4, w4, x4, y4, z4, a5, c5, f5, ()), ((2 : Int), (0 : Int), (⟨#[]⟩ : ByteArray), (⟨#[]⟩ : ByteArray), [], (0 : Int), (0 : Int), (⟨#[]⟩ : ByteArray), (0 : Int), (0 : Int), (0 : Int), (⟨#[]⟩ : ByteArray), [], (0 : Int), (0 : Int), (⟨#[]⟩ : ByteArray), (0 : Int), (0 : Int), (0 : Int), (0 : Int), h5, i5, j5, k5, l5, m5, n5, o5, q5, s5, t5, u5, ()), ())) fun ⟨_, ⟨⟨w5, x5, y5, z5, a6, c6, f6, h6, i6, j6, k6, l6, m6, n6, o6, q6, s6, t6, u6, w6, x6, y6, z6, a7, c7, f7, h7, i7, j7, k7, l7, m7, n7, _⟩, ⟨o7, _, _, _, _, _, _, _, _, _, _, _, _, _, _, _, _, _, _, _, _, _, _, _, _, _, _, _, q7, _, _, _, _, _, _, _, _, _, _, _, _, _⟩, s7, _⟩⟩ =>
 bif (s7 != (0 : Int)) then
 inrO (some ((), false))
 else
 bif o7 then
 inrO (some ((), false))
 else
 bif q7 then
 inrO (some ((), false))
 else
 bif decide (List.length x5 = List.length x5) then
 bif decide (List.length a6 = List.length a6) then
 bif decide (List.length c6 = List.length c6) then
 bif decide (List.length k6 = List.length k6) then
 bif decide (List.length u6 = List.length u6) then
 bif decide (List.length n3 = List.length n3) then
 bif decide (List.length s3 = List.length s3) then
 bif decide (List.length t3 = List.length t3) then
 bif decide (List.length z3 = List.length z3) then
 bif decide (List.length l4 = List.length l4) then
 Option.bind (p12 fu ((w5, x5, y5, z5, a6, c6, f6, h6, i6, j6, k6, l6, m6, n6, o6, q6, s6, t6, u6, w6, x6, y6, z6, a7, c7, f7, h7, i7, j7, k7, l7, m7, n7, ()), (m3, n3, o3, q3, s3, t3, u3, w3, x3, y3, z3, a4, c4, f4, h4, i4, j4, k4, l4, m4, n4, o4, q4, s4, t4, u4, w4, x4, y4, z4, a5, c5, f5, ()), ())) fun ⟨_, t7⟩ =>
 bif !t7 then
 inrO (some ((), false))
 else
 bif decide (List.length n3 = List.length n3) then
 bif decide (List.length s3 = List.length s3) then
 bif decide (List.length t3 = List.length t3) then
 bif decide (List.length z3 = List.length z3) then
 bif decide (List.length l4 = List.length l4) then
 some (.inl ((IntKind.wrap .i64 (s1 + (1 : Int)), ()), ((m3, n3, o3, q3, s3, t3, u3, w3, x3, y3, z3, a4, c4, f4, h4, i4, j4, k4, l4, m4, n4, o4, q4, s4, t4, u4, w4, x4, y4, z4, a5, c5, f5, ()), ())))
 else none
 else none
 else none
 else none
 else none
 else none
 else none
 else none
 else none
 else none
 else none
 else none
 else none
 else none
 else none
 else none
 else none
 else none
 else none
 else none
 else none
 else none
 else
 inrO (some ((), true)))
 (((0 : Int), ()), ((x, y, z, a0, c0, f0, h0, i0, j0, k0, l0, m0, n0, o0, q0, s0, t0, u0, w0, x0, y0, z0, a1, c1, f1, h1, i1, j1, k1, l1, m1, n1, o1, ()), ()))
 else none
def e8 (fu : Nat) : Ent := ⟨8, (.cons (.hole (.int .i64)) (.cons (.hole (.sl (.int .i64))) (.cons (.hole (.sl T_api_ClientInput)) (.cons Y17 .nil)))), .nil, (.hole .bool), p8 fu⟩
def d8 (fu : Nat) : DC := (.seq (.region [opD 7 (.box 48 12 (tD 3)), opD 8 (.mov (.const vB))] [[], []] false) (.seq (.region [oqD 20 (.call 9 []) (.ent (e9 fu)), mvD 9 20] [[], [0, 0, 0]] false) (.seq (.region [mvD 22 0, mvD 23 1, oqD 24 (.call 10 [(tD 22), (tD 23), (.const (.int .u64 9))]) (.ent (e10 fu)), mvD 21 24, opD 25 (.ext (tD 21) 0), opD 26 (.ext (tD 21) 1), opD 10 (.alloc 35 33 [vI, vS, vU, vU, vS, vS, vB, vI, vT, vT, vS, vU, vI, vT, vI, vU, vU, vT, vS, vU, vU, vT, vI, vI, vU, vI, vU, vB, vU, vI, vI, vB, vI]), onD (.store 33 (tD 10) (tD 25)), mvD 11 26] [[], [], [0, 1], [2], [3], [3], [], [6, 4, 2, 0, 1, 2, 3, 4, 6], [5, 7, 0, 1, 2, 3, 4, 5, 6, 7]] false) (.seq (.seq (.region [mvD 27 9, opD 28 (.not (tD 27)), mvD 29 28, ogD 30 29 false (.mov (tD 11)), ogD 31 29 false (.bin .neq (tD 30) (cD 0)), opD 32 (.pick (tD 29) (.const (.bool true)) (tD 31))] [[], [0], [1], [2], [3, 2], [2, 4]] false) (.cond (.tmp 32) (.seq (.region [mvD 33 9, mvD 8 33] [[], [0, 0]] false) .ret) .skip)) (.seq (.seq (.region [opD 12 (.mov (cD 0))] [[]] false) (.block 0 (.loop ⟨[12], (.cons (.hole (.int .i64)) .nil), [(160, 35, 33)], (.cons Y14 .nil), [2, 7, 10], [0]⟩
 (.seq (.seq (.region [mvD 34 12, mvD 35 2, opD 36 (.len false (tD 35)), opD 37 (.bin .lss (tD 34) (tD 36))] [[], [], [1], [0, 2]] false) (.cond (.tmp 37) .skip (.exit 0))) (.seq (.block 1 (.seq (.region [opD 41 (.load true 33 (tD 10)), mvD 42 2, mvD 43 12, opD 44 (.iaddr 32 (tD 42) (tD 43)), opD 45 (.load true 32 (tD 44)), oqD 46 (.call 16 [(tD 41), (tD 45)]) (.ent (e16 fu)), mvD 40 46, opD 47 (.ext (tD 40) 0), opD 48 (.ext (tD 40) 1), opD 49 (.ext (tD 40) 2), opD 13 (.alloc 35 33 [vI, vS, vU, vU, vS, vS, vB, vI, vT, vT, vS, vU, vI, vT, vI, vU, vU, vT, vS, vU, vU, vT, vI, vI, vU, vI, vU, vB, vU, vI, vI, vB, vI]), opD 14 (.alloc 60 41 [vB, vI, vU, vI, vU, vI, vU, vU, vU, vT, vS, vU, vI, vT, vU, vI, vU, vU, vT, vS, vU, vU, vT, vI, vI, vU, vI, vT, vB, vU, vI, vI, vI, vU, vB, vS, vU, vS, vU, vU, vU]), onD (.store 33 (tD 13) (tD 47)), onD (.store 41 (tD 14) (tD 48)), mvD 15 49] [[], [], [], [1, 2], [3], [0, 4], [5], [6], [6], [6], [], [], [10, 7, 5, 0, 1, 2, 3, 4, 5, 6, 7, 10, 11], [11, 8, 12, 0, 1, 2, 3, 4, 5, 6, 7, 8, 10, 11, 12], [9, 13, 0, 1, 2, 3, 4, 5, 6, 7, 8, 9, 10, 11, 12, 13]] true) (.seq (.region [opD 50 (.load true 33 (tD 13)), onD (.store 33 (tD 10) (tD 50))] [[], [0, 0]] false) (.seq (.region [opD 51 (.load true 12 (tD 7)), opD 16 (.alloc 48 12 [vU, vI, vI, vI, vU, vB, vS, vU, vS, vU, vU, vU]), onD (.store 12 (tD 16) (tD 51))] [[], [], [1, 0, 0, 1]] false) (.join ⟨[], .nil, [(672, 48, 12)], (.cons Y17 .nil), [2, 7, 10, 12, 16], [0, 160, 464, 465, 466, 467, 468]⟩
 (.seq (.region [opD 52 (.faddr 0 (tD 16)), opD 53 (.load false 1 (tD 52)), opD 54 (.faddr 26 (tD 10)), opD 55 (.load false 1 (tD 54)), opD 56 (.bin .eql (tD 53) (tD 55))] [[], [0], [], [2], [1, 3]] false) (.cond (.tmp 56) (.region [opD 57 (.faddr 0 (tD 16)), opD 58 (.load false 1 (tD 57)), opD 59 (.bin .add (tD 58) (.const (.int .u64 1))), opD 60 (.faddr 0 (tD 16)), onD (.store 1 (tD 60) (tD 59))] [[], [0], [1], [0, 1, 2], [3, 2, 0, 1, 2]] false) .skip))
 (.seq (.region [opD 62 (.load true 33 (tD 10)), opD 63 (.load true 12 (tD 16)), opD 64 (.build 32 [vI, vI, vT, vT, vS, vU, vI, vT, vI, vU, vU, vT, vS, vU, vU, vT, vI, vI, vU, vI, vU, vI, vI, vI, vU, vB, vS, vU, vS, vU, vU, vU] [(0, (1, (cD 2))), (20, (12, (tD 63)))]), oqD 65 (.call 16 [(tD 62), (tD 64)]) (.ent (e16 fu)), mvD 61 65, opD 66 (.ext (tD 61) 0), opD 67 (.ext (tD 61) 1), opD 68 (.ext (tD 61) 2), opD 17 (.alloc 35 33 [vI, vS, vU, vU, vS, vS, vB, vI, vT, vT, vS, vU, vI, vT, vI, vU, vU, vT, vS, vU, vU, vT, vI, vI, vU, vI, vU, vB, vU, vI, vI, vB, vI]), opD 18 (.alloc 60 41 [vB, vI, vU, vI, vU, vI, vU, vU, vU, vT, vS, vU, vI, vT, vU, vI, vU, vU, vT, vS, vU, vU, vT, vI, vI, vU, vI, vT, vB, vU, vI, vI, vI, vU, vB, vS, vU, vS, vU, vU, vU]), onD (.store 33 (tD 17) (tD 66)), onD (.store 41 (tD 18) (tD 67)), mvD 19 68] [[], [], [1], [0, 2], [3], [4], [4], [4], [], [], [8, 5, 3, 0, 1, 2, 3, 4, 5, 8, 9], [9, 6, 10, 0, 1, 2, 3, 4, 5, 6, 8, 9, 10], [7, 11, 0, 1, 2, 3, 4, 5, 6, 7, 8, 9, 10, 11]] false) (.seq (.region [mvD 69 19, opD 70 (.bin .neq (tD 69) (cD 0)), mvD 71 70, ogD 72 71 false (.faddr 0 (tD 18)), ogD 73 71 false (.load false 1 (tD 72)), opD 74 (.pick (tD 71) (.const (.bool true)) (tD 73)), mvD 75 74, ogD 76 75 false (.faddr 28 (tD 18)), ogD 77 75 false (.load false 1 (tD 76)), opD 78 (.pick (tD 75) (.const (.bool true)) (tD 77)), mvD 79 78, ogD 80 79 false (.load true 33 (tD 17)), ogD 81 79 false (.load true 33 (tD 10)), (⟨(some 82), (some (79, false)), (.call 12 [(tD 80), (tD 81)])⟩, (.ent (e12 fu))), ogD 83 79 false (.not (tD 82)), opD 84 (.pick (tD 79) (.const (.bool true)) (tD 83))] [[], [0], [1], [2], [3, 2], [2, 4], [5, 2], [6], [7, 6], [6, 8], [9, 6], [10], [10], [11, 12, 10, 10], [13, 10], [10, 14]] false) (.cond (.tmp 84) (.seq (.region [opD 8 (.mov (.const vB))] [[]] false) .ret) .skip)))))))) (.region [mvD 38 12, opD 39 (.bin .add (tD 38) (cD 1)), mvD 12 39] [[], [0], [1, 0, 1]] false)))))) (.seq (.region [opD 8 (.mov (.const (.bool true)))] [[]] false) .ret))))))
set_option maxRecDepth 1000000 in
theorem v8 (fu : Nat) : evF fu (d8 fu) rs8 85 (e8 fu).ash (e8 fu).osh (e8 fu).vsh = p8 fu := by kernel_rfl
set_option maxRecDepth 1000000 in
theorem b8 (fu : Nat) : BodyD Try.prog 8 85 (d8 fu).erase rs8 := bodyD_mk Try.func8 (by kernel_rfl) (by kernel_rfl) (by kernel_rfl) (by kernel_rfl)
theorem g8 (fu : Nat) : (e8 fu).Good Try.prog := good_by orders (b8 fu) (l := [e9 fu, e10 fu, e16 fu, e16 fu, e12 fu]) (by kernel_rfl) ⟨g9 fu, g10 fu, g16 fu, g16 fu, g12 fu, trivial⟩ (by kernel_rfl) (v8 fu)
end Go.Proofs.Ytiiodikdbkpjjaa
