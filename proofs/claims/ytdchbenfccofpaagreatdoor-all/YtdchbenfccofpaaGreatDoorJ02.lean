/- Own texts of the theorem in YtdchbenfccofpaaGreatDoorWAlY, part 02. -/
import Derived.Test.YtdchbenfccofpaaGreatDoorJ01
import Derived.Deep.DeepCutAuto
import Derived.BigQuiet
import Derived.Deep.RegionHeld3
set_option maxRecDepth 100000
set_option maxHeartbeats 4000000
namespace Go.Proofs.YtdchbenfccofpaaGreatDoor
open Go.RowKit Db
theorem refLess_any (a b : Int) (w : World) (ha : inR a = true) (hb : inR b = true) :
  Calls Tryz.prog 163 #[.int .i64 a, .int .i64 b] w fun e w' => ∃ s, e = .returned (.tuple #[.int .i64 s, .bool (inR (a - b))]) ∧ Is (a - b) s ∧ w' = w := by
 obtain ⟨a0, a1⟩ := inR_iff.1 ha
 obtain ⟨b0, b1⟩ := inR_iff.1 hb
 by_cases hbl : b = -9223372036854775808
 ·subst hbl
  obtain ⟨r, hr⟩ : ∃ r, inR (a - -9223372036854775808) = r := ⟨_, rfl⟩
  obtain ⟨s, hs⟩ : ∃ s, IntKind.i64.wrap (a - -9223372036854775808) = s := ⟨_, rfl⟩
  have HI : Hid (Is (a - -9223372036854775808) s) := fun h => by rw [← hs, wrapIn h]
  have Hk : Hid (r = decide (a < 0)) := by
   show _ = _
   cases r with
   | true => have := inR_iff.1 hr; rw [eq_comm]; simp; omega
   | false => have := inR_no.1 hr; rw [eq_comm]; simp; omega
  have hs2 : IntKind.i64.wrap (a + 9223372036854775808) = s := by rw [← hs]; congr 1
  rw [hr]
  clear hr ha hb
  go_enter Tryz.func163, Tryz.ntmps163
  go_wp2_with fail
  go_ret2
  exact ⟨s, retP rfl Hk.u.symm, HI.u, rfl⟩
 ·have hne : (b == -9223372036854775808) = false := by simpa using hbl
  have hnb : inR (-b) = true := inR_iff.2 ⟨by omega, by omega⟩
  have hw : IntKind.i64.wrap (-b) = -b := wrapIn hnb
  have Hs := hI (refSum_any a (-b) w ha hnb)
  rw [show a - b = a + -b by omega]
  obtain ⟨r, hr⟩ : ∃ r, inR (a + -b) = r := ⟨_, rfl⟩
  obtain ⟨v, hv⟩ : ∃ v, a + -b = v := ⟨_, rfl⟩
  rw [hv] at Hs hr ⊢
  rw [hr] at Hs ⊢
  clear hr hv ha hb hnb
  go_enter Tryz.func163, Tryz.ntmps163
  go_wp2_with fail
  refine Hs.u.mono ?_
  rintro e w1 ⟨s, rfl, hi, rfl⟩
  have Hi := hI hi
  clear hi
  go_wp2_with fail
  go_ret2
  exact ⟨s, rfl, Hi.u, rfl⟩
def sg (neg : Bool) (u : Nat) : Int := if neg then -(u : Int) else u
theorem signed_any (u : Nat) (neg : Bool) (w : World) (hu : u < 18446744073709551616) :
  Calls Tryz.prog 159 #[.int .u64 (u : Int), .bool neg] w fun e w' => ∃ s, e = .returned (.tuple #[.int .i64 s, .bool (inR (sg neg u))]) ∧ Is (sg neg u) s ∧ w' = w := by
 obtain ⟨c, hc⟩ : ∃ c, IntKind.i64.wrap (u : Int) = c := ⟨_, rfl⟩
 obtain ⟨r, hr⟩ : ∃ r, inR (sg neg u) = r := ⟨_, rfl⟩
 rw [hr]
 cases neg with
 | true =>
  obtain ⟨d, hd⟩ : ∃ d, IntKind.i64.wrap (-c) = d := ⟨_, rfl⟩
  have Hk : Hid (r = decide ((u : Int) ≤ 9223372036854775808)) := by
   show _ = _
   unfold sg at hr
   simp only [if_true] at hr
   cases r with
   | true => have := inR_iff.1 hr; rw [eq_comm, decide_eq_true_iff]; omega
   | false => have := inR_no.1 hr; rw [eq_comm, decide_eq_false_iff_not]; omega
  have HI : Hid (Is (sg true u) d) := by
   intro h
   have h2 := inR_iff.1 h
   unfold sg at h2 ⊢
   simp only [if_true] at h2 ⊢
   rw [← hd, ← hc, IntKind.wrap_i64, IntKind.wrap_i64]
   omega
  have hmost : IntKind.u64.wrap ((9223372036854775807 : Int) + 1) = 9223372036854775808 := by decide
  clear hr
  go_enter Tryz.func159, Tryz.ntmps159
  go_wp2_with fail
  go_ret2
  exact ⟨d, retP rfl (by rw [Hk.u]), HI.u, rfl⟩
 | false =>
  have Hk : Hid (r = decide ((u : Int) ≤ 9223372036854775807)) := by
   show _ = _
   unfold sg at hr
   simp only [Bool.false_eq_true, if_false] at hr
   cases r with
   | true => have := inR_iff.1 hr; rw [eq_comm, decide_eq_true_iff]; omega
   | false => have := inR_no.1 hr; rw [eq_comm, decide_eq_false_iff_not]; omega
  have HI : Hid (Is (sg false u) c) := by
   intro h
   have h2 := inR_iff.1 h
   unfold sg at h2 ⊢
   simp only [Bool.false_eq_true, if_false] at h2 ⊢
   rw [← hc, IntKind.wrap_i64]
   omega
  clear hr
  go_enter Tryz.func159, Tryz.ntmps159
  go_wp2_with fail
  go_ret2
  exact ⟨c, retP rfl (by rw [Hk.u]), HI.u, rfl⟩
theorem prod_halves {u v : Nat} (h : u / 4294967296 = 0 ∨ v / 4294967296 = 0) : u * v = (u / 4294967296 * (v % 4294967296) + u % 4294967296 * (v / 4294967296)) * 4294967296 + u % 4294967296 * (v % 4294967296) := by
 have hu := Nat.div_add_mod u 4294967296
 have hv := Nat.div_add_mod v 4294967296
 rcases h with h | h
 ·rw [h] at hu ⊢
  have : u % 4294967296 = u := by omega
  rw [this]
  conv => lhs; rw [← hv]
  rw [Nat.mul_add, Nat.zero_mul, Nat.zero_add, Nat.mul_comm 4294967296 (v / 4294967296), ← Nat.mul_assoc]
 ·rw [h] at hv ⊢
  have : v % 4294967296 = v := by omega
  rw [this]
  conv => lhs; rw [← hu]
  rw [Nat.add_mul, Nat.mul_zero, Nat.add_zero, Nat.mul_comm 4294967296 (u / 4294967296), Nat.mul_assoc, Nat.mul_comm 4294967296 v, ← Nat.mul_assoc]
theorem prod_big {u v : Nat} (h : 0 < u / 4294967296) (k : 0 < v / 4294967296) : 18446744073709551616 ≤ u * v := by
 have h1 : 4294967296 ≤ u := by omega
 have h2 : 4294967296 ≤ v := by omega
 have := Nat.mul_le_mul h1 h2
 omega
theorem mul_lt_half {a b : Nat} (ha : a < 4294967296) (hb : b < 4294967296) : a * b ≤ 18446744065119617025 := by
 have := Nat.mul_le_mul (Nat.le_of_lt_succ ha) (Nat.le_of_lt_succ hb)
 omega
theorem wrapU {v : Int} (h0 : 0 ≤ v) (h1 : v < 18446744073709551616) : IntKind.u64.wrap v = v := by
 unfold IntKind.wrap
 simp [IntKind.bits, IntKind.signed]
 omega
theorem product_any (u v : Nat) (w : World) (hu : u < 18446744073709551616) (hv : v < 18446744073709551616) :
  Calls Tryz.prog 194 #[.int .u64 (u : Int), .int .u64 (v : Int)] w fun e w' => ∃ p : Nat, e = .returned (.tuple #[.int .u64 (p : Int), .bool (decide (u * v < 18446744073709551616))]) ∧ (u * v < 18446744073709551616 → p = u * v) ∧ ∃ n, w' = w.drewN n := by
 obtain ⟨u1, hu1⟩ : ∃ u1, u / 4294967296 = u1 := ⟨_, rfl⟩
 obtain ⟨u0, hu0⟩ : ∃ u0, u % 4294967296 = u0 := ⟨_, rfl⟩
 obtain ⟨v1, hv1⟩ : ∃ v1, v / 4294967296 = v1 := ⟨_, rfl⟩
 obtain ⟨v0, hv0⟩ : ∃ v0, v % 4294967296 = v0 := ⟨_, rfl⟩
 have e1 : (u : Int) / 4294967296 = (u1 : Int) := by omega
 have e2 : (u : Int) % 4294967296 = (u0 : Int) := by omega
 have e3 : (v : Int) / 4294967296 = (v1 : Int) := by omega
 have e4 : (v : Int) % 4294967296 = (v0 : Int) := by omega
 have l0 : u0 < 4294967296 := by omega
 have l1 : u1 < 4294967296 := by omega
 have l2 : v0 < 4294967296 := by omega
 have l3 : v1 < 4294967296 := by omega
 obtain ⟨r, hr⟩ : ∃ r, decide (u * v < 18446744073709551616) = r := ⟨_, rfl⟩
 have Hph := hI (prod_halves (u := u) (v := v))
 have Hpb := hI (prod_big (u := u) (v := v))
 rw [hu1, hu0, hv1, hv0] at Hph
 rw [hu1, hv1] at Hpb
 by_cases hbig : 0 < u1 ∧ 0 < v1
 ·obtain ⟨h1, h2⟩ := hbig
  have Hb := hI (Hpb.u h1 h2)
  have hr0 : decide (u * v < 18446744073709551616) = false := by have := Hb.u; simp; omega
  rw [hr0]
  have d1 : decide ((0 : Int) < (u1 : Int)) = true := by simp; omega
  have d2 : decide ((0 : Int) < (v1 : Int)) = true := by simp; omega
  clear hu1 hu0 hv1 hv0 hr Hph Hpb hr0
  go_enter Tryz.func194, Tryz.ntmps194
  go_wp2_with fail
  go_ret2
  exact ⟨0, rfl, fun h => by have := Hb.u; omega, 0, rfl⟩
 ·have hz : u1 = 0 ∨ v1 = 0 := by omega
  have Huv := hI (Hph.u hz)
  obtain ⟨m1, hm1⟩ : ∃ m1, u1 * v0 = m1 := ⟨_, rfl⟩
  obtain ⟨m2, hm2⟩ : ∃ m2, u0 * v1 = m2 := ⟨_, rfl⟩
  obtain ⟨low, hlow⟩ : ∃ low, u0 * v0 = low := ⟨_, rfl⟩
  have b1 : m1 ≤ 18446744065119617025 := by rw [← hm1]; exact mul_lt_half l1 l2
  have b2 : m2 ≤ 18446744065119617025 := by rw [← hm2]; exact mul_lt_half l0 l3
  have b3 : low ≤ 18446744065119617025 := by rw [← hlow]; exact mul_lt_half l0 l2
  have hzz : m1 = 0 ∨ m2 = 0 := by
   rcases hz with rfl | rfl
   ·left; rw [← hm1, Nat.zero_mul]
   ·right; rw [← hm2, Nat.mul_zero]
  rw [hm1, hm2, hlow] at Huv
  have w1 : IntKind.u64.wrap ((u1 : Int) * (v0 : Int)) = (m1 : Int) := by rw [← Int.natCast_mul, hm1]; exact wrapU (by omega) (by omega)
  have w2 : IntKind.u64.wrap ((u0 : Int) * (v1 : Int)) = (m2 : Int) := by rw [← Int.natCast_mul, hm2]; exact wrapU (by omega) (by omega)
  have w4 : IntKind.u64.wrap ((u0 : Int) * (v0 : Int)) = (low : Int) := by rw [← Int.natCast_mul, hlow]; exact wrapU (by omega) (by omega)
  obtain ⟨mid, hmid⟩ : ∃ mid, m1 + m2 = mid := ⟨_, rfl⟩
  have w3 : IntKind.u64.wrap ((m1 : Int) + (m2 : Int)) = (mid : Int) := by rw [wrapU (by omega) (by omega)]; omega
  rw [hmid] at Huv
  have b4 : mid < 18446744073709551616 := by omega
  have dd : decide (0 < u1) = true ∧ decide (0 < v1) = false ∨ decide (0 < u1) = false := by
   by_cases h : 0 < u1
   ·left; exact ⟨by simp; omega, by simp; omega⟩
   ·right; simp; omega
  rw [hr]
  by_cases hbm : 4294967296 ≤ mid
  ·obtain rfl : r = false := by rw [← hr]; have := Huv.u; simp; omega
   have dm : decide ((4294967296 : Int) ≤ (mid : Int)) = true := by simp; omega
   have dm2 : decide (4294967296 ≤ mid) = true := by simp; omega
   have Hno : Hid (¬ u * v < 18446744073709551616) := by show ¬ _; have := Huv.u; omega
   clear hu1 hu0 hv1 hv0 hr Hph Hpb hm1 hm2 hlow hmid hz hzz hbig
   rcases dd with ⟨d1, d2⟩ | d1
   all_goals
    go_enter Tryz.func194, Tryz.ntmps194
    go_upto_region 6 with fail
    go_quiet (fail)
    go_wp2_with fail
    go_ret2
    exact ⟨0, rfl, fun h => absurd h Hno.u, _, rfl⟩
  ·have dm : decide ((4294967296 : Int) ≤ (mid : Int)) = false := by simp; omega
   have dm2 : decide (4294967296 ≤ mid) = false := by simp; omega
   obtain ⟨mh, hmh⟩ : ∃ mh, mid * 4294967296 = mh := ⟨_, rfl⟩
   have w5 : IntKind.u64.wrap ((mid : Int) * 4294967296) = (mh : Int) := by rw [wrapU (by omega) (by omega)]; omega
   rw [hmh] at Huv
   obtain ⟨al, hal, hsr⟩ : ∃ al : Nat, IntKind.u64.wrap ((mh : Int) + (low : Int)) = (al : Int) ∧ (u * v < 18446744073709551616 ∧ al = u * v ∧ low ≤ al ∧ r = true ∨ ¬ u * v < 18446744073709551616 ∧ al < low ∧ r = false) := by
    have huv := Huv.u
    by_cases hov : mh + low < 18446744073709551616
    ·refine ⟨mh + low, by rw [wrapU (by omega) (by omega)]; omega, .inl ⟨by omega, by omega, by omega, by rw [← hr]; simp; omega⟩⟩
    ·refine ⟨mh + low - 18446744073709551616, ?_, .inr ⟨by omega, by omega, by rw [← hr]; simp; omega⟩⟩
     unfold IntKind.wrap
     simp [IntKind.bits, IntKind.signed]
     omega
   have Hsr := hI hsr
   have dl : decide ((low : Int) ≤ (al : Int)) = r := by
    rcases hsr with ⟨_, _, h, rfl⟩ | ⟨_, h, rfl⟩
    ·simp; omega
    ·simp; omega
   have dl2 : decide (low ≤ al) = r := by rw [← dl]; simp
   clear hu1 hu0 hv1 hv0 hr Hph Hpb hm1 hm2 hlow hmid hz hzz hbig hmh hsr
   rcases dd with ⟨d1, d2⟩ | d1
   all_goals
    go_enter Tryz.func194, Tryz.ntmps194
    go_upto_region 6 with fail
    go_quiet (fail)
    go_upto_region 9 with fail
    go_quiet (fail)
    go_wp2_with fail
    go_ret2
    exact ⟨al, rfl, fun h => by rcases Hsr.u with h1 | h1; exact h1.2.1; exact absurd h h1.1, _, by first | rfl | exact (World.drewN_drewN _ _ _)⟩
theorem mag_any (a : Int) (w : World) (ha : inR a = true) :
  Calls Tryz.prog 86 #[.int .i64 a] w fun e w' => e = .returned (.int .u64 (a.natAbs : Int)) ∧ w' = w := by
 obtain ⟨a0, a1⟩ := inR_iff.1 ha
 obtain ⟨n, hn⟩ : ∃ n, a.natAbs = n := ⟨_, rfl⟩
 rw [hn]
 by_cases h : a < 0
 ·obtain ⟨x, hx⟩ : ∃ x, IntKind.u64.wrap a = x := ⟨_, rfl⟩
  have hx2 : x = 18446744073709551616 + a := by rw [← hx]; unfold IntKind.wrap; simp [IntKind.bits, IntKind.signed]; omega
  have hw2 : IntKind.u64.wrap (-x) = (n : Int) := by rw [hx2]; unfold IntKind.wrap; simp [IntKind.bits, IntKind.signed]; omega
  clear hx2 hn ha
  go_enter Tryz.func86, Tryz.ntmps86
  go_wp2_with fail
  go_ret
  exact ⟨rfl, rfl⟩
 ·have hx : IntKind.u64.wrap a = (n : Int) := by rw [wrapU (by omega) (by omega)]; omega
  clear hn ha
  go_enter Tryz.func86, Tryz.ntmps86
  go_wp2_with fail
  go_ret
  exact ⟨rfl, rfl⟩
theorem sg_mul (a b : Int) : sg ((decide (a < 0)) != (decide (b < 0))) (a.natAbs * b.natAbs) = a * b := by
 have h := Int.natAbs_mul a b
 unfold sg
 rw [← h]
 by_cases ha : a < 0 <;> by_cases hb : b < 0
 ·have : 0 ≤ a * b := Int.mul_nonneg_of_nonpos_of_nonpos (by omega) (by omega)
  simp [ha, hb]; omega
 ·have : a * b ≤ 0 := Int.mul_nonpos_of_nonpos_of_nonneg (by omega) (by omega)
  simp [ha, hb]; omega
 ·have : a * b ≤ 0 := Int.mul_nonpos_of_nonneg_of_nonpos (by omega) (by omega)
  simp [ha, hb]; omega
 ·have : 0 ≤ a * b := Int.mul_nonneg (by omega) (by omega)
  simp [ha, hb]; omega
theorem sg_div (a b : Int) : sg ((decide (a < 0)) != (decide (b < 0))) (a.natAbs / b.natAbs) = a.tdiv b := by
 have hq : (a.tdiv b).natAbs = a.natAbs / b.natAbs := Int.natAbs_tdiv a b
 have h00 : 0 ≤ a → 0 ≤ b → 0 ≤ a.tdiv b := Int.tdiv_nonneg
 have h11 : a < 0 → b < 0 → 0 ≤ a.tdiv b := fun ha hb => by
  rw [show a = -(-a) by omega, show b = -(-b) by omega, Int.neg_tdiv, Int.tdiv_neg, Int.neg_neg]
  exact Int.tdiv_nonneg (by omega) (by omega)
 have h10 : a < 0 → 0 ≤ b → a.tdiv b ≤ 0 := fun ha hb => by
  rw [show a = -(-a) by omega, Int.neg_tdiv]
  have := Int.tdiv_nonneg (a := -a) (b := b) (by omega) (by omega)
  omega
 have h01 : 0 ≤ a → b < 0 → a.tdiv b ≤ 0 := fun ha hb => by
  rw [show b = -(-b) by omega, Int.tdiv_neg]
  have := Int.tdiv_nonneg (a := a) (b := -b) (by omega) (by omega)
  omega
 unfold sg
 rw [← hq]
 obtain ⟨q, hqq⟩ : ∃ q, a.tdiv b = q := ⟨_, rfl⟩
 rw [hqq] at h00 h11 h10 h01 ⊢
 by_cases h1 : a < 0 <;> by_cases h2 : b < 0
 ·have := h11 h1 h2; simp [h1, h2]; omega
 ·have := h10 h1 (by omega); simp [h1, h2]; omega
 ·have := h01 (by omega) h2; simp [h1, h2]; omega
 ·have := h00 (by omega) (by omega); simp [h1, h2]; omega
theorem times_any (a b : Int) (w : World) (ha : inR a = true) (hb : inR b = true) :
  Calls Tryz.prog 164 #[.int .i64 a, .int .i64 b] w fun e w' => ∃ s, e = .returned (.tuple #[.int .i64 s, .bool (inR (a * b))]) ∧ Is (a * b) s ∧ ∃ n, w' = w.drewN n := by
 obtain ⟨a0, a1⟩ := inR_iff.1 ha
 obtain ⟨b0, b1⟩ := inR_iff.1 hb
 have Hm := hI (sg_mul a b)
 have Ha := hI (fun wx => mag_any a wx ha)
 have Hb := hI (fun wx => mag_any b wx hb)
 obtain ⟨u, hu⟩ : ∃ u, a.natAbs = u := ⟨_, rfl⟩
 obtain ⟨v, hv⟩ : ∃ v, b.natAbs = v := ⟨_, rfl⟩
 have lu : u < 18446744073709551616 := by omega
 have lv : v < 18446744073709551616 := by omega
 have Hp := hI (fun wx => product_any u v wx lu lv)
 rw [hu] at Ha Hm
 rw [hv] at Hb Hm
 obtain ⟨p, hp⟩ : ∃ p, u * v = p := ⟨_, rfl⟩
 rw [hp] at Hp Hm
 obtain ⟨c, hc⟩ : ∃ c, a * b = c := ⟨_, rfl⟩
 rw [hc] at Hm ⊢
 obtain ⟨ok, hok⟩ : ∃ ok, decide (p < 18446744073709551616) = ok := ⟨_, rfl⟩
 rw [hok] at Hp
 obtain ⟨na, hna⟩ : ∃ na, decide (a < 0) = na := ⟨_, rfl⟩
 obtain ⟨nb, hnb⟩ : ∃ nb, decide (b < 0) = nb := ⟨_, rfl⟩
 rw [hna, hnb] at Hm
 obtain ⟨ng, hng⟩ : ∃ ng, (na != nb) = ng := ⟨_, rfl⟩
 rw [hng] at Hm
 clear ha hb hu hv hp hc
 have hng2 : (!(na == nb)) = ng := by rw [← hng]; cases na <;> cases nb <;> rfl
 cases ok with
 | true =>
  have hlt : p < 18446744073709551616 := by simpa using hok
  have Hs := hI (fun wx => signed_any p ng wx hlt)
  have Hpe : Hid (∀ k : Nat, (p < 18446744073709551616 → k = p) → k = p) := fun k h => h hlt
  rw [Hm.u] at Hs
  obtain ⟨r, hr⟩ : ∃ r, inR c = r := ⟨_, rfl⟩
  rw [hr] at Hs ⊢
  clear hr hok
  go_enter Tryz.func164, Tryz.ntmps164
  go_wp2_with fail
  refine (Ha.u _).mono ?_
  rintro e w1 ⟨rfl, rfl⟩
  go_wp2_with fail
  refine (Hb.u _).mono ?_
  rintro e w2 ⟨rfl, rfl⟩
  go_wp2_with fail
  refine (Hp.u _).mono ?_
  rintro e w3 ⟨k, rfl, hk, n, rfl⟩
  obtain rfl := Hpe.u k hk
  clear hk
  go_wp2_with fail
  try rw [hng2]
  refine (Hs.u _).mono ?_
  rintro e w4 ⟨s, rfl, hi, rfl⟩
  have Hi := hI hi
  clear hi
  go_wp2_with fail
  go_ret2
  exact ⟨s, rfl, Hi.u, n, rfl⟩
 | false =>
  have Hno : Hid (inR c = false) := by
   show _ = _
   have h1 : ¬ p < 18446744073709551616 := by simpa using hok
   have h2 := Hm.u
   unfold sg at h2
   rw [inR_no]
   cases ng <;> simp at h2 <;> omega
  rw [Hno.u]
  have Hi : Hid (Is c 0) := fun h => by rw [Hno.u] at h; cases h
  clear hok
  go_enter Tryz.func164, Tryz.ntmps164
  go_wp2_with fail
  refine (Ha.u _).mono ?_
  rintro e w1 ⟨rfl, rfl⟩
  go_wp2_with fail
  refine (Hb.u _).mono ?_
  rintro e w2 ⟨rfl, rfl⟩
  go_wp2_with fail
  refine (Hp.u _).mono ?_
  rintro e w3 ⟨k, rfl, hk, n, rfl⟩
  clear hk
  go_wp2_with fail
  go_ret2
  exact ⟨0, rfl, Hi.u, n, rfl⟩
theorem don_x {o : Int} {x y : Cl} (h : (x.2 == 0) = false) : don o x y = x := by unfold don; simp [h]
theorem don_y {o : Int} {x y : Cl} (h : (x.2 == 0) = true) (k : (y.2 == 0) = false) : don o x y = y := by unfold don; simp [h, k]
theorem don_p {a b : Int} : don 43 (a, 0) (b, 0) = chk (a + b) := rfl
theorem don_m {a b : Int} : don 45 (a, 0) (b, 0) = chk (a - b) := rfl
theorem don_t {a b : Int} : don 42 (a, 0) (b, 0) = chk (a * b) := rfl
theorem don_z {o a b : Int} (h1 : (o == 43) = false) (h2 : (o == 45) = false) (h3 : (o == 42) = false) (hb : (b == 0) = true) : don o (a, 0) (b, 0) = (0, 122) := by unfold don; simp [h1, h2, h3, hb]
theorem don_d {o a b : Int} (h1 : (o == 43) = false) (h2 : (o == 45) = false) (h3 : (o == 42) = false) (hb : (b == 0) = false) : don o (a, 0) (b, 0) = chk (a.tdiv b) := by unfold don; simp [h1, h2, h3, hb]
theorem chk_yes {v : Int} (h : inR v = true) : chk v = (v, 0) := by unfold chk; rw [if_pos h]
theorem chk_no {v : Int} (h : inR v = false) : chk v = (0, 111) := by unfold chk; rw [if_neg (by simp [h])]
theorem three_new (w : World) (A B C : Array Value) (T : TypeId) : ∃ W, ((w.alloc (.cells A T)).alloc (.cells B T)).alloc (.cells C T) = W ∧ Blk W w.heap.size A T ∧ Blk W (w.heap.size + 1) B T ∧ Blk W (w.heap.size + 1 + 1) C T ∧ Below w.heap.size w W ∧ W.heap.size = w.heap.size + 3 := by
 refine ⟨_, rfl, ((Blk.new w A T).alloc _).alloc _, ?_, ?_, (((Below.refl _ _).alloc (Nat.le_refl _) _).alloc (by simp) _).alloc (by simp; omega) _, by simp⟩
 ·simpa using (Blk.new (w.alloc (.cells A T)) B T).alloc (.cells C T)
 ·simpa using Blk.new ((w.alloc (.cells A T)).alloc (.cells B T)) C T
theorem signed_det (u : Nat) (neg : Bool) (w : World) (hu : u < 18446744073709551616) (s : Int) (r : Bool) (hs : IntKind.i64.wrap (sg neg u) = s) (hr : inR (sg neg u) = r) :
  Calls Tryz.prog 159 #[.int .u64 (u : Int), .bool neg] w fun e w' => e = .returned (.tuple #[.int .i64 s, .bool r]) ∧ w' = w := by
 obtain ⟨c, hc⟩ : ∃ c, IntKind.i64.wrap (u : Int) = c := ⟨_, rfl⟩
 cases neg with
 | true =>
  have hd : IntKind.i64.wrap (-c) = s := by
   rw [← hs, ← hc]
   unfold sg
   simp only [if_true]
   rw [IntKind.wrap_i64, IntKind.wrap_i64, IntKind.wrap_i64]
   omega
  have Hk : Hid (r = decide ((u : Int) ≤ 9223372036854775808)) := by
   show _ = _
   unfold sg at hr
   simp only [if_true] at hr
   cases r with
   | true => have := inR_iff.1 hr; rw [eq_comm, decide_eq_true_iff]; omega
   | false => have := inR_no.1 hr; rw [eq_comm, decide_eq_false_iff_not]; omega
  have hmost : IntKind.u64.wrap ((9223372036854775807 : Int) + 1) = 9223372036854775808 := by decide
  clear hr hs
  go_enter Tryz.func159, Tryz.ntmps159
  go_wp2_with fail
  go_ret2
  exact ⟨retP rfl (by rw [Hk.u]), rfl⟩
 | false =>
  have hc2 : IntKind.i64.wrap (u : Int) = s := by
   rw [← hs]; rfl
  have Hk : Hid (r = decide ((u : Int) ≤ 9223372036854775807)) := by
   show _ = _
   unfold sg at hr
   simp only [Bool.false_eq_true, if_false] at hr
   cases r with
   | true => have := inR_iff.1 hr; rw [eq_comm, decide_eq_true_iff]; omega
   | false => have := inR_no.1 hr; rw [eq_comm, decide_eq_false_iff_not]; omega
  clear hr hs hc
  go_enter Tryz.func159, Tryz.ntmps159
  go_wp2_with fail
  go_ret2
  exact ⟨retP rfl (by rw [Hk.u]), rfl⟩
def clV (c : Cl) : Value := .agg #[.int .i64 c.1, .int .u8 c.2]
theorem mag_det (c : Int) (n : Nat) (w : World) (hc : inR c = true) (hn : c.natAbs = n) :
  Calls Tryz.prog 86 #[.int .i64 c] w fun e w' => e = .returned (.int .u64 (n : Int)) ∧ w' = w := by
 rw [← hn]; exact mag_any c w hc
theorem done_div (o a b : Int) (w : World) (hx : inR a = true) (hy : inR b = true) (e43 : (o == 43) = false) (e45 : (o == 45) = false) (e42 : (o == 42) = false) (hb0 : (b == 0) = false) :
  Calls Tryz.prog 119 #[.int .u8 o, .agg #[.int .i64 a, .int .u8 0], .agg #[.int .i64 b, .int .u8 0]] w fun e w' => e = .returned (clV (don o (a, 0) (b, 0))) ∧ Below w.heap.size w w' := by
 obtain ⟨W, hW, B1, B2, B3, hb, hWs⟩ := three_new w #[.int .i64 a, .int .u8 0] #[.int .i64 b, .int .u8 0] #[.int .i64 0, .int .u8 0] 139
 have p0 := B1.cell 0
 have p1 := B1.cell 1
 have q0 := B2.cell 0
 have q1 := B2.cell 1
 have r0 := B3.cell 0
 have r1 := B3.cell 1
 have z0 := B3.frozen 0
 have z1 := B3.frozen 1
 have l3 := B3.lt
 simp only [List.getElem?_toArray, List.getElem?_cons_zero, List.getElem?_cons_succ] at p0 p1 q0 q1 r0 r1
 have Hb := hI hb
 clear B1 B2 B3 hb
 obtain ⟨d, hd⟩ : ∃ d, don o (a, 0) (b, 0) = d := ⟨_, rfl⟩
 rw [hd]
 have Hd := hI hd
 clear hd
 unfold clV
 have hdd := Hd.u.symm.trans (don_d e43 e45 e42 hb0)
 have Hdv := hI (sg_div a b)
 obtain ⟨a0, a1⟩ := inR_iff.1 hx
 obtain ⟨b0, b1⟩ := inR_iff.1 hy
 have hbz : ¬ b = 0 := by simpa using hb0
 obtain ⟨u, hu⟩ : ∃ u, a.natAbs = u := ⟨_, rfl⟩
 obtain ⟨v, hv⟩ : ∃ v, b.natAbs = v := ⟨_, rfl⟩
 rw [hu] at Hdv
 rw [hv] at Hdv
 have lv : 0 < v := by omega
 have lu : u < 18446744073709551616 := by omega
 obtain ⟨k, hk⟩ : ∃ k, u / v = k := ⟨_, rfl⟩
 have lk : k < 18446744073709551616 := by rw [← hk]; exact Nat.lt_of_le_of_lt (Nat.div_le_self u v) lu
 have hquo : (u : Int) / (v : Int) = (k : Int) := by rw [← hk]; simp
 have hvne : ((v : Int) == 0) = false := by simp; omega
 rw [hk] at Hdv
 obtain ⟨na, hna⟩ : ∃ na, decide (a < 0) = na := ⟨_, rfl⟩
 obtain ⟨nb, hnb⟩ : ∃ nb, decide (b < 0) = nb := ⟨_, rfl⟩
 rw [hna, hnb] at Hdv
 obtain ⟨ng, hng⟩ : ∃ ng, (na != nb) = ng := ⟨_, rfl⟩
 rw [hng] at Hdv
 have hng2 : (!(na == nb)) = ng := by rw [← hng]; cases na <;> cases nb <;> rfl
 obtain ⟨q, hq⟩ : ∃ q, a.tdiv b = q := ⟨_, rfl⟩
 rw [hq] at Hdv hdd
 obtain ⟨s, hs⟩ : ∃ s, IntKind.i64.wrap q = s := ⟨_, rfl⟩
 obtain ⟨r, hr⟩ : ∃ r, inR q = r := ⟨_, rfl⟩
 have Hs := hI (fun wx => signed_det k ng wx lk s r (by rw [Hdv.u]; exact hs) (by rw [Hdv.u]; exact hr))
 have Hsq : Hid (r = true → s = q) := fun h => by rw [← hs, wrapIn (by rw [hr]; exact h)]
 have Hx := hI hx
 have Hy := hI hy
 have Hu := hI hu
 have Hv := hI hv
 clear hu hv hk hq hng hs hx hy
 cases r with
 | true =>
  rw [chk_yes hr] at hdd
  obtain rfl := Hsq.u rfl
  subst hdd
  clear hr
  go_enter Tryz.func119, Tryz.ntmps119
  go_upto_region 10 with fail
  try rw [hW]
  go_quiet (first | (go_at_call 86; exact Calls.quiet_of_same (mag_det _ _ _ (by first | exact Hx.u | exact Hy.u) (by first | exact Hu.u | exact Hv.u))) | (go_at_call 159; exact Calls.quiet_of_same (Hs.u _)))
  go_wp2_with fail
  refine bodyPost_ret (v := .agg #[.int .i64 s, .int .u8 0]) (by simp [results, Tryz.results119, go_sem, r0, r1]) rfl ⟨rfl, ?_⟩
  exact ((Hb.u.drewN _).setCell (by simp; omega) _).setCell (by simp; omega) _
 | false =>
  rw [chk_no hr] at hdd
  subst hdd
  clear hr
  go_enter Tryz.func119, Tryz.ntmps119
  go_upto_region 10 with fail
  try rw [hW]
  go_quiet (first | (go_at_call 86; exact Calls.quiet_of_same (mag_det _ _ _ (by first | exact Hx.u | exact Hy.u) (by first | exact Hu.u | exact Hv.u))) | (go_at_call 159; exact Calls.quiet_of_same (Hs.u _)))
  go_wp2_with fail
  refine bodyPost_ret (v := .agg #[.int .i64 0, .int .u8 111]) (by simp [results, Tryz.results119, go_sem, r0, r1]) rfl ⟨rfl, ?_⟩
  exact ((Hb.u.drewN _).setCell (by simp; omega) _).setCell (by simp; omega) _
theorem done_any (o : Int) (x y : Cl) (w : World) (hx : inR x.1 = true) (hy : inR y.1 = true) :
  Calls Tryz.prog 119 #[.int .u8 o, clV x, clV y] w fun e w' => e = .returned (clV (don o x y)) ∧ Below w.heap.size w w' := by
 obtain ⟨a, ax⟩ := x
 obtain ⟨b, by'⟩ := y
 simp only at hx hy
 obtain ⟨W, hW, B1, B2, B3, hb, hWs⟩ := three_new w #[.int .i64 a, .int .u8 ax] #[.int .i64 b, .int .u8 by'] #[.int .i64 0, .int .u8 0] 139
 have p0 := B1.cell 0
 have p1 := B1.cell 1
 have q0 := B2.cell 0
 have q1 := B2.cell 1
 have r0 := B3.cell 0
 have r1 := B3.cell 1
 have z0 := B3.frozen 0
 have z1 := B3.frozen 1
 have l3 := B3.lt
 simp only [List.getElem?_toArray, List.getElem?_cons_zero, List.getElem?_cons_succ] at p0 p1 q0 q1 r0 r1
 have Hb := hI hb
 clear B1 B2 B3 hb
 obtain ⟨d, hd⟩ : ∃ d, don o (a, ax) (b, by') = d := ⟨_, rfl⟩
 rw [hd]
 have Hd := hI hd
 clear hd
 unfold clV
 simp only
 cases hax : (ax == 0) with
 | false =>
  obtain rfl : d = (a, ax) := Hd.u.symm.trans (don_x hax)
  go_enter Tryz.func119, Tryz.ntmps119
  go_wp2_with fail
  refine bodyPost_ret (v := .agg #[.int .i64 a, .int .u8 ax]) (by simp [results, Tryz.results119, go_sem, r0, r1]) rfl ⟨rfl, ?_⟩
  exact ((Hb.u).setCell (by simp; omega) _).setCell (by simp; omega) _
 | true =>
  obtain rfl : ax = 0 := by simpa using hax
  cases hby : (by' == 0) with
  | false =>
   obtain rfl : d = (b, by') := Hd.u.symm.trans (don_y rfl hby)
   go_enter Tryz.func119, Tryz.ntmps119
   go_wp2_with fail
   refine bodyPost_ret (v := .agg #[.int .i64 b, .int .u8 by']) (by simp [results, Tryz.results119, go_sem, r0, r1]) rfl ⟨rfl, ?_⟩
   exact ((Hb.u).setCell (by simp; omega) _).setCell (by simp; omega) _
  | true =>
   obtain rfl : by' = 0 := by simpa using hby
   clear hax hby
   by_cases h43 : o = 43
   ·subst h43
    have hdd := Hd.u.symm.trans don_p
    obtain ⟨v, hv⟩ : ∃ v, a + b = v := ⟨_, rfl⟩
    have Hs := hI (fun wx => refSum_any a b wx hx hy)
    rw [hv] at Hs hdd
    cases hr : inR v with
    | true =>
     rw [chk_yes hr] at hdd
     subst hdd
     rw [hr] at Hs
     have Hr := hI hr
     clear hr hv
     go_enter Tryz.func119, Tryz.ntmps119
     go_wp2_with fail
     try rw [hW]
     refine (Hs.u _).mono ?_
     rintro e w1 ⟨s, rfl, hi, rfl⟩
     obtain rfl := hi Hr.u
     clear hi
     go_wp2_with fail
     refine bodyPost_ret (v := .agg #[.int .i64 s, .int .u8 0]) (by simp [results, Tryz.results119, go_sem, r0, r1]) rfl ⟨rfl, ?_⟩
     exact ((Hb.u).setCell (by simp; omega) _).setCell (by simp; omega) _
    | false =>
     rw [chk_no hr] at hdd
     subst hdd
     rw [hr] at Hs
     have Hr := hI hr
     clear hr hv
     go_enter Tryz.func119, Tryz.ntmps119
     go_wp2_with fail
     try rw [hW]
     refine (Hs.u _).mono ?_
     rintro e w1 ⟨s, rfl, hi, rfl⟩
     clear hi
     go_wp2_with fail
     refine bodyPost_ret (v := .agg #[.int .i64 0, .int .u8 111]) (by simp [results, Tryz.results119, go_sem, r0, r1]) rfl ⟨rfl, ?_⟩
     exact ((Hb.u).setCell (by simp; omega) _).setCell (by simp; omega) _
   by_cases h45 : o = 45
   ·subst h45
    have hdd := Hd.u.symm.trans don_m
    obtain ⟨v, hv⟩ : ∃ v, a - b = v := ⟨_, rfl⟩
    have Hs := hI (fun wx => refLess_any a b wx hx hy)
    rw [hv] at Hs hdd
    cases hr : inR v with
    | true =>
     rw [chk_yes hr] at hdd
     subst hdd
     rw [hr] at Hs
     have Hr := hI hr
     clear hr hv
     go_enter Tryz.func119, Tryz.ntmps119
     go_wp2_with fail
     try rw [hW]
     refine (Hs.u _).mono ?_
     rintro e w1 ⟨s, rfl, hi, rfl⟩
     obtain rfl := hi Hr.u
     clear hi
     go_wp2_with fail
     refine bodyPost_ret (v := .agg #[.int .i64 s, .int .u8 0]) (by simp [results, Tryz.results119, go_sem, r0, r1]) rfl ⟨rfl, ?_⟩
     exact ((Hb.u).setCell (by simp; omega) _).setCell (by simp; omega) _
    | false =>
     rw [chk_no hr] at hdd
     subst hdd
     rw [hr] at Hs
     have Hr := hI hr
     clear hr hv
     go_enter Tryz.func119, Tryz.ntmps119
     go_wp2_with fail
     try rw [hW]
     refine (Hs.u _).mono ?_
     rintro e w1 ⟨s, rfl, hi, rfl⟩
     clear hi
     go_wp2_with fail
     refine bodyPost_ret (v := .agg #[.int .i64 0, .int .u8 111]) (by simp [results, Tryz.results119, go_sem, r0, r1]) rfl ⟨rfl, ?_⟩
     exact ((Hb.u).setCell (by simp; omega) _).setCell (by simp; omega) _
   by_cases h42 : o = 42
   ·subst h42
    have hdd := Hd.u.symm.trans don_t
    obtain ⟨v, hv⟩ : ∃ v, a * b = v := ⟨_, rfl⟩
    have Hs := hI (fun wx => times_any a b wx hx hy)
    rw [hv] at Hs hdd
    cases hr : inR v with
    | true =>
     rw [chk_yes hr] at hdd
     subst hdd
     rw [hr] at Hs
     have Hr := hI hr
     clear hr hv
     go_enter Tryz.func119, Tryz.ntmps119
     go_wp2_with fail
     try rw [hW]
     refine (Hs.u _).mono ?_
     rintro e w1 ⟨s, rfl, hi, n, rfl⟩
     obtain rfl := hi Hr.u
     clear hi
     go_wp2_with fail
     refine bodyPost_ret (v := .agg #[.int .i64 s, .int .u8 0]) (by simp [results, Tryz.results119, go_sem, r0, r1]) rfl ⟨rfl, ?_⟩
     exact ((Hb.u.drewN _).setCell (by simp; omega) _).setCell (by simp; omega) _
    | false =>
     rw [chk_no hr] at hdd
     subst hdd
     rw [hr] at Hs
     have Hr := hI hr
     clear hr hv
     go_enter Tryz.func119, Tryz.ntmps119
     go_wp2_with fail
     try rw [hW]
     refine (Hs.u _).mono ?_
     rintro e w1 ⟨s, rfl, hi, n, rfl⟩
     clear hi
     go_wp2_with fail
     refine bodyPost_ret (v := .agg #[.int .i64 0, .int .u8 111]) (by simp [results, Tryz.results119, go_sem, r0, r1]) rfl ⟨rfl, ?_⟩
     exact ((Hb.u.drewN _).setCell (by simp; omega) _).setCell (by simp; omega) _
   have e43 : (o == 43) = false := by simpa using h43
   have e45 : (o == 45) = false := by simpa using h45
   have e42 : (o == 42) = false := by simpa using h42
   cases hb0 : (b == 0) with
   | true =>
    obtain rfl : b = 0 := by simpa using hb0
    obtain rfl : d = (0, 122) := Hd.u.symm.trans (don_z e43 e45 e42 rfl)
    go_enter Tryz.func119, Tryz.ntmps119
    go_wp2_with fail
    refine bodyPost_ret (v := .agg #[.int .i64 0, .int .u8 122]) (by simp [results, Tryz.results119, go_sem, r0, r1]) rfl ⟨rfl, ?_⟩
    exact (Hb.u.setCell (by simp; omega) _).setCell (by simp; omega) _
   | false =>
    have h := done_div o a b w hx hy e43 e45 e42 hb0
    rw [Hd.u] at h
    exact h
def gst (b : Int) : Int := if b == 122 then 1 else if b == 111 then 2 else 0
def gV (c : Cl) : Value := .agg #[.int .i64 (gst c.2), .int .i64 c.1]
theorem one_new (w : World) (A : Array Value) (T : TypeId) : ∃ W, w.alloc (.cells A T) = W ∧ Blk W w.heap.size A T ∧ Below w.heap.size w W ∧ W.heap.size = w.heap.size + 1 :=
 ⟨_, rfl, Blk.new w A T, (Below.refl _ _).alloc (Nat.le_refl _) _, by simp⟩
theorem of_any (v : Int) (w : World) :
  Calls Tryz.prog 204 #[.int .i64 v] w fun e w' => e = .returned (.agg #[.int .i64 0, .int .i64 v]) ∧ Below w.heap.size w w' := by
 obtain ⟨W, hW, B, hb, hs⟩ := one_new w #[.int .i64 0, .int .i64 0] 205
 have r0 := B.cell 0
 have r1 := B.cell 1
 have z0 := B.frozen 0
 have z1 := B.frozen 1
 have l3 := B.lt
 simp only [List.getElem?_toArray, List.getElem?_cons_zero, List.getElem?_cons_succ] at r0 r1
 have Hb := hI hb
 clear B hb
 go_enter Tryz.func204, Tryz.ntmps204
 go_wp2_with fail
 refine bodyPost_ret (v := .agg #[.int .i64 0, .int .i64 v]) (by simp [results, Tryz.results204, go_sem, r0, r1]) rfl ⟨rfl, ?_⟩
 exact (Hb.u.setCell (by simp) _).setCell (by simp) _
theorem two_cells {W : World} {n : Nat} {x y : Value} {T : TypeId} (B : Blk W n #[x, y] T) : W.cell? ⟨n, 0, none⟩ = some x ∧ W.cell? ⟨n, 1, none⟩ = some y ∧ W.frozen? ⟨n, 0, none⟩ = false ∧ W.frozen? ⟨n, 1, none⟩ = false ∧ n < W.heap.size :=
 ⟨by rw [B.cell 0]; rfl, by rw [B.cell 1]; rfl, B.frozen 0, B.frozen 1, B.lt⟩
theorem sum_any (a b : Int) (w : World) (ha : inR a = true) (hb : inR b = true) :
  Calls Tryz.prog 206 #[.int .i64 a, .int .i64 b] w fun e w' => e = .returned (gV (chk (a + b))) ∧ Below w.heap.size w w' := by
 obtain ⟨a0, a1⟩ := inR_iff.1 ha
 obtain ⟨b0, b1⟩ := inR_iff.1 hb
 obtain ⟨W, hW, B, hbw, hs⟩ := one_new w #[.int .i64 0, .int .i64 0] 205
 obtain ⟨r0, r1, z0, z1, l3⟩ := two_cells B
 have Hb := hI hbw
 have HB := hI B
 clear B hbw ha hb
 obtain ⟨v, hv⟩ : ∃ v, a + b = v := ⟨_, rfl⟩
 rw [hv]
 obtain ⟨c, hc⟩ : ∃ c, IntKind.i64.wrap (9223372036854775807 - b) = c := ⟨_, rfl⟩
 obtain ⟨d, hd⟩ : ∃ d, IntKind.i64.wrap (-9223372036854775808 - b) = d := ⟨_, rfl⟩
 have hce : 0 < b → c = 9223372036854775807 - b := fun h => by rw [← hc, wrapIn (inR_iff.2 (by omega))]
 have hde : b < 0 → d = -9223372036854775808 - b := fun h => by rw [← hd, wrapIn (inR_iff.2 (by omega))]
 cases hr : inR v with
 | true =>
  have k := inR_iff.1 hr
  rw [chk_yes hr]
  have hwv : IntKind.i64.wrap (a + b) = v := by rw [hv, wrapIn hr]
  clear hr
  rcases Int.lt_trichotomy b 0 with h | h | h
  ·have g1 : ¬ 0 < b := by omega
   have g2 : ¬ a < d := by rw [hde h]; omega
   clear hce hde k hv
   go_enter Tryz.func206, Tryz.ntmps206
   go_wp2_with fail
   try rw [hW]
   clear r0 r1 z0 z1 l3
   refine (of_any v _).mono ?_
   rintro e w1 ⟨rfl, hw1⟩
   have HB1 := hI (HB.u.kept hw1)
   have Hb1 := hI (Hb.u.then' (by omega) hw1)
   clear hw1
   obtain ⟨r0, r1, z0, z1, l3⟩ := two_cells HB1.u
   go_wp2_with fail
   refine bodyPost_ret (v := .agg #[.int .i64 0, .int .i64 v]) (by simp [results, Tryz.results206, go_sem, r0, r1]) rfl ⟨rfl, ?_⟩
   exact (Hb1.u.setCell (by simp) _).setCell (by simp) _
  ·have g1 : ¬ 0 < b := by omega
   have g2 : ¬ b < 0 := by omega
   clear hce hde k hv h
   go_enter Tryz.func206, Tryz.ntmps206
   go_wp2_with fail
   try rw [hW]
   clear r0 r1 z0 z1 l3
   refine (of_any v _).mono ?_
   rintro e w1 ⟨rfl, hw1⟩
   have HB1 := hI (HB.u.kept hw1)
   have Hb1 := hI (Hb.u.then' (by omega) hw1)
   clear hw1
   obtain ⟨r0, r1, z0, z1, l3⟩ := two_cells HB1.u
   go_wp2_with fail
   refine bodyPost_ret (v := .agg #[.int .i64 0, .int .i64 v]) (by simp [results, Tryz.results206, go_sem, r0, r1]) rfl ⟨rfl, ?_⟩
   exact (Hb1.u.setCell (by simp) _).setCell (by simp) _
  ·have g1 : ¬ b < 0 := by omega
   have g2 : ¬ c < a := by rw [hce h]; omega
   clear hce hde k hv
   go_enter Tryz.func206, Tryz.ntmps206
   go_wp2_with fail
   try rw [hW]
   clear r0 r1 z0 z1 l3
   refine (of_any v _).mono ?_
   rintro e w1 ⟨rfl, hw1⟩
   have HB1 := hI (HB.u.kept hw1)
   have Hb1 := hI (Hb.u.then' (by omega) hw1)
   clear hw1
   obtain ⟨r0, r1, z0, z1, l3⟩ := two_cells HB1.u
   go_wp2_with fail
   refine bodyPost_ret (v := .agg #[.int .i64 0, .int .i64 v]) (by simp [results, Tryz.results206, go_sem, r0, r1]) rfl ⟨rfl, ?_⟩
   exact (Hb1.u.setCell (by simp) _).setCell (by simp) _
 | false =>
  rw [chk_no hr]
  have k := inR_no.1 hr
  clear hr
  rcases Int.lt_trichotomy b 0 with h | h | h
  ·have g1 : ¬ 0 < b := by omega
   have g2 : a < d := by rw [hde h]; omega
   clear hce hde k hv
   go_enter Tryz.func206, Tryz.ntmps206
   go_wp2_with fail
   refine bodyPost_ret (v := .agg #[.int .i64 2, .int .i64 0]) (by simp [results, Tryz.results206, go_sem, r0, r1]) rfl ⟨rfl, ?_⟩
   exact (Hb.u.setCell (by simp) _).setCell (by simp) _
  ·exfalso; omega
  ·have g1 : ¬ b < 0 := by omega
   have g2 : c < a := by rw [hce h]; omega
   clear hce hde k hv
   go_enter Tryz.func206, Tryz.ntmps206
   go_wp2_with fail
   refine bodyPost_ret (v := .agg #[.int .i64 2, .int .i64 0]) (by simp [results, Tryz.results206, go_sem, r0, r1]) rfl ⟨rfl, ?_⟩
   exact (Hb.u.setCell (by simp) _).setCell (by simp) _
theorem difference_any (a b : Int) (w : World) (ha : inR a = true) (hb : inR b = true) :
  Calls Tryz.prog 205 #[.int .i64 a, .int .i64 b] w fun e w' => e = .returned (gV (chk (a - b))) ∧ Below w.heap.size w w' := by
 obtain ⟨a0, a1⟩ := inR_iff.1 ha
 obtain ⟨b0, b1⟩ := inR_iff.1 hb
 obtain ⟨W, hW, B, hbw, hs⟩ := one_new w #[.int .i64 0, .int .i64 0] 205
 obtain ⟨r0, r1, z0, z1, l3⟩ := two_cells B
 have Hb := hI hbw
 have HB := hI B
 clear B hbw ha hb
 obtain ⟨v, hv⟩ : ∃ v, a - b = v := ⟨_, rfl⟩
 rw [hv]
 obtain ⟨c, hc⟩ : ∃ c, IntKind.i64.wrap (-9223372036854775808 + b) = c := ⟨_, rfl⟩
 obtain ⟨d, hd⟩ : ∃ d, IntKind.i64.wrap (9223372036854775807 + b) = d := ⟨_, rfl⟩
 have hce : 0 < b → c = -9223372036854775808 + b := fun h => by rw [← hc, wrapIn (inR_iff.2 (by omega))]
 have hde : b < 0 → d = 9223372036854775807 + b := fun h => by rw [← hd, wrapIn (inR_iff.2 (by omega))]
 cases hr : inR v with
 | true =>
  have k := inR_iff.1 hr
  rw [chk_yes hr]
  have hwv : IntKind.i64.wrap (a - b) = v := by rw [hv, wrapIn hr]
  clear hr
  rcases Int.lt_trichotomy b 0 with h | h | h
  ·have g1 : ¬ 0 < b := by omega
   have g2 : ¬ d < a := by rw [hde h]; omega
   clear hce hde k hv
   go_enter Tryz.func205, Tryz.ntmps205
   go_wp2_with fail
   try rw [hW]
   clear r0 r1 z0 z1 l3
   refine (of_any v _).mono ?_
   rintro e w1 ⟨rfl, hw1⟩
   have HB1 := hI (HB.u.kept hw1)
   have Hb1 := hI (Hb.u.then' (by omega) hw1)
   clear hw1
   obtain ⟨r0, r1, z0, z1, l3⟩ := two_cells HB1.u
   go_wp2_with fail
   refine bodyPost_ret (v := .agg #[.int .i64 0, .int .i64 v]) (by simp [results, Tryz.results205, go_sem, r0, r1]) rfl ⟨rfl, ?_⟩
   exact (Hb1.u.setCell (by simp) _).setCell (by simp) _
  ·have g1 : ¬ 0 < b := by omega
   have g2 : ¬ b < 0 := by omega
   clear hce hde k hv h
   go_enter Tryz.func205, Tryz.ntmps205
   go_wp2_with fail
   try rw [hW]
   clear r0 r1 z0 z1 l3
   refine (of_any v _).mono ?_
   rintro e w1 ⟨rfl, hw1⟩
   have HB1 := hI (HB.u.kept hw1)
   have Hb1 := hI (Hb.u.then' (by omega) hw1)
   clear hw1
   obtain ⟨r0, r1, z0, z1, l3⟩ := two_cells HB1.u
   go_wp2_with fail
   refine bodyPost_ret (v := .agg #[.int .i64 0, .int .i64 v]) (by simp [results, Tryz.results205, go_sem, r0, r1]) rfl ⟨rfl, ?_⟩
   exact (Hb1.u.setCell (by simp) _).setCell (by simp) _
  ·have g1 : ¬ b < 0 := by omega
   have g2 : ¬ a < c := by rw [hce h]; omega
   clear hce hde k hv
   go_enter Tryz.func205, Tryz.ntmps205
   go_wp2_with fail
   try rw [hW]
   clear r0 r1 z0 z1 l3
   refine (of_any v _).mono ?_
   rintro e w1 ⟨rfl, hw1⟩
   have HB1 := hI (HB.u.kept hw1)
   have Hb1 := hI (Hb.u.then' (by omega) hw1)
   clear hw1
   obtain ⟨r0, r1, z0, z1, l3⟩ := two_cells HB1.u
   go_wp2_with fail
   refine bodyPost_ret (v := .agg #[.int .i64 0, .int .i64 v]) (by simp [results, Tryz.results205, go_sem, r0, r1]) rfl ⟨rfl, ?_⟩
   exact (Hb1.u.setCell (by simp) _).setCell (by simp) _
 | false =>
  rw [chk_no hr]
  have k := inR_no.1 hr
  clear hr
  rcases Int.lt_trichotomy b 0 with h | h | h
  ·have g1 : ¬ 0 < b := by omega
   have g2 : d < a := by rw [hde h]; omega
   clear hce hde k hv
   go_enter Tryz.func205, Tryz.ntmps205
   go_wp2_with fail
   refine bodyPost_ret (v := .agg #[.int .i64 2, .int .i64 0]) (by simp [results, Tryz.results205, go_sem, r0, r1]) rfl ⟨rfl, ?_⟩
   exact (Hb.u.setCell (by simp) _).setCell (by simp) _
  ·exfalso; omega
  ·have g1 : ¬ b < 0 := by omega
   have g2 : a < c := by rw [hce h]; omega
   clear hce hde k hv
   go_enter Tryz.func205, Tryz.ntmps205
   go_wp2_with fail
   refine bodyPost_ret (v := .agg #[.int .i64 2, .int .i64 0]) (by simp [results, Tryz.results205, go_sem, r0, r1]) rfl ⟨rfl, ?_⟩
   exact (Hb.u.setCell (by simp) _).setCell (by simp) _
theorem tdiv_pos {M y : Int} (hM : 0 ≤ M) : M.tdiv y = M / y := Int.tdiv_eq_ediv_of_nonneg hM
theorem pos_div {M y : Int} (hM : 0 ≤ M) (hy : 0 < y) : 0 ≤ M / y ∧ M / y ≤ M := ⟨Int.ediv_nonneg hM (Int.le_of_lt hy), Int.ediv_le_self _ hM⟩
theorem pos_mul {M x y : Int} (hy : 0 < y) : M / y < x ↔ M < x * y := Int.ediv_lt_iff_lt_mul hy
theorem by_pp {a b : Int} (hb : 0 < b) (ha : 0 < a) : inR (Int.tdiv 9223372036854775807 b) = true ∧ (decide (Int.tdiv 9223372036854775807 b < a) = !inR (a * b)) := by
 rw [tdiv_pos (by decide)]
 obtain ⟨h0, h1⟩ := pos_div (M := 9223372036854775807) (y := b) (by decide) hb
 refine ⟨inR_iff.2 ⟨by omega, h1⟩, ?_⟩
 have h := pos_mul (M := 9223372036854775807) (x := a) hb
 have hp := Int.mul_pos ha hb
 cases hr : inR (a * b) with
 | true => have := inR_iff.1 hr; rw [Bool.not_true, decide_eq_false_iff_not, h]; omega
 | false => have := inR_no.1 hr; rw [Bool.not_false, decide_eq_true_iff, h]; omega
theorem by_pn {a b : Int} (ha : 0 < a) (hb : b < 0) : inR (Int.tdiv (-9223372036854775808) a) = true ∧ (decide (b < Int.tdiv (-9223372036854775808) a) = !inR (a * b)) := by
 rw [Int.neg_tdiv, tdiv_pos (by decide)]
 obtain ⟨h0, h1⟩ := pos_div (M := 9223372036854775808) (y := a) (by decide) ha
 refine ⟨inR_iff.2 ⟨by omega, by omega⟩, ?_⟩
 have h := pos_mul (M := 9223372036854775808) (x := -b) ha
 have hp := Int.mul_pos (show 0 < -b by omega) ha
 have e : -b * a = -(a * b) := by rw [Int.neg_mul, Int.mul_comm]
 rw [e] at h hp
 cases hr : inR (a * b) with
 | true => have := inR_iff.1 hr; rw [Bool.not_true, decide_eq_false_iff_not]; omega
 | false => have := inR_no.1 hr; rw [Bool.not_false, decide_eq_true_iff]; omega
theorem by_nn {a b : Int} (ha : a < 0) (hb : b < 0) : inR (Int.tdiv 9223372036854775807 b) = true ∧ (decide (a < Int.tdiv 9223372036854775807 b) = !inR (a * b)) := by
 have hn : Int.tdiv 9223372036854775807 b = -(9223372036854775807 / -b) := by
  rw [← tdiv_pos (by decide), Int.tdiv_neg, Int.neg_neg]
 rw [hn]
 obtain ⟨h0, h1⟩ := pos_div (M := 9223372036854775807) (y := -b) (by decide) (by omega)
 refine ⟨inR_iff.2 ⟨by omega, by omega⟩, ?_⟩
 have h := pos_mul (M := 9223372036854775807) (x := -a) (y := -b) (by omega)
 have hp := Int.mul_pos (show 0 < -a by omega) (show 0 < -b by omega)
 have e : -a * -b = a * b := Int.neg_mul_neg a b
 rw [e] at h hp
 cases hr : inR (a * b) with
 | true => have := inR_iff.1 hr; rw [Bool.not_true, decide_eq_false_iff_not]; omega
 | false => have := inR_no.1 hr; rw [Bool.not_false, decide_eq_true_iff]; omega
theorem beyond_any (a b : Int) (w : World) :
  Calls Tryz.prog 217 #[.int .i64 a, .int .i64 b] w fun e w' => e = .returned (.bool (!inR (a * b))) ∧ w' = w := by
 obtain ⟨r, hr⟩ : ∃ r, (!inR (a * b)) = r := ⟨_, rfl⟩
 rw [hr]
 rcases Int.lt_trichotomy a 0 with h | h | h
 ·rcases Int.lt_trichotomy b 0 with k | k | k
  ·obtain ⟨i, q⟩ := by_nn h k
   have i := wrapIn i
   rw [hr] at q
   obtain ⟨m, hm⟩ : ∃ m, Int.tdiv 9223372036854775807 b = m := ⟨_, rfl⟩
   rw [hm] at i q
   have g0 : ¬ 0 < a := by omega
   have g1 : ¬ 0 < b := by omega
   have gz : (b == 0) = false := by simp; omega
   clear hr
   go_enter Tryz.func217, Tryz.ntmps217
   go_wp2_with fail
   go_ret
   exact ⟨rfl, rfl⟩
  ·subst k
   obtain rfl : r = false := by rw [← hr, Int.mul_zero]; rfl
   clear hr
   have g1 : ¬ 0 < a := by omega
   go_enter Tryz.func217, Tryz.ntmps217
   go_wp2_with fail
   go_ret
   exact ⟨rfl, rfl⟩
  ·obtain ⟨i, q⟩ := by_pn (a := b) (b := a) k h
   have i := wrapIn i
   rw [Int.mul_comm b a, hr] at q
   obtain ⟨m, hm⟩ : ∃ m, Int.tdiv (-9223372036854775808) b = m := ⟨_, rfl⟩
   rw [hm] at i q
   have g0 : ¬ 0 < a := by omega
   have g1 : ¬ b < 0 := by omega
   have gz : (b == 0) = false := by simp; omega
   clear hr
   go_enter Tryz.func217, Tryz.ntmps217
   go_wp2_with fail
   go_ret
   exact ⟨rfl, rfl⟩
 ·subst h
  obtain rfl : r = false := by rw [← hr, Int.zero_mul]; rfl
  clear hr
  go_enter Tryz.func217, Tryz.ntmps217
  go_wp2_with fail
  go_ret
  exact ⟨rfl, rfl⟩
 ·rcases Int.lt_trichotomy b 0 with k | k | k
  ·obtain ⟨i, q⟩ := by_pn h k
   have i := wrapIn i
   rw [hr] at q
   obtain ⟨m, hm⟩ : ∃ m, Int.tdiv (-9223372036854775808) a = m := ⟨_, rfl⟩
   rw [hm] at i q
   have g0 : ¬ a < 0 := by omega
   have g1 : ¬ 0 < b := by omega
   have gz : (a == 0) = false := by simp; omega
   clear hr
   go_enter Tryz.func217, Tryz.ntmps217
   go_wp2_with fail
   go_ret
   exact ⟨rfl, rfl⟩
  ·subst k
   obtain rfl : r = false := by rw [← hr, Int.mul_zero]; rfl
   clear hr
   have g1 : ¬ a < 0 := by omega
   go_enter Tryz.func217, Tryz.ntmps217
   go_wp2_with fail
   go_ret
   exact ⟨rfl, rfl⟩
  ·obtain ⟨i, q⟩ := by_pp k h
   have i := wrapIn i
   rw [hr] at q
   obtain ⟨m, hm⟩ : ∃ m, Int.tdiv 9223372036854775807 b = m := ⟨_, rfl⟩
   rw [hm] at i q
   have g0 : ¬ a < 0 := by omega
   have g1 : ¬ b < 0 := by omega
   have gz : (b == 0) = false := by simp; omega
   clear hr
   go_enter Tryz.func217, Tryz.ntmps217
   go_wp2_with fail
   go_ret
   exact ⟨rfl, rfl⟩
theorem gProd_any (a b : Int) (w : World) (ha : inR a = true) (hb : inR b = true) :
  Calls Tryz.prog 207 #[.int .i64 a, .int .i64 b] w fun e w' => e = .returned (gV (chk (a * b))) ∧ Below w.heap.size w w' := by
 obtain ⟨a0, a1⟩ := inR_iff.1 ha
 obtain ⟨b0, b1⟩ := inR_iff.1 hb
 obtain ⟨W, hW, B, hbw, hs⟩ := one_new w #[.int .i64 0, .int .i64 0] 205
 obtain ⟨r0, r1, z0, z1, l3⟩ := two_cells B
 have Hb := hI hbw
 have HB := hI B
 clear B hbw ha hb
 obtain ⟨v, hv⟩ : ∃ v, a * b = v := ⟨_, rfl⟩
 have HK := hI (fun wx => beyond_any a b wx)
 rw [hv] at HK ⊢
 cases hr : inR v with
 | true =>
  rw [chk_yes hr]
  have hwv : IntKind.i64.wrap (a * b) = v := by rw [hv, wrapIn hr]
  rw [hr] at HK
  clear hr hv
  go_enter Tryz.func207, Tryz.ntmps207
  go_wp2_with fail
  try rw [hW]
  refine (HK.u _).mono ?_
  rintro e w1 ⟨rfl, rfl⟩
  go_wp2_with fail
  try rw [hW]
  clear r0 r1 z0 z1 l3
  refine (of_any v _).mono ?_
  rintro e w1 ⟨rfl, hw1⟩
  have HB1 := hI (HB.u.kept hw1)
  have Hb1 := hI (Hb.u.then' (by omega) hw1)
  clear hw1
  obtain ⟨r0, r1, z0, z1, l3⟩ := two_cells HB1.u
  go_wp2_with fail
  refine bodyPost_ret (v := .agg #[.int .i64 0, .int .i64 v]) (by simp [results, Tryz.results207, go_sem, r0, r1]) rfl ⟨rfl, ?_⟩
  exact (Hb1.u.setCell (by simp) _).setCell (by simp) _
 | false =>
  rw [chk_no hr]
  rw [hr] at HK
  clear hr hv
  go_enter Tryz.func207, Tryz.ntmps207
  go_wp2_with fail
  try rw [hW]
  refine (HK.u _).mono ?_
  rintro e w1 ⟨rfl, rfl⟩
  go_wp2_with fail
  refine bodyPost_ret (v := .agg #[.int .i64 2, .int .i64 0]) (by simp [results, Tryz.results207, go_sem, r0, r1]) rfl ⟨rfl, ?_⟩
  exact (Hb.u.setCell (by simp) _).setCell (by simp) _
theorem quo_in {a b : Int} (ha : inR a = true) (hb : ¬ b = 0) (h : ¬ (a = -9223372036854775808 ∧ b = -1)) : inR (a.tdiv b) = true := by
 obtain ⟨a0, a1⟩ := inR_iff.1 ha
 have hs := sg_div a b
 obtain ⟨k, hk⟩ : ∃ k, a.natAbs / b.natAbs = k := ⟨_, rfl⟩
 rw [hk] at hs
 by_cases b1 : b = 1
 ·subst b1; rw [Int.tdiv_one]; exact ha
 by_cases b2 : b = -1
 ·subst b2
  have : a.tdiv (-1) = -a := by rw [Int.tdiv_neg, Int.tdiv_one]
  rw [this]; exact inR_iff.2 ⟨by omega, by omega⟩
 have hk2 : k ≤ 4611686018427387904 := by
  rw [← hk]
  refine Nat.le_trans (Nat.div_le_div (Nat.le_refl _) (show 2 ≤ b.natAbs by omega) (by decide)) ?_
  omega
 rw [← hs]
 unfold sg
 split <;> exact inR_iff.2 ⟨by omega, by omega⟩
def qc (a b : Int) : Cl := if b == 0 then (0, 122) else chk (a.tdiv b)
theorem gQuo_any (a b : Int) (w : World) (ha : inR a = true) (hb : inR b = true) :
  Calls Tryz.prog 208 #[.int .i64 a, .int .i64 b] w fun e w' => e = .returned (gV (qc a b)) ∧ Below w.heap.size w w' := by
 obtain ⟨a0, a1⟩ := inR_iff.1 ha
 obtain ⟨b0, b1⟩ := inR_iff.1 hb
 obtain ⟨W, hW, B, hbw, hs⟩ := one_new w #[.int .i64 0, .int .i64 0] 205
 obtain ⟨r0, r1, z0, z1, l3⟩ := two_cells B
 have Hb := hI hbw
 have HB := hI B
 clear B hbw hb
 unfold qc
 cases hz : (b == 0) with
 | true =>
  obtain rfl : b = 0 := by simpa using hz
  clear ha
  go_enter Tryz.func208, Tryz.ntmps208
  go_wp2_with fail
  refine bodyPost_ret (v := .agg #[.int .i64 1, .int .i64 0]) (by simp [results, Tryz.results208, go_sem, r0, r1]) rfl ⟨rfl, ?_⟩
  exact (Hb.u.setCell (by simp) _).setCell (by simp) _
 | false =>
  have hz2 : ¬ b = 0 := by simpa using hz
  simp only [Bool.false_eq_true, if_false]
  by_cases hm : a = -9223372036854775808 ∧ b = -1
  ·obtain ⟨rfl, rfl⟩ := hm
   rw [chk_no (by decide)]
   go_enter Tryz.func208, Tryz.ntmps208
   go_wp2_with fail
   refine bodyPost_ret (v := .agg #[.int .i64 2, .int .i64 0]) (by simp [results, Tryz.results208, go_sem, r0, r1]) rfl ⟨rfl, ?_⟩
   exact (Hb.u.setCell (by simp) _).setCell (by simp) _
  ·have hr := quo_in ha hz2 hm
   obtain ⟨v, hv⟩ : ∃ v, a.tdiv b = v := ⟨_, rfl⟩
   rw [hv] at hr ⊢
   rw [chk_yes hr]
   have hwv : IntKind.i64.wrap v = v := wrapIn hr
   by_cases ha2 : a = -9223372036854775808
   ·have hb2 : (b == -1) = false := by simp; intro h; exact hm ⟨ha2, h⟩
    have ha3 : (a == -9223372036854775808) = true := by simpa using ha2
    clear hr hm ha ha2
    go_enter Tryz.func208, Tryz.ntmps208
    go_wp2_with fail
    try rw [hW]
    clear r0 r1 z0 z1 l3
    refine (of_any v _).mono ?_
    rintro e w1 ⟨rfl, hw1⟩
    have HB1 := hI (HB.u.kept hw1)
    have Hb1 := hI (Hb.u.then' (by omega) hw1)
    clear hw1
    obtain ⟨r0, r1, z0, z1, l3⟩ := two_cells HB1.u
    go_wp2_with fail
    refine bodyPost_ret (v := .agg #[.int .i64 0, .int .i64 v]) (by simp [results, Tryz.results208, go_sem, r0, r1]) rfl ⟨rfl, ?_⟩
    exact (Hb1.u.setCell (by simp) _).setCell (by simp) _
   ·have ha3 : (a == -9223372036854775808) = false := by simpa using ha2
    clear hr hm ha ha2
    go_enter Tryz.func208, Tryz.ntmps208
    go_wp2_with fail
    try rw [hW]
    clear r0 r1 z0 z1 l3
    refine (of_any v _).mono ?_
    rintro e w1 ⟨rfl, hw1⟩
    have HB1 := hI (HB.u.kept hw1)
    have Hb1 := hI (Hb.u.then' (by omega) hw1)
    clear hw1
    obtain ⟨r0, r1, z0, z1, l3⟩ := two_cells HB1.u
    go_wp2_with fail
    refine bodyPost_ret (v := .agg #[.int .i64 0, .int .i64 v]) (by simp [results, Tryz.results208, go_sem, r0, r1]) rfl ⟨rfl, ?_⟩
    exact (Hb1.u.setCell (by simp) _).setCell (by simp) _
def ClOk (c : Cl) : Prop := (c.2 = 0 ∧ inR c.1 = true) ∨ c = (0, 122) ∨ c = (0, 111)
theorem chk_ok (v : Int) : ClOk (chk v) := by
 cases h : inR v with
 | true => rw [chk_yes h]; exact .inl ⟨rfl, h⟩
 | false => rw [chk_no h]; exact .inr (.inr rfl)
theorem don_ok {o : Int} {x y : Cl} (hx : ClOk x) (hy : ClOk y) : ClOk (don o x y) := by
 unfold don
 repeat' split
 all_goals first | exact hx | exact hy | exact chk_ok _ | exact .inr (.inl rfl)
theorem two_new (w : World) (A B : Array Value) (T : TypeId) : ∃ W, (w.alloc (.cells A T)).alloc (.cells B T) = W ∧ Blk W w.heap.size A T ∧ Blk W (w.heap.size + 1) B T ∧ Below w.heap.size w W ∧ W.heap.size = w.heap.size + 2 := by
 refine ⟨_, rfl, (Blk.new w A T).alloc _, ?_, ((Below.refl _ _).alloc (Nat.le_refl _) _).alloc (by simp) _, by simp⟩
 simpa using Blk.new (w.alloc (.cells A T)) B T
theorem gst_zero {c : Cl} (h : ClOk c) (k : (c.2 == 0) = false) : (gst c.2 == 0) = false := by
 rcases h with ⟨h, _⟩ | rfl | rfl
 ·rw [h] at k; cases k
 ·rfl
 ·rfl
theorem gst_z0 : gst 0 = 0 := rfl
theorem opp_any (c : Cl) (w : World) (hc : ClOk c) :
  Calls Tryz.prog 177 #[gV c] w fun e w' => e = .returned (gV (don 45 (0, 0) c)) ∧ Below w.heap.size w w' := by
 obtain ⟨a, m⟩ := c
 obtain ⟨W, hW, B1, B2, hb, hWs⟩ := two_new w #[.int .i64 (gst m), .int .i64 a] #[.int .i64 0, .int .i64 0] 205
 obtain ⟨p0, p1, _, _, l1⟩ := two_cells B1
 obtain ⟨r0, r1, z0, z1, l3⟩ := two_cells B2
 have Hb := hI hb
 have HB2 := hI B2
 clear B1 B2 hb
 cases hm : (m == 0) with
 | false =>
  rw [don_y rfl (by exact hm)]
  have hg := gst_zero hc (by exact hm)
  simp only at hg
  clear hc
  unfold gV
  simp only
  go_enter Tryz.func177, Tryz.ntmps177
  go_wp2_with fail
  refine bodyPost_ret (v := .agg #[.int .i64 (gst m), .int .i64 a]) (by simp [results, Tryz.results177, go_sem, r0, r1]) rfl ⟨rfl, ?_⟩
  exact (Hb.u.setCell (by simp) _).setCell (by simp) _
 | true =>
  obtain rfl : m = 0 := by simpa using hm
  have ha : inR a = true := by
   rcases hc with ⟨_, h⟩ | h | h
   ·exact h
   ·cases h
   ·cases h
  rw [don_m]
  have HD := hI (fun wx => difference_any 0 a wx (by decide) ha)
  obtain ⟨d, hd⟩ : ∃ d, chk (0 - a) = d := ⟨_, rfl⟩
  rw [hd] at HD ⊢
  rw [gst_z0] at p0
  obtain ⟨d1, d2⟩ := d
  unfold gV at HD ⊢
  simp only [gst_z0] at HD ⊢
  obtain ⟨dd, hdd⟩ : ∃ dd, gst d2 = dd := ⟨_, rfl⟩
  rw [hdd] at HD ⊢
  rw [gst_z0] at hW
  clear hc hd hdd ha
  go_enter Tryz.func177, Tryz.ntmps177
  go_wp2_with fail
  try rw [hW]
  clear r0 r1 z0 z1 l3 p0 p1
  refine (HD.u _).mono ?_
  rintro e w1 ⟨rfl, hw1⟩
  have HB3 := hI (HB2.u.kept hw1)
  have Hb1 := hI (Hb.u.then' (by omega) hw1)
  clear hw1
  obtain ⟨r0, r1, z0, z1, l3⟩ := two_cells HB3.u
  go_wp2_with fail
  refine bodyPost_ret (v := .agg #[.int .i64 dd, .int .i64 d1]) (by simp [results, Tryz.results177, go_sem, r0, r1]) rfl ⟨rfl, ?_⟩
  exact (Hb1.u.setCell (by simp) _).setCell (by simp) _
theorem join_any (o : Int) (x y : Cl) (w : World) (hx : ClOk x) (hy : ClOk y) :
  Calls Tryz.prog 178 #[.int .u8 o, gV x, gV y] w fun e w' => e = .returned (gV (don o x y)) ∧ Below w.heap.size w w' := by
 obtain ⟨a, m⟩ := x
 obtain ⟨b, n⟩ := y
 obtain ⟨W, hW, B1, B2, B3, hb, hWs⟩ := three_new w #[.int .i64 (gst m), .int .i64 a] #[.int .i64 (gst n), .int .i64 b] #[.int .i64 0, .int .i64 0] 205
 obtain ⟨p0, p1, _, _, l1⟩ := two_cells B1
 obtain ⟨q0, q1, _, _, l2⟩ := two_cells B2
 obtain ⟨r0, r1, z0, z1, l3⟩ := two_cells B3
 have Hb := hI hb
 have HB3 := hI B3
 clear B1 B2 B3 hb
 cases hm : (m == 0) with
 | false =>
  rw [don_x (by exact hm)]
  have hg := gst_zero hx (by exact hm)
  simp only at hg
  clear hx hy
  unfold gV
  simp only
  go_enter Tryz.func178, Tryz.ntmps178
  go_wp2_with fail
  refine bodyPost_ret (v := .agg #[.int .i64 (gst m), .int .i64 a]) (by simp [results, Tryz.results178, go_sem, r0, r1]) rfl ⟨rfl, ?_⟩
  exact (Hb.u.setCell (by simp; omega) _).setCell (by simp; omega) _
 | true =>
  obtain rfl : m = 0 := by simpa using hm
  cases hn : (n == 0) with
  | false =>
   rw [don_y rfl (by exact hn)]
   have hg := gst_zero hy (by exact hn)
   simp only at hg
   clear hx hy
   rw [gst_z0] at p0 hW
   unfold gV
   simp only [gst_z0]
   go_enter Tryz.func178, Tryz.ntmps178
   go_wp2_with fail
   refine bodyPost_ret (v := .agg #[.int .i64 (gst n), .int .i64 b]) (by simp [results, Tryz.results178, go_sem, r0, r1]) rfl ⟨rfl, ?_⟩
   exact (Hb.u.setCell (by simp; omega) _).setCell (by simp; omega) _
  | true =>
   obtain rfl : n = 0 := by simpa using hn
   clear hm hn
   have ha : inR a = true := by
    rcases hx with ⟨_, h⟩ | h | h
    ·exact h
    ·cases h
    ·cases h
   have hbb : inR b = true := by
    rcases hy with ⟨_, h⟩ | h | h
    ·exact h
    ·cases h
    ·cases h
   rw [gst_z0] at p0 q0 hW
   clear hx hy
   by_cases h43 : o = 43
   ·subst h43
    rw [don_p]
    have HD := hI (fun wx => sum_any a b wx ha hbb)
    obtain ⟨d, hd⟩ : ∃ d, chk (a + b) = d := ⟨_, rfl⟩
    rw [hd] at HD ⊢
    obtain ⟨d1, d2⟩ := d
    unfold gV at HD ⊢
    simp only [gst_z0] at HD ⊢
    obtain ⟨dd, hdd⟩ : ∃ dd, gst d2 = dd := ⟨_, rfl⟩
    rw [hdd] at HD ⊢
    clear hd hdd ha hbb
    go_enter Tryz.func178, Tryz.ntmps178
    go_wp2_with fail
    try rw [hW]
    clear r0 r1 z0 z1 l3 p0 p1 q0 q1
    refine (HD.u _).mono ?_
    rintro e w1 ⟨rfl, hw1⟩
    have HB4 := hI (HB3.u.kept hw1)
    have Hb1 := hI (Hb.u.then' (by omega) hw1)
    clear hw1
    obtain ⟨r0, r1, z0, z1, l3⟩ := two_cells HB4.u
    go_wp2_with fail
    refine bodyPost_ret (v := .agg #[.int .i64 dd, .int .i64 d1]) (by simp [results, Tryz.results178, go_sem, r0, r1]) rfl ⟨rfl, ?_⟩
    exact (Hb1.u.setCell (by simp; omega) _).setCell (by simp; omega) _
   by_cases h45 : o = 45
   ·subst h45
    rw [don_m]
    have HD := hI (fun wx => difference_any a b wx ha hbb)
    obtain ⟨d, hd⟩ : ∃ d, chk (a - b) = d := ⟨_, rfl⟩
    rw [hd] at HD ⊢
    obtain ⟨d1, d2⟩ := d
    unfold gV at HD ⊢
    simp only [gst_z0] at HD ⊢
    obtain ⟨dd, hdd⟩ : ∃ dd, gst d2 = dd := ⟨_, rfl⟩
    rw [hdd] at HD ⊢
    clear hd hdd ha hbb
    go_enter Tryz.func178, Tryz.ntmps178
    go_wp2_with fail
    try rw [hW]
    clear r0 r1 z0 z1 l3 p0 p1 q0 q1
    refine (HD.u _).mono ?_
    rintro e w1 ⟨rfl, hw1⟩
    have HB4 := hI (HB3.u.kept hw1)
    have Hb1 := hI (Hb.u.then' (by omega) hw1)
    clear hw1
    obtain ⟨r0, r1, z0, z1, l3⟩ := two_cells HB4.u
    go_wp2_with fail
    refine bodyPost_ret (v := .agg #[.int .i64 dd, .int .i64 d1]) (by simp [results, Tryz.results178, go_sem, r0, r1]) rfl ⟨rfl, ?_⟩
    exact (Hb1.u.setCell (by simp; omega) _).setCell (by simp; omega) _
   by_cases h42 : o = 42
   ·subst h42
    rw [don_t]
    have HD := hI (fun wx => gProd_any a b wx ha hbb)
    obtain ⟨d, hd⟩ : ∃ d, chk (a * b) = d := ⟨_, rfl⟩
    rw [hd] at HD ⊢
    obtain ⟨d1, d2⟩ := d
    unfold gV at HD ⊢
    simp only [gst_z0] at HD ⊢
    obtain ⟨dd, hdd⟩ : ∃ dd, gst d2 = dd := ⟨_, rfl⟩
    rw [hdd] at HD ⊢
    clear hd hdd ha hbb
    go_enter Tryz.func178, Tryz.ntmps178
    go_wp2_with fail
    try rw [hW]
    clear r0 r1 z0 z1 l3 p0 p1 q0 q1
    refine (HD.u _).mono ?_
    rintro e w1 ⟨rfl, hw1⟩
    have HB4 := hI (HB3.u.kept hw1)
    have Hb1 := hI (Hb.u.then' (by omega) hw1)
    clear hw1
    obtain ⟨r0, r1, z0, z1, l3⟩ := two_cells HB4.u
    go_wp2_with fail
    refine bodyPost_ret (v := .agg #[.int .i64 dd, .int .i64 d1]) (by simp [results, Tryz.results178, go_sem, r0, r1]) rfl ⟨rfl, ?_⟩
    exact (Hb1.u.setCell (by simp; omega) _).setCell (by simp; omega) _
   have e43 : (o == 43) = false := by simpa using h43
   have e45 : (o == 45) = false := by simpa using h45
   have e42 : (o == 42) = false := by simpa using h42
   have hq : don o (a, 0) (b, 0) = qc a b := by
    unfold qc
    cases hz : (b == 0) with
    | true => rw [don_z e43 e45 e42 hz]; rfl
    | false => rw [don_d e43 e45 e42 hz]; rfl
   rw [hq]
   clear hq
   have HD := hI (fun wx => gQuo_any a b wx ha hbb)
   obtain ⟨d, hd⟩ : ∃ d, qc a b = d := ⟨_, rfl⟩
   rw [hd] at HD ⊢
   obtain ⟨d1, d2⟩ := d
   unfold gV at HD ⊢
   simp only [gst_z0] at HD ⊢
   obtain ⟨dd, hdd⟩ : ∃ dd, gst d2 = dd := ⟨_, rfl⟩
   rw [hdd] at HD ⊢
   clear hd hdd ha hbb
   go_enter Tryz.func178, Tryz.ntmps178
   go_wp2_with fail
   try rw [hW]
   clear r0 r1 z0 z1 l3 p0 p1 q0 q1
   refine (HD.u _).mono ?_
   rintro e w1 ⟨rfl, hw1⟩
   have HB4 := hI (HB3.u.kept hw1)
   have Hb1 := hI (Hb.u.then' (by omega) hw1)
   clear hw1
   obtain ⟨r0, r1, z0, z1, l3⟩ := two_cells HB4.u
   go_wp2_with fail
   refine bodyPost_ret (v := .agg #[.int .i64 dd, .int .i64 d1]) (by simp [results, Tryz.results178, go_sem, r0, r1]) rfl ⟨rfl, ?_⟩
   exact (Hb1.u.setCell (by simp; omega) _).setCell (by simp; omega) _
end Go.Proofs.YtdchbenfccofpaaGreatDoor
namespace Db
theorem plc_step {a d o i : Int} {c : UInt8} {r : List UInt8} {a' d' o' : Int} (h : stepS a d o c.toNat = some (a', d', o')) : plc a d o i (c :: r) = plc a' d' o' (i + 1) r := by
 simp only [plc, h]
theorem plc_stop {a d o i : Int} {c : UInt8} {r : List UInt8} (h : stepS a d o c.toNat = none) : plc a d o i (c :: r) = i := by
 simp only [plc, h]
theorem stepS_ok {a d o c : Int} {n : Nat} {a' d' o' : Int} (h : okS a d o n) (hs : stepS a d o c = some (a', d', o')) : okS a' d' o' (n + 1) := by
 obtain ⟨h1, h2, h3, h4, h5, h6⟩ := h
 have key : ∀ x : Option (Int × Int × Int), x = some (a', d', o') → (∀ p, x = some p → okS p.1 p.2.1 p.2.2 (n + 1)) → okS a' d' o' (n + 1) := fun x hx hp => hp _ hx
 refine key _ hs ?_
 intro p hp
 unfold stepS at hp
 split at hp
 ·unfold daysS at hp
  repeat' split at hp
  all_goals first | (cases hp; done) | (obtain rfl := Option.some.inj hp; refine ⟨?_, ?_, ?_, ?_, ?_, ?_⟩ <;> (try simp_all) <;> omega)
 ·split at hp
  ·unfold factS at hp
   repeat' split at hp
   all_goals first | (cases hp; done) | (obtain rfl := Option.some.inj hp; refine ⟨?_, ?_, ?_, ?_, ?_, ?_⟩ <;> (try simp_all) <;> omega)
  ·unfold onwS at hp
   repeat' split at hp
   all_goals first | (cases hp; done) | (obtain rfl := Option.some.inj hp; refine ⟨?_, ?_, ?_, ?_, ?_, ?_⟩ <;> (try simp_all) <;> omega)
def joinK (o a b : Int) : Int :=
 if a == 0 || b == 0 then 0
 else if o == 43 || o == 45 then (if a == b then a else 0)
 else if o == 42 && a == 1 && b == 1 then 0
 else if o == 42 && (a == 1 || b == 1) then 1
 else if o == 47 && a == 1 && b == 2 then 1
 else if o == 47 && a == 2 && b == 1 then 0
 else 2
theorem joinK_bd (o a b : Int) (ha : 0 ≤ a ∧ a ≤ 2) : 0 ≤ joinK o a b ∧ joinK o a b ≤ 2 := by
 unfold joinK; repeat' split
 all_goals omega
abbrev Pt := Int × Int
def opdB (s : Int) : Bool := s == 48 || selB s || oldB s
def leafK (rows : List Int) (p : Pt) : Int := if p.1 == 64 || p.1 == 33 then 1 else if oldB p.1 then rows.getD p.2.toNat 0 else 2
def kEval (rows : List Int) : List Pt → List Int → List Int
 | [], st => st
 | p :: r, st => if opdB p.1 then kEval rows r (leafK rows p :: st) else if p.1 == 126 then kEval rows r st else
  match st with
  | y :: x :: t => kEval rows r (joinK p.1 x y :: t)
  | _ => st
def Opnd (e : List UInt8) (ps : List Pt) : Prop :=
 (1 ≤ e.length ∧ e.length ≤ 18 ∧ (∀ c ∈ e, digB c.toNat = true) ∧ ps = [(48, val e)]) ∨
 ∃ c ds, e = c :: ds ∧ 1 ≤ ds.length ∧ (∀ x ∈ ds, digB x.toNat = true) ∧ ((selB c.toNat = true ∧ ds.length ≤ 2) ∨ (oldB c.toNat = true ∧ ds.length = 1)) ∧ ps = [((c.toNat : Int), val ds)]
def Wf : Nat → List UInt8 → List Pt → Prop
 | 0, _, _ => False
 | n + 1, e, ps => (cut e = (0, [], e) ∧ Opnd e ps) ∨ ((cut e).1 = 40 ∧ Wf n (cut e).2.2 ps) ∨ ((cut e).1 = 126 ∧ ∃ p, Wf n (cut e).2.2 p ∧ ps = p ++ [(126, 0)]) ∨
     (opB (cut e).1 = true ∧ ∃ p q, Wf n (cut e).2.1 p ∧ Wf n (cut e).2.2 q ∧ ps = p ++ q ++ [((cut e).1, 0)])
def rch (row : Int) : List UInt8 → Bool
 | [] => false
 | c :: r => (oldB c.toNat && (match r with | [] => false | d :: _ => decide (row ≤ (d.toNat : Int) - 48))) || rch row r
def oldDig : List UInt8 → Prop
 | [] => True
 | c :: r => (oldB c.toNat = true → match r with | [] => True | d :: _ => digB d.toNat = true) ∧ oldDig r
def dg2 (r : List UInt8) : List UInt8 := (r.take 2).takeWhile fun c => digB c.toNat
def strg (q : Int → Bool) : List UInt8 → Bool
 | [] => false
 | c :: r => (selB c.toNat && q (val (dg2 r))) || strg q r
def selq (q : Int → Bool) (ps : List Pt) : Bool := ps.any fun p => selB p.1 && q p.2
theorem strg_cons_not {q : Int → Bool} {c : UInt8} (r : List UInt8) (h : selB c.toNat = false) : strg q (c :: r) = strg q r := by simp [strg, h]
theorem selq_append (q : Int → Bool) (p r : List Pt) : selq q (p ++ r) = (selq q p || selq q r) := by simp [selq]
theorem selq_op (q : Int → Bool) (o : Int) (h : selB o = false) : selq q [(o, 0)] = false := by simp [selq, h]
theorem opd_op {o : Int} (h : opB o = true) : opdB o = false ∧ (o == 126) = false := by
 simp [opB] at h; rcases h with ((rfl | rfl) | rfl) | rfl <;> exact ⟨rfl, rfl⟩
theorem cut_le (l : List UInt8) : (cut l).2.1.length ≤ l.length ∧ (cut l).2.2.length ≤ l.length := by
 unfold cut
 split
 ·exact ⟨by simp; omega, by simp⟩
 ·split
  ·exact ⟨by simp, by simp⟩
  ·split
   ·exact ⟨by simp, by simp; omega⟩
   ·exact ⟨by simp, by simp⟩
theorem kEval_leaf (rows : List Int) (p : Pt) (q : List Pt) (st : List Int) (h : opdB p.1 = true) : kEval rows ([p] ++ q) st = kEval rows q (leafK rows p :: st) := by
 simp [kEval, h]
theorem kEval_neg (rows : List Int) (p q : List Pt) (k : Int) (h : ∀ q st, kEval rows (p ++ q) st = kEval rows q (k :: st)) (st : List Int) : kEval rows (p ++ [(126, 0)] ++ q) st = kEval rows q (k :: st) := by
 rw [List.append_assoc, h]; rfl
theorem kEval_bin (rows : List Int) (o : Int) (ho : opB o = true) (p q r : List Pt) (a b : Int) (hp : ∀ q st, kEval rows (p ++ q) st = kEval rows q (a :: st)) (hq : ∀ r st, kEval rows (q ++ r) st = kEval rows r (b :: st)) (st : List Int) :
  kEval rows (p ++ q ++ [(o, 0)] ++ r) st = kEval rows r (joinK o a b :: st) := by
 rw [List.append_assoc, List.append_assoc, hp, hq]
 have := opd_op ho
 simp [kEval, this.1, this.2]
theorem splitGo_plain (c : UInt8) (a : List UInt8) (h : ∀ x ∈ a, x ≠ c) : ∀ acc cur r, splitGo c acc cur (a ++ r) = splitGo c acc (cur ++ a) r := by
 induction a with
 | nil => intro acc cur r; simp
 | cons x t ih =>
  intro acc cur r
  simp only [List.cons_append, splitGo]
  rw [if_neg (h x (by simp)), ih (fun y hy => h y (by simp [hy]))]
  simp
theorem splitGo_acc (c : UInt8) (l : List UInt8) : ∀ acc cur, splitGo c acc cur l = acc ++ splitGo c [] cur l := by
 induction l with
 | nil => intro acc cur; simp [splitGo]
 | cons x t ih =>
  intro acc cur
  simp only [splitGo]
  split
  ·rw [ih, ih ([] ++ [cur])]; simp
  ·exact ih _ _
theorem split_one (c : UInt8) (a : List UInt8) (h : ∀ x ∈ a, x ≠ c) : split a c = [a] := by
 have := splitGo_plain c a h [] [] []
 simp only [List.append_nil, List.nil_append] at this
 unfold split; rw [this]; rfl
theorem split_cons (c : UInt8) (a r : List UInt8) (h : ∀ x ∈ a, x ≠ c) : split (a ++ c :: r) c = a :: split r c := by
 unfold split
 rw [splitGo_plain c a h]
 simp only [splitGo, if_true, List.nil_append]
 rw [splitGo_acc]; rfl
theorem split_two (c : UInt8) (a b : List UInt8) (ha : ∀ x ∈ a, x ≠ c) (hb : ∀ x ∈ b, x ≠ c) : split (a ++ c :: b) c = [a, b] := by
 rw [split_cons c a b ha, split_one c b hb]
theorem splitGo_le (c : UInt8) (l : List UInt8) : ∀ acc cur (m : Nat), (∀ p ∈ acc, p.length ≤ m) → cur.length + l.length ≤ m → (∀ p ∈ splitGo c acc cur l, p.length ≤ m) := by
 induction l with
 | nil =>
  intro acc cur m ha hc p hp
  simp [splitGo] at hp
  rcases hp with hp | rfl
  ·exact ha p hp
  ·simpa using hc
 | cons x t ih =>
  intro acc cur m ha hc
  simp only [splitGo]
  simp only [List.length_cons] at hc
  split
  ·refine ih _ _ m ?_ (by simp; omega)
   intro p hp
   simp at hp
   rcases hp with hp | rfl
   ·exact ha p hp
   ·omega
  ·exact ih _ _ m ha (by simp; omega)
theorem split_le (l : List UInt8) (c : UInt8) : ∀ p ∈ split l c, p.length ≤ l.length := splitGo_le c l [] [] l.length (by simp) (by simp)
theorem splitGo_len (c : UInt8) (l : List UInt8) : ∀ acc cur, (splitGo c acc cur l).length ≤ acc.length + l.length + 1 := by
 induction l with
 | nil => intro acc cur; simp [splitGo]
 | cons x t ih =>
  intro acc cur
  simp only [splitGo]
  split
  ·have := ih (acc ++ [cur]) []
   simp at this ⊢; omega
  ·have := ih acc (cur ++ [x])
   simp at this ⊢; omega
theorem split_len (l : List UInt8) (c : UInt8) : (split l c).length ≤ l.length + 1 := by
 have := splitGo_len c l [] []
 unfold split; simpa using this
def dayS (d : List UInt8) : Prop := 1 ≤ d.length ∧ d.length ≤ 3 ∧ ∀ c ∈ d, digB c.toNat = true
theorem dayS_ne {d : List UInt8} (h : dayS d) (c : UInt8) (hc : digB c.toNat = false) : ∀ x ∈ d, x ≠ c := by
 intro x hx e
 subst e
 rw [h.2.2 x hx] at hc
 cases hc
structure Sht (l : List UInt8) (pd : List (List UInt8 × List UInt8)) (rows : List (List UInt8)) : Prop where
 parts : ∃ x y, split (bare l) 124 = [x, y] ∧ split x 44 = pd.map (fun p => p.1 ++ 45 :: p.2) ∧ split y 59 = rows
 days : ∀ p ∈ pd, dayS p.1 ∧ dayS p.2
def badP (i : Int) : List (Int × Int) → Int
 | [] => -1
 | p :: r => if p.2 < p.1 then i else badP (i + 1) r
def nameB (row : Int) (ps : List Pt) : Bool := ps.any fun p => oldB p.1 && decide (row ≤ p.2)
def badN (i : Int) : List (List Pt) → Int
 | [] => -1
 | ps :: r => if nameB i ps then i else badN (i + 1) r
def kindP (kinds : List Int) (ps : List Pt) : Int := (kEval kinds ps []).headD 0
def badK (i : Int) (kinds : List Int) : List (List Pt) → Int
 | [] => -1
 | ps :: r => if kindP kinds ps == 0 then i else badK (i + 1) (kinds ++ [kindP kinds ps]) r
def outc (pd : List (Int × Int)) (pss : List (List Pt)) : Int × Int :=
 if 4 < pd.length ∨ 8 < pss.length then (3, 0)
 else if 0 ≤ badP 0 pd then (4, badP 0 pd)
 else if 0 ≤ badN 0 pss then (5, badN 0 pss)
 else if 0 ≤ badK 0 [] pss then (6, badK 0 [] pss)
 else (0, 0)
structure RowOk (e : List UInt8) (ps : List Pt) : Prop where
 wf : ∃ n, Wf n e ps
 old : oldDig e
 rch : ∀ row, rch row e = nameB row ps
 sel : ∀ q, strg q e = selq q ps
 len : e.length ≤ 200
 pos : ∀ p ∈ ps, 0 ≤ p.2
structure Form (l : List UInt8) (pd : List (List UInt8 × List UInt8)) (rows : List (List UInt8)) (pss : List (List Pt)) : Prop where
 plc : plc 0 0 0 0 l = -1
 sht : Sht l pd rows
 len : rows.length = pss.length
 row : ∀ (i : Nat) e ps, rows[i]? = some e → pss[i]? = some ps → RowOk e ps
def pdv (pd : List (List UInt8 × List UInt8)) : List (Int × Int) := pd.map fun p => (val p.1, val p.2)
theorem badP_step {i : Nat} {pd : List (Int × Int)} {p : Int × Int} (h : pd[i]? = some p) : badP i (pd.drop i) = if p.2 < p.1 then (i : Int) else badP ((i + 1 : Nat) : Int) (pd.drop (i + 1)) := by
 obtain ⟨hi, rfl⟩ := List.getElem?_eq_some_iff.1 h
 rw [List.drop_eq_getElem_cons hi]; rfl
theorem badN_step {i : Nat} {pss : List (List Pt)} {p : List Pt} (h : pss[i]? = some p) : badN i (pss.drop i) = if nameB i p then (i : Int) else badN ((i + 1 : Nat) : Int) (pss.drop (i + 1)) := by
 obtain ⟨hi, rfl⟩ := List.getElem?_eq_some_iff.1 h
 rw [List.drop_eq_getElem_cons hi]; rfl
theorem badK_step {i : Nat} {pss : List (List Pt)} {p : List Pt} (kinds : List Int) (h : pss[i]? = some p) : badK i kinds (pss.drop i) = if kindP kinds p == 0 then (i : Int) else badK ((i + 1 : Nat) : Int) (kinds ++ [kindP kinds p]) (pss.drop (i + 1)) := by
 obtain ⟨hi, rfl⟩ := List.getElem?_eq_some_iff.1 h
 rw [List.drop_eq_getElem_cons hi]; rfl
theorem badN_all (pss : List (List Pt)) : ∀ i : Int, 0 ≤ i → badN i pss < 0 → ∀ (j : Nat) ps, pss[j]? = some ps → nameB (i + j) ps = false := by
 induction pss with
 | nil => intro i _ _ j ps h; simp at h
 | cons x t ih =>
  intro i hi hb j ps h
  unfold badN at hb
  split at hb
  ·omega
  ·rename_i hx
   cases j with
   | zero => simp at h; subst h; simpa using hx
   | succ j =>
    have := ih (i + 1) (by omega) hb j ps (by simpa using h)
    rw [show i + ((j + 1 : Nat) : Int) = i + 1 + j by omega]
    exact this
theorem kindP_of {kinds : List Int} {ps : List Pt} {k : Int} (h : ∀ q st, kEval kinds (ps ++ q) st = kEval kinds q (k :: st)) : kindP kinds ps = k := by
 have := h [] []
 rw [List.append_nil] at this
 unfold kindP; rw [this]; rfl
theorem nameB_lt {row : Int} {ps : List Pt} (h : nameB row ps = false) (hp : ∀ p ∈ ps, 0 ≤ p.2) (n : Nat) (hn : row = n) : ∀ p ∈ ps, oldB p.1 = true → p.2.toNat < n := by
 intro p hp1 ho
 unfold nameB at h
 rw [List.any_eq_false] at h
 have := h p hp1
 simp [ho] at this
 have := hp p hp1
 omega
def dpt : List Pt → Nat → Option Nat
 | [], c => some c
 | p :: r, c => if opdB p.1 then dpt r (c + 1) else if p.1 == 126 then (if 1 ≤ c then dpt r c else none) else if opB p.1 && decide (2 ≤ c) then dpt r (c - 1) else none
theorem opnd_opd {e : List UInt8} {ps : List Pt} (h : Opnd e ps) : ∃ p, ps = [p] ∧ opdB p.1 = true := by
 rcases h with ⟨_, _, _, rfl⟩ | ⟨c, ds, _, _, _, hs, rfl⟩
 ·exact ⟨_, rfl, rfl⟩
 ·refine ⟨_, rfl, ?_⟩
  unfold opdB
  rcases hs with ⟨hs, _⟩ | ⟨hs, _⟩ <;> simp [hs]
theorem wf_dpt {n : Nat} : ∀ {e : List UInt8} {ps : List Pt}, Wf n e ps → ∀ q c, dpt (ps ++ q) c = dpt q (c + 1) := by
 induction n with
 | zero => intro e ps h; exact absurd h (by simp [Wf])
 | succ n ih =>
  intro e ps h q c
  rcases h with ⟨_, h⟩ | ⟨_, h2⟩ | ⟨_, p, h2, rfl⟩ | ⟨h1, p, r, h2, h3, rfl⟩
  ·obtain ⟨p, rfl, hp⟩ := opnd_opd h
   simp [dpt, hp]
  ·exact ih h2 q c
  ·rw [List.append_assoc, ih h2]
   show dpt ((126, 0) :: q) (c + 1) = _
   simp [dpt, opdB, selB, oldB]
  ·rw [List.append_assoc, List.append_assoc, ih h2, ih h3]
   have := opd_op h1
   show dpt (((cut e).1, 0) :: q) (c + 1 + 1) = _
   simp [dpt, this.1, this.2, h1]
theorem wf_kind {n : Nat} (rows : List Int) : ∀ {e : List UInt8} {ps : List Pt}, Wf n e ps → ∃ k, ∀ q st, kEval rows (ps ++ q) st = kEval rows q (k :: st) := by
 induction n with
 | zero => intro e ps h; exact absurd h (by simp [Wf])
 | succ n ih =>
  intro e ps h
  rcases h with ⟨_, h⟩ | ⟨_, h2⟩ | ⟨_, p, h2, rfl⟩ | ⟨h1, p, r, h2, h3, rfl⟩
  ·obtain ⟨p, rfl, hp⟩ := opnd_opd h
   exact ⟨_, fun q st => kEval_leaf rows p q st hp⟩
  ·exact ih h2
  ·obtain ⟨k, hk⟩ := ih h2
   exact ⟨k, fun q st => kEval_neg rows p q k hk st⟩
  ·obtain ⟨a, ha⟩ := ih h2
   obtain ⟨b, hb⟩ := ih h3
   exact ⟨_, fun q st => kEval_bin rows _ h1 p r q a b ha hb st⟩
theorem zero_stays (rows : List Int) (ps : List Pt) : ∀ st, (0 : Int) ∈ st → (0 : Int) ∈ kEval rows ps st := by
 induction ps with
 | nil => intro st h; exact h
 | cons p r ih =>
  intro st h
  unfold kEval
  split
  ·exact ih _ (by simp [h])
  ·split
   ·exact ih _ h
   ·match st, h with
    | [], h => exact h
    | [x], h => exact h
    | y :: x :: t, h =>
     refine ih _ ?_
     simp at h ⊢
     rcases h with h | h | h
     ·left; subst h; simp [joinK]
     ·left; subst h; simp [joinK]
     ·right; exact h
def toR (k : Int) : Int := 2 - k
def jk (o l r : Int) : Int × Bool :=
 if o == 42 then (if l == 1 && r == 1 then (0, false) else if l == 1 || r == 1 then (1, true) else (0, true))
 else if o == 47 then (if l == 0 && r == 1 then (0, false) else if l == 1 && r == 0 then (1, true) else (0, true))
 else if l != r then (0, false) else (l, true)
theorem jk_join (o l r : Int) (ho : opB o = true) (hl : l = 0 ∨ l = 1) (hr : r = 0 ∨ r = 1) : joinK o (toR l) (toR r) = (if (jk o l r).2 then toR (jk o l r).1 else 0) ∧ ((jk o l r).1 = 0 ∨ (jk o l r).1 = 1) := by
 simp [opB] at ho
 rcases ho with ((rfl | rfl) | rfl) | rfl <;> rcases hl with rfl | rfl <;> rcases hr with rfl | rfl <;> decide
end Db
