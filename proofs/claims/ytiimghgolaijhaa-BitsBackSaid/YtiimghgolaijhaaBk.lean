/-
  The walk of BitsBack where the first number goes and the list is at most 5000 bits long: it returns true.
-/
import Derived.Test.YtiimghgolaijhaaBa
namespace Go.Proofs.Ytiimghgolaijhaa
open Go.RowKit Mb Go.Lib
theorem Held.later {w1 w2 : World} {g c : Nat} {l : List Bool} (h : Held w1 g c l) (hb : Below w1.heap.size w1 w2) : BoolsAt w2 g 0 l := by
  obtain ⟨_, _, hr⟩ := h
  exact hr.later hb
theorem take_back {w1 w2 : World} {g c : Nat} {l r : List Bool} {x y : Int} (h : Held w1 g c (l ++ dig x.toNat y.toNat ++ r)) (hb : Below w1.heap.size w1 w2) (hf : fits x y = true) :
    Calls Try.prog 9 #[.slice (some ⟨g, 0, Option.none⟩) (l ++ dig x.toNat y.toNat ++ r).length c, .int .i64 l.length, .int .i64 y] w2 fun e w' => e = .returned (.tuple #[.int .i64 x, .int .i64 ((l ++ dig x.toNat y.toNat).length : Nat), .bool true]) ∧ w' = w2 := by
  obtain ⟨a, b, rfl, rfl, h1, h2, _⟩ := fits_nat hf
  obtain ⟨base, w0, hr⟩ := h
  simp only [Int.toNat_natCast] at hr ⊢
  have := take_row hr hb l.length b h1 (by simp [dig_length])
  rw [List.append_assoc, List.drop_left, List.take_append_of_le_length (by rw [dig_length]; omega), List.take_of_length_le (by rw [dig_length]; omega), dig_of_lt _ _ h2] at this
  rw [List.append_assoc, show (l ++ dig a b).length = l.length + b by rw [List.length_append, dig_length]]
  exact this
theorem pack_held {w1 w2 : World} {g c : Nat} {l : List Bool} (h : Held w1 g c l) (hb : Below w1.heap.size w1 w2) (hl : l.length ≤ 100000) :
    Calls Try.prog 11 #[.slice (some ⟨g, 0, Option.none⟩) l.length c] w2 fun e w' => e = .returned (.string ⟨(packL l).toArray⟩) ∧ Below w2.heap.size w2 w' := by
  obtain ⟨_, _, hr⟩ := h
  exact pack_row hr hb hl
/-- what is unpacked of what was packed: the bits, and up to seven more that are 0 -/
structure Back (w : World) (g c n m : Nat) (l : List Bool) : Prop where
  bits : BoolsAt w g 0 l
  zero : ∀ i, n ≤ i → i < m → w.cell? ⟨g, i, Option.none⟩ = some (.bool false)
theorem unpack_back (l : List Bool) (hl : l.length ≤ 50000) (w : World) :
    Calls Try.prog 10 #[.string ⟨(packL l).toArray⟩] w fun e w' => ∃ g c, e = .returned (.slice (some ⟨g, 0, Option.none⟩) (8 * ((l.length + 7) / 8)) c) ∧ Back w' g c l.length (8 * ((l.length + 7) / 8)) l ∧ 8 * ((l.length + 7) / 8) ≤ c ∧ c ≤ maxLen ∧ Below w.heap.size w w' := by
  have hs : (⟨(packL l).toArray⟩ : ByteArray).size = (l.length + 7) / 8 := by
    rw [Lib.size_eq]; simp [packL_length]
  refine (unpack_any ⟨(packL l).toArray⟩ (by rw [hs]; omega) w).mono fun e w' ⟨g, c, h1, h2⟩ => ?_
  have e1 : unpackL (⟨(packL l).toArray⟩ : ByteArray).data.toList = l ++ List.replicate (8 * ((l.length + 7) / 8) - l.length) false := unpack_pack l
  rw [e1] at h1 h2
  have hln : (l ++ List.replicate (8 * ((l.length + 7) / 8) - l.length) false).length = 8 * ((l.length + 7) / 8) := by simp; omega
  have hc := h2.cap
  have hat := h2.at
  rw [hln] at h1 hc
  refine ⟨g, c, h1, ⟨⟨fun i hi => ?_⟩, fun i hi hm => ?_⟩, hc.1, hc.2, h2.below⟩
  · rw [hat.cell i (by rw [hln]; omega)]
    rw [List.getD_eq_getElem?_getD, List.getElem?_append_left hi, List.getD_eq_getElem?_getD]
  · have := hat.cell i (by rw [hln]; exact hm)
    rw [Nat.zero_add] at this
    rw [this, List.getD_eq_getElem?_getD, List.getElem?_append_right hi, List.getElem?_replicate]
    split <;> rfl
theorem same_back {w1 w2 w : World} {g1 c1 g2 c2 n m : Nat} {l : List Bool} (h1 : Back w1 g1 c1 n m l) (h2 : Held w2 g2 c2 l) (k1 : Below w1.heap.size w1 w) (k2 : Below w2.heap.size w2 w) (hl : l.length ≤ maxLen) (c : Nat) :
    Calls Try.prog 12 #[.slice (some ⟨g1, 0, Option.none⟩) l.length c, .slice (some ⟨g2, 0, Option.none⟩) l.length c2] w fun e w' => e = .returned (.bool true) ∧ Below w.heap.size w w' := by
  have := same_any l l hl hl g1 0 c g2 0 c2 w (h1.bits.below k1) (h2.later k2)
  rwa [decide_eq_true rfl] at this
/-- the two boxes, in every later world -/
theorem boxes (w : World) (x1 x2 x3 y1 y2 y3 : Int) : ∀ w', Below ((w.alloc (.cells #[.int .i64 x1, .int .i64 x2, .int .i64 x3] 24)).alloc (.cells #[.int .i64 y1, .int .i64 y2, .int .i64 y3] 24)).heap.size ((w.alloc (.cells #[.int .i64 x1, .int .i64 x2, .int .i64 x3] 24)).alloc (.cells #[.int .i64 y1, .int .i64 y2, .int .i64 y3] 24)) w' →
    w'.cell? ⟨w.heap.size, 0, Option.none⟩ = some (.int .i64 x1) ∧ w'.cell? ⟨w.heap.size, 1, Option.none⟩ = some (.int .i64 x2) ∧ w'.cell? ⟨w.heap.size + 1, 0, Option.none⟩ = some (.int .i64 y1) ∧ w'.cell? ⟨w.heap.size + 1, 1, Option.none⟩ = some (.int .i64 y2) := by
  intro w' hb
  have key : ∀ b o v, ((w.alloc (.cells #[.int .i64 x1, .int .i64 x2, .int .i64 x3] 24)).alloc (.cells #[.int .i64 y1, .int .i64 y2, .int .i64 y3] 24)).cell? ⟨b, o, Option.none⟩ = some v → w'.cell? ⟨b, o, Option.none⟩ = some v := fun b o v h => by
    rw [hb.cell (p := ⟨b, o, Option.none⟩) (World.block_lt_of_cell? _ _ h)]; exact h
  have e : w.heap.size + 1 = (w.alloc (.cells #[.int .i64 x1, .int .i64 x2, .int .i64 x3] 24)).heap.size := by simp
  refine ⟨key _ _ _ ?_, key _ _ _ ?_, key _ _ _ ?_, key _ _ _ ?_⟩
  · rw [World.cell?_alloc_old _ _ _ (by simp)]; simp
  · rw [World.cell?_alloc_old _ _ _ (by simp)]; simp
  · rw [e]; simp
  · rw [e]; simp
set_option maxHeartbeats 2000000 in
theorem back_in (p : Option Addr) (l : List Bool) (cap : Nat) (x1 x2 x3 y1 y2 y3 : Int) (w : World) (hl : Lay w p l cap) (hf : fits x1 x2 = true) (hn : l.length ≤ 5000) :
    Calls Try.prog 3 #[.slice p l.length cap, num3 x1 x2 x3, num3 y1 y2 y3] w fun e w' => e = .returned (.bool true) ∧ Below w.heap.size w w' := by
  have hp := fun w2 hb => put_lay (w2 := w2) hl hb x1 x2 hf
  have zn : (l.length : Int) ≤ 5000 := by omega
  have hB := Lib.hid (two_boxes w (.cells #[.int .i64 x1, .int .i64 x2, .int .i64 x3] 24) (.cells #[.int .i64 y1, .int .i64 y2, .int .i64 y3] 24))
  have HX := Lib.hid (boxes w x1 x2 x3 y1 y2 y3)
  have hxl : x2.toNat ≤ 30 := by obtain ⟨a, b, e1, e2, e3, _, _⟩ := fits_nat hf; rw [e2]; omega
  have hcl : (l ++ dig x1.toNat x2.toNat).length ≤ 5030 := by rw [List.length_append, dig_length]; omega
  clear hl
  unfold num3
  by_cases hy : fits y1 y2 = true
  case' pos =>
    have hyl : y2.toNat ≤ 30 := by obtain ⟨a, b, e1, e2, e3, _, _⟩ := fits_nat hy; rw [e2]; omega
    have hdl : (l ++ dig x1.toNat x2.toNat ++ dig y1.toNat y2.toNat).length ≤ 5060 := by rw [List.length_append, dig_length]; omega
    have hpy := fun {u1 u2 : World} {g c : Nat} (h : Held u1 g c (l ++ dig x1.toNat x2.toNat)) (hb : Below u1.heap.size u1 u2) => put_held h hb y1 y2 hy (by omega)
    have ht := fun {u1 u2 : World} {g c : Nat} (h : Held u1 g c (l ++ dig x1.toNat x2.toNat ++ dig y1.toNat y2.toNat)) (hb : Below u1.heap.size u1 u2) => take_back h hb hf
    have hk := fun {u1 u2 : World} {g c : Nat} (h : Held u1 g c (l ++ dig x1.toNat x2.toNat ++ dig y1.toNat y2.toNat)) (hb : Below u1.heap.size u1 u2) => pack_held h hb (by omega)
    have hu := unpack_back (l ++ dig x1.toNat x2.toNat ++ dig y1.toNat y2.toNat) (by omega)
    have hs := fun {u1 u2 u : World} {g1 c1 g2 c2 n m : Nat} (h1 : Back u1 g1 c1 n m (l ++ dig x1.toNat x2.toNat ++ dig y1.toNat y2.toNat)) (h2 : Held u2 g2 c2 (l ++ dig x1.toNat x2.toNat ++ dig y1.toNat y2.toNat)) (k1 : Below u1.heap.size u1 u) (k2 : Below u2.heap.size u2 u) (c : Nat) => same_back h1 h2 k1 k2 (by unfold maxLen; omega) c
    generalize l ++ dig x1.toNat x2.toNat ++ dig y1.toNat y2.toNat = D at *
    generalize (⟨(packL D).toArray⟩ : ByteArray) = S at *
    generalize hLU : 8 * ((D.length + 7) / 8) = LU at *
    have zu1 : (LU : Int) ≤ D.length + 7 := by omega
    have zu2 : (D.length : Int) ≤ LU := by omega
    generalize l ++ dig x1.toNat x2.toNat = C at *
    have zc : (C.length : Int) ≤ 5030 := by omega
    have zd : (D.length : Int) ≤ 5060 := by omega
    clear hLU hcl hdl hyl hxl hf hn hy
    go_enter Try.func3, Try.ntmps3
    go_wp2_with (first
      | (go_at_call 7; ((with_reducible refine (hp _ hB.out).mono ?_); rintro e w0 ⟨g, c, rfl, HH, H0⟩; replace HH := Lib.hid HH; replace H0 := Lib.hid H0))
      | (go_at_call 8; ((with_reducible refine (fixed_any w0).mono ?_); rintro e w1 ⟨rfl, H1⟩; replace H1 := Lib.hid H1; obtain ⟨q1, q2, q3, q4⟩ := HX.out _ (H0.out.next H1.out)))
      | (go_at_call 7; ((with_reducible refine (hpy HH.out H1.out).mono ?_); rintro e w2 ⟨gd, cd, rfl, HD, H2⟩; replace HD := Lib.hid HD; replace H2 := Lib.hid H2; obtain ⟨q5, q6, _, _⟩ := HX.out _ ((H0.out.next H1.out).next H2.out)))
      | (go_at_call 9; ((with_reducible refine (ht HD.out (Below.refl _ _)).mono ?_); rintro e w' ⟨rfl, h'⟩; cases h'))
      | (go_at_call 11; ((with_reducible refine (hk HD.out (Below.refl _ _)).mono ?_); rintro e w3 ⟨rfl, H3⟩; replace H3 := Lib.hid H3))
      | (go_at_call 10; ((with_reducible refine (hu _).mono ?_); rintro e w4 ⟨gu, cu, rfl, HU, hu1, hu2, H4⟩; replace HU := Lib.hid HU; replace H4 := Lib.hid H4; have hu3 : (LU : Int) ≤ cu := (by omega); have hu4 : (cu : Int) ≤ 9223372036854775807 := (by unfold maxLen at hu2; omega); clear hu1 hu2))
      | (go_at_call 12; ((with_reducible refine (hs HU.out HD.out (Below.refl _ _) (H3.out.next H4.out) _).mono ?_); rintro e w5 ⟨rfl, H5⟩; replace H5 := Lib.hid H5)))
    have HZ : Hid (∀ i, D.length ≤ i → i < LU → w5.cell? ⟨gu, i, Option.none⟩ = some (.bool false)) := by
      show ∀ _, _
      intro i h1 h2
      have h3 := HU.out.zero i h1 h2
      rw [H5.out.cell (p := ⟨gu, i, Option.none⟩) (World.block_lt_of_cell? _ _ h3)]
      exact h3
    have HE : Hid (Below w.heap.size w w5) := ((((hB.out.next H0.out).next H1.out).next H2.out).next H3.out).next H4.out |>.next H5.out
  case' neg =>
    have ht := fun {u1 u2 : World} {g c : Nat} (h : Held u1 g c (l ++ dig x1.toNat x2.toNat ++ [])) (hb : Below u1.heap.size u1 u2) => take_back h hb hf
    simp only [List.append_nil] at ht
    have hk := fun {u1 u2 : World} {g c : Nat} (h : Held u1 g c (l ++ dig x1.toNat x2.toNat)) (hb : Below u1.heap.size u1 u2) => pack_held h hb (by omega)
    have hu := unpack_back (l ++ dig x1.toNat x2.toNat) (by omega)
    have hs := fun {u1 u2 u : World} {g1 c1 g2 c2 n m : Nat} (h1 : Back u1 g1 c1 n m (l ++ dig x1.toNat x2.toNat)) (h2 : Held u2 g2 c2 (l ++ dig x1.toNat x2.toNat)) (k1 : Below u1.heap.size u1 u) (k2 : Below u2.heap.size u2 u) (c : Nat) => same_back h1 h2 k1 k2 (by unfold maxLen; omega) c
    have hpn := fun v w => put_no v y1 y2 (by simpa using hy) w
    generalize l ++ dig x1.toNat x2.toNat = D at *
    generalize (⟨(packL D).toArray⟩ : ByteArray) = S at *
    generalize hLU : 8 * ((D.length + 7) / 8) = LU at *
    have zu1 : (LU : Int) ≤ D.length + 7 := by omega
    have zu2 : (D.length : Int) ≤ LU := by omega
    have zd : (D.length : Int) ≤ 5060 := by omega
    clear hLU hcl hxl hf hn hy
    go_enter Try.func3, Try.ntmps3
    go_wp2_with (first
      | (go_at_call 7; ((with_reducible refine (hp _ hB.out).mono ?_); rintro e w0 ⟨g, c, rfl, HH, H0⟩; replace HH := Lib.hid HH; replace H0 := Lib.hid H0))
      | (go_at_call 8; ((with_reducible refine (fixed_any w0).mono ?_); rintro e w1 ⟨rfl, H1⟩; replace H1 := Lib.hid H1; obtain ⟨q1, q2, q3, q4⟩ := HX.out _ (H0.out.next H1.out)))
      | (go_at_call 7; ((with_reducible refine (hpn _ _).mono ?_); rintro e w' ⟨rfl, h'⟩; cases h'))
      | (go_at_call 9; ((with_reducible refine (ht HH.out H1.out).mono ?_); rintro e w' ⟨rfl, h'⟩; cases h'))
      | (go_at_call 11; ((with_reducible refine (hk HH.out H1.out).mono ?_); rintro e w3 ⟨rfl, H3⟩; replace H3 := Lib.hid H3))
      | (go_at_call 10; ((with_reducible refine (hu _).mono ?_); rintro e w4 ⟨gu, cu, rfl, HU, hu1, hu2, H4⟩; replace HU := Lib.hid HU; replace H4 := Lib.hid H4; have hu3 : (LU : Int) ≤ cu := (by omega); have hu4 : (cu : Int) ≤ 9223372036854775807 := (by unfold maxLen at hu2; omega); clear hu1 hu2))
      | (go_at_call 12; ((with_reducible refine (hs HU.out HH.out (Below.refl _ _) ((H1.out.next H3.out).next H4.out) _).mono ?_); rintro e w5 ⟨rfl, H5⟩; replace H5 := Lib.hid H5)))
    have HZ : Hid (∀ i, D.length ≤ i → i < LU → w5.cell? ⟨gu, i, Option.none⟩ = some (.bool false)) := by
      show ∀ _, _
      intro i h1 h2
      have h3 := HU.out.zero i h1 h2
      rw [H5.out.cell (p := ⟨gu, i, Option.none⟩) (World.block_lt_of_cell? _ _ h3)]
      exact h3
    have HE : Hid (Below w.heap.size w w5) := (((hB.out.next H0.out).next H1.out).next H3.out).next H4.out |>.next H5.out
  all_goals
    clear hp ht hk hu hs HX hB
    go_loop [15] (fun i => ∃ m : Nat, D.length ≤ m ∧ m ≤ LU ∧ i = .int .i64 m) (fun i => LU - (RowKit.intOf i).toNat)
    case atStart => exact ⟨D.length, Nat.le_refl _, by omega, rfl⟩
    case round =>
      obtain ⟨m, hm1, hm2, rfl⟩ := hrel
      by_cases hlt : m < LU
      · have c5 := HZ.out m hm1 hlt
        have zm : (m : Int) < LU := by omega
        go_wp2
        go_round
        case rel => exact ⟨m + 1, by omega, by omega, by go_num⟩
        case measure => simp [RowKit.intOf]; omega
      · have e : m = LU := by omega
        subst e
        go_wp2
        go_ret
        exact ⟨rfl, HE.out⟩
end Go.Proofs.Ytiimghgolaijhaa
