/-
  Package canon's Read, of bits of any number.
-/
import Derived.Test.YtbkehlppngejnaaCanCc
import Derived.Test.YtbkehlppngejnaaCanTk
namespace Go.Proofs.Ytbkehlppngejnaa
open Go.RowKit Go.Lib Cn
/-- bits below the first code of their number begin with a shorter code -/
theorem below_hit {l : List Nat} {b : List Bool} {at_ m : Nat} (h1 : 1 ≤ m) (h15 : m ≤ 15) (hlen : at_ + m ≤ b.length) (h : Mb.num ((b.drop at_).take m) < Cn.base l m) :
    ∃ i, l.getD i 0 < m ∧ hit l b at_ i = true := by
  obtain ⟨m, rfl⟩ : ∃ k, m = k + 1 := ⟨m - 1, by omega⟩
  have hP : 0 < 2 ^ (15 - (m + 1)) := Nat.pow_pos (by decide)
  have hv : Mb.num ((b.drop at_).take (m + 1)) * 2 ^ (15 - (m + 1)) < low l (m + 1) := by
    rw [← base_low l (m + 1) h1 h15]
    exact Nat.mul_lt_mul_of_pos_right h hP
  obtain ⟨n, h2, h3, h4, h5⟩ := low_find l _ m hv
  rw [low_succ l h2] at h5
  have hp : 0 < 2 ^ (15 - n) := Nat.pow_pos (by decide)
  have hc := num_cut (b.drop at_) (m := n) (n := m + 1) (by omega) (by rw [List.length_drop]; omega)
  obtain ⟨v, hve⟩ : ∃ v, v = Mb.num ((b.drop at_).take (m + 1)) * 2 ^ (15 - (m + 1)) := ⟨_, rfl⟩
  rw [← hve] at h4 h5
  have hdiv : v / 2 ^ (15 - n) = Mb.num ((b.drop at_).take n) := by
    rw [← hc, hve, show 15 - n = (m + 1 - n) + (15 - (m + 1)) by omega, Nat.pow_add, Nat.mul_comm (2 ^ (m + 1 - n)), ← Nat.div_div_eq_div_mul, Nat.mul_div_cancel _ hP]
  obtain ⟨i, _, hi2, hi3⟩ := cnt_find l n l.length ((v - low l n) / 2 ^ (15 - n)) ((Nat.div_lt_iff_lt_mul hp).2 (by omega))
  refine ⟨i, by omega, hit_iff.2 ⟨by omega, by omega, ?_⟩⟩
  rw [hi2, ← hdiv]
  have hb := base_low l n h2 (by omega)
  unfold bitsOf
  rw [hi2, hi3]
  have e : v = (v - low l n) + Cn.base l n * 2 ^ (15 - n) := by rw [hb]; omega
  rw [Nat.add_comm]
  conv => lhs; rw [e]
  exact Nat.add_mul_div_right _ _ hp
theorem hit_in {l : List Nat} {b : List Bool} {at_ i : Nat} (h : hit l b at_ i = true) : at_ + l.getD i 0 ≤ b.length := (hit_iff.1 h).2.1
set_option maxRecDepth 100000 in
set_option maxHeartbeats 4000000 in
theorem read_is (l : List Nat) (n : Nat) (b : List Bool) (m : Nat) (x : Int) (p q : Option Addr) (c d : Nat) (w : World) (hm : MayC l) (hn : l.length = n) (hb : b.length = m) (h : IntsLie w p (nums l) c) (hq : FlagsLie w q b d)
    (ans : Value) (H1 : ∀ i at_ : Nat, x = at_ → hit l b at_ i = true → ans = .tuple #[.int .i64 i, .int .i64 ((at_ + l.getD i 0 : Nat) : Int), .bool true]) (H0 : (∀ i at_ : Nat, x = at_ → hit l b at_ i = false) → ans = .tuple #[.int .i64 0, .int .i64 0, .bool false]) :
    Calls Try.prog 13 #[.slice p n c, .slice q m d, .int .i64 x] w fun e w' => Below w.heap.size w w' ∧ e = .returned ans := by
  have hmay := may_yes l n p c w hm hn h
  have hla := laid_at l n p c w hm hn h
  have zn : (n : Int) ≤ 300 := by have := hm.len; omega
  have HM := Lib.hid hm
  have Hn := Lib.hid hn
  have Hb := Lib.hid hb
  have HQ := Lib.hid hq
  have HA1 := Lib.hid H1
  have HA0 := Lib.hid H0
  have hp16 := Lib.hid (fun (k : Nat) (hk : k < 16) => show prevC l k ≤ 16384 by have h1 := base_prev l k; have h2 := base_le hm (show k ≤ 15 by omega); omega)
  clear h hm hn hb hq H1 H0
  go_enter Try.func13, Try.ntmps13
  go_wp2_with (first | (go_at_call 19; refine hmay.mono ?_; rintro e w' ⟨rfl, rfl⟩) | (go_at_call 20; refine hla.mono ?_; rintro e w2 ⟨hb2, vs, hvl, rfl, hrows⟩))
  have HB2 := Lib.hid hb2
  have HR2 := Lib.hid hrows
  have HQ2 := Lib.hid (HQ.out.below hb2)
  clear hmay hla hb2 hrows HQ
  go_loop [9, 20] (fun y v => ∃ k : Nat, v = .int .i64 k ∧ k ≤ 16 ∧ y = .int .i64 (prevC l k : Nat) ∧ Hid (∀ i at_ : Nat, x = at_ → l.getD i 0 < k → hit l b at_ i = false)) (fun _ v => 16 - (RowKit.intOf v).toNat)
  case atStart => exact ⟨0, rfl, by omega, rfl, Lib.hid fun i at_ _ h => by omega⟩
  case round =>
    obtain ⟨k, rfl, hk, rfl, HN⟩ := hrel
    by_cases hlt : k < 16
    · have hix := index_rows vs hvl hlt w2
      obtain ⟨q1, d1, hv⟩ := HR2.out.form hlt
      rw [hv] at hix
      have hp := hp16.out k hlt
      have HBP := Lib.hid (base_prev l k)
      have HTP : Hid (prevC l (k + 1) = Cn.base l k + (rowOf l k n).length) := by
        show topC l k = _
        rw [top_row, Hn.out]
      have hle := rowOf_le l k n
      have hown := HR2.out k hlt
      rw [hv] at hown
      have ht := take_lies b m q d x k w2 HQ2.out Hb.out (by omega)
      have ki : (k : Int) < 16 := by omega
      have HS := Lib.hid (fun (hh : ∀ i at_ : Nat, x = at_ → l.getD i 0 = k → hit l b at_ i = false) => show ∀ i at_ : Nat, x = at_ → l.getD i 0 < k + 1 → hit l b at_ i = false from fun i at_ hx hi => by
        by_cases e : l.getD i 0 = k
        · exact hh i at_ hx e
        · exact HN.out i at_ hx (by omega))
      by_cases hin : 0 ≤ x ∧ x + k ≤ m
      · have hV : tkV b x k = .tuple #[.int .i64 (Mb.num ((b.drop x.toNat).take k) : Int), .int .i64 ((x.toNat + k : Nat) : Int), .bool true] := by unfold tkV; rw [if_pos (by rw [Hb.out]; exact hin)]
        rw [hV] at ht
        obtain ⟨at_, rfl⟩ := Int.eq_ofNat_of_zero_le hin.1
        simp only [Int.toNat_natCast] at ht
        have hnlt : Mb.num ((b.drop at_).take k) < 32768 := by
          have h1 := Mb.num_lt ((b.drop at_).take k)
          have h2 : 2 ^ ((b.drop at_).take k).length ≤ 2 ^ 15 := Nat.pow_le_pow_right (by decide) (by rw [List.length_take]; omega)
          omega
        have hge : Cn.base l k ≤ Mb.num ((b.drop at_).take k) := by
          rcases Nat.eq_zero_or_pos k with e | e
          · subst e; exact Nat.zero_le _
          · rcases Nat.lt_or_ge (Mb.num ((b.drop at_).take k)) (Cn.base l k) with z | z
            · obtain ⟨i, hi1, hi2⟩ := below_hit (l := l) e (by omega) (by rw [Hb.out]; omega) z
              have := HN.out i at_ rfl hi1
              rw [this] at hi2; cases hi2
            · exact z
        by_cases hj : Mb.num ((b.drop at_).take k) - Cn.base l k < (rowOf l k n).length
        · have hk0 : k ≠ 0 := fun e => by rw [e, rowOf_zero] at hj; simp at hj
          obtain ⟨g1, rfl⟩ : ∃ g1, q1 = some ⟨g1, 0, none⟩ := by
            rcases hown.2 with ⟨h1, h2⟩ | ⟨g', cap', cur, h1, _⟩
            · omega
            · cases h1; exact ⟨_, rfl⟩
          have cx := (hown.cellAt (Mb.num ((b.drop at_).take k) - Cn.base l k) (by omega)).trans (iv_get _ hj)
          obtain ⟨s1, s2, s3⟩ := rowOf_get l hk0 n _ hj
          have hkd : ((rowOf l k n).length : Int) ≤ d1 := by
            rcases hown.2 with ⟨h1, _⟩ | ⟨g', cap', cur, h1, _, _, h2, _⟩
            · cases h1
            · cases h1; omega
          have hh : hit l b at_ ((rowOf l k n).getD (Mb.num ((b.drop at_).take k) - Cn.base l k) 0) = true := by
            refine hit_iff.2 ⟨by omega, by rw [s2, Hb.out]; omega, ?_⟩
            unfold bitsOf
            rw [s2, s3]; omega
          have HV := HA1.out _ at_ rfl hh
          rw [s2] at HV
          replace HV := Lib.hid HV
          have eb : Mb.num ((b.drop at_).take k) - Cn.base l k = Mb.num ((b.drop at_).take k) - prevC l k * 2 := by have := HBP.out; omega
          rw [eb] at cx hj HV s1
          have hge2 : prevC l k * 2 ≤ Mb.num ((b.drop at_).take k) := by have := HBP.out; omega
          generalize (rowOf l k n).getD (Mb.num ((b.drop at_).take k) - prevC l k * 2) 0 = sy at *
          generalize (rowOf l k n).length = kk at *
          generalize Mb.num ((b.drop at_).take k) = v at *
          generalize prevC l k = y at *
          have zy : (y : Int) ≤ 16384 := by omega
          have zv : (v : Int) ≤ 32767 := by omega
          have zj : (v : Int) - (y : Int) * 2 < kk := by omega
          have zj0 : (0 : Int) ≤ (v : Int) - (y : Int) * 2 := by omega
          have zkk : (kk : Int) ≤ 300 := by omega
          clear hown hv HBP HTP HS HN hj eb hge hge2 hnlt hV s1 s2 s3 hh hk0 hp hle hlt hk hin
          go_wp2_with (first | (go_at_call 23; ((with_reducible refine ht.mono ?_); rintro e w' ⟨rfl, rfl⟩)))
          go_ret3
          exact ⟨HB2.out, by rw [HV.out]; rfl⟩
        · have HN2 := Lib.hid (HS.out fun i at2 hx hi => by
            have e2 : at_ = at2 := by omega
            subst e2
            cases hh : hit l b at_ i with
            | false => rfl
            | true =>
              obtain ⟨h1, h2, h3⟩ := hit_iff.1 hh
              have hk0 : k ≠ 0 := by omega
              rw [hi] at h3
              unfold bitsOf at h3
              rw [hi] at h3
              have h4 := cnt_step l hi
              have h5 := cnt_mono l k (show i + 1 ≤ l.length from there_lt h1)
              have h6 := rowOf_length l hk0 n
              rw [← Hn.out] at h6
              rw [← Hn.out] at hj
              omega)
          have hge2 : prevC l k * 2 ≤ Mb.num ((b.drop at_).take k) := by have := HBP.out; omega
          have hj2 : (rowOf l k n).length ≤ Mb.num ((b.drop at_).take k) - prevC l k * 2 := by have := HBP.out; omega
          have HT2 : Hid (prevC l (k + 1) = 2 * prevC l k + (rowOf l k n).length) := by show _ = _; rw [HTP.out, HBP.out]
          generalize (rowOf l k n).length = kk at *
          generalize Mb.num ((b.drop at_).take k) = v at *
          generalize prevC l k = y at *
          have zy : (y : Int) ≤ 16384 := by omega
          have zv : (v : Int) ≤ 32767 := by omega
          have zj : (kk : Int) ≤ (v : Int) - (y : Int) * 2 := by omega
          have zkk : (kk : Int) ≤ 300 := by omega
          clear hown hv HBP HTP HS HN hj hj2 hge hge2 hnlt hV hp hle hlt hk hin
          go_wp2_with (first | (go_at_call 23; ((with_reducible refine ht.mono ?_); rintro e w' ⟨rfl, rfl⟩)))
          go_round
          case rel => exact ⟨k + 1, by go_num, by omega, by rw [HT2.out]; go_num, HN2⟩
          case measure => simp [RowKit.intOf]; omega
      · have hV : tkV b x k = .tuple #[.int .i64 0, .int .i64 0, .bool false] := by unfold tkV; rw [if_neg (by rw [Hb.out]; exact hin)]
        rw [hV] at ht
        have HN2 := Lib.hid (HS.out fun i at2 hx hi => by
          cases hh : hit l b at2 i with
          | false => rfl
          | true =>
            have := hit_in hh
            rw [hi] at this
            have := Hb.out
            omega)
        have HT2 : Hid (prevC l (k + 1) = 2 * prevC l k + (rowOf l k n).length) := by show _ = _; rw [HTP.out, HBP.out]
        generalize (rowOf l k n).length = kk at *
        generalize prevC l k = y at *
        have zy : (y : Int) ≤ 16384 := by omega
        have zkk : (kk : Int) ≤ 300 := by omega
        clear hown hv HBP HTP HS HN hV hp hle hlt hk hin
        go_wp2_with (first | (go_at_call 23; ((with_reducible refine ht.mono ?_); rintro e w' ⟨rfl, rfl⟩)))
        go_round
        case rel => exact ⟨k + 1, by go_num, by omega, by rw [HT2.out]; go_num, HN2⟩
        case measure => simp [RowKit.intOf]; omega
    · have e : k = 16 := by omega
      subst e
      have HV := Lib.hid (HA0.out fun i at_ hx => HN.out i at_ hx (by have := HM.out.le i; omega))
      generalize prevC l 16 = y at *
      clear hlt hk HN
      go_wp2
      go_ret3
      exact ⟨HB2.out, by rw [HV.out]; rfl⟩
end Go.Proofs.Ytbkehlppngejnaa
