/-
  Package canon's Write; what canon's functions answer, together.
-/
import Derived.Test.YtbkehlppngejnaaCanRc
import Derived.Test.YtbkehlppngejnaaBitPu
import Derived.Test.YtbkehlppngejnaaCanFx
namespace Go.Proofs.Ytbkehlppngejnaa
open Go.RowKit Go.Lib Cn
theorem read_fails (L : List Int) (n : Nat) (m : Nat) (x : Int) (p q : Option Addr) (c d : Nat) (w : World) (hm : ∀ l, MayC l → L ≠ nums l) (hn : L.length = n) (hl : n ≤ 281474976710656) (h : IntsLie w p L c) :
    Calls Try.prog 13 #[.slice p n c, .slice q m d, .int .i64 x] w fun e w' => Below w.heap.size w w' ∧ e = .returned (.tuple #[.int .i64 0, .int .i64 0, .bool false]) := by
  have hmay := may_none L n p c w hm hn hl h
  clear h hm hn
  go_enter Try.func13, Try.ntmps13
  go_wp2_with (first | (go_at_call 19; refine hmay.mono ?_; rintro e w' ⟨rfl, rfl⟩))
  go_ret3
  exact ⟨Below.refl _ _, rfl⟩
theorem row_flags {base : Nat} {w0 w : World} {g cap : Nat} {l : List Bool} (h : RowB base w0 w g cap l) : FlagsLie w (some ⟨g, 0, none⟩) l cap :=
  ⟨h.cap.1, h.cap.2, .inr ⟨g, 0, rfl, h.at.cell⟩⟩
set_option maxHeartbeats 2000000 in
theorem write_is (l : List Nat) (n i : Nat) (p : Option Addr) (c : Nat) (w : World) (hm : MayC l) (hn : l.length = n) (h1 : 1 ≤ l.getD i 0) (h : IntsLie w p (nums l) c) :
    Calls Try.prog 11 #[.slice p n c, .int .i64 i] w fun e w' => Below w.heap.size w w' ∧ ∃ q d, e = .returned (.tuple #[.slice q (code l i).length d, .bool true]) ∧ FlagsLie w' q (code l i) d := by
  have hi := there_lt h1
  have hc := codes_is l n p c w hm hn h
  have hb := bits_lt hm.le hm.kraft h1
  have h15 := hm.le i
  have hcode : Hid (code l i = Mb.dig (bitsOf l i) (l.getD i 0)) := rfl
  have hget : (codesOf l).getD i (0, 0) = (l.getD i 0, bitsOf l i) := by rw [codesOf_get l hi, codeOf_one h1]
  have HG := Lib.hid hget
  have hlen : Hid (i < (codesOf l).length) := by show _ < _; rw [codesOf_length]; exact hi
  have HEl : Hid ((codesOf l).length = n) := by show _ = _; rw [codesOf_length]; exact hn
  have ii : (i : Int) < n := by omega
  have zn : (n : Int) ≤ 300 := by have := hm.len; omega
  generalize code l i = cd at *
  generalize codesOf l = E at *
  generalize bitsOf l i = bt at *
  generalize l.getD i 0 = y at *
  have z1 : (1 : Int) ≤ y := by omega
  have zq : ((y : Int) == 0) = false := by rw [beq_eq_false_iff_ne]; omega
  have i0 : (0 : Int) ≤ (i : Int) := by omega
  have in2 : ¬ (n : Int) ≤ i := by omega
  clear hget h hm hn hi
  go_enter Try.func11, Try.ntmps11
  go_wp2_with fail
  go_at_call 9
  refine hc.mono ?_
  rintro e w1 ⟨hb1, q, d, rfl, hE⟩
  obtain ⟨g, o, rfl, hA⟩ := hE.at hlen.out
  obtain ⟨a1, a2⟩ := hA i hlen.out
  rw [HG.out] at a1 a2
  have hcd : (n : Int) ≤ d := by have := hE.len; have := HEl.out; omega
  have HB1 := Lib.hid hb1
  have HP := Lib.hid (fun (w : World) => put_nil bt y (by omega) hb w)
  clear hc hE hA hb1
  go_wp2
  have hp := HP.out w1.drew
  go_region_held3 (fun w' => w'.cell? ⟨g, o + i * 2, none⟩ = some (.int .i64 (y : Nat)) ∧ w'.cell? ⟨g, o + i * 2 + 1, none⟩ = some (.int .i64 (bt : Nat)))
    (first | go_keep | exact ⟨by rw [hF.below.cell (p := ⟨g, o + i * 2, none⟩) (World.block_lt_of_cell? w1 _ a1)]; exact a1, by rw [hF.below.cell (p := ⟨g, o + i * 2 + 1, none⟩) (World.block_lt_of_cell? w1 _ a2)]; exact a2⟩)
    (first | (go_at_call 21; refine hp.mono ?_; rintro e w2 ⟨g2, c2, rfl, hF⟩))
  have HF := Lib.hid hF
  have HBn := Lib.hid (HB1.out.drew.next hF.below)
  clear hp a1 a2 hF HP HB1
  simp only [Exit.then]
  go_wp2
  go_ret2
  exact ⟨HBn.out, some ⟨g2, 0, none⟩, c2, by rw [hcode.out]; rfl, by rw [hcode.out]; exact row_flags HF.out⟩
set_option maxHeartbeats 2000000 in
theorem write_none (L : List Int) (n : Nat) (x : Int) (p : Option Addr) (c : Nat) (w : World) (hx : ∀ l, MayC l → L = nums l → ∀ i : Nat, x = i → ¬ 1 ≤ l.getD i 0) (hn : L.length = n) (hl : n ≤ 1000000) (h : IntsLie w p L c) :
    Calls Try.prog 11 #[.slice p n c, .int .i64 x] w fun e w' => Below w.heap.size w w' ∧ ∃ q d, d ≤ maxLen ∧ e = .returned (.tuple #[.slice q 0 d, .bool false]) := by
  by_cases hm : ∃ l, MayC l ∧ L = nums l
  · obtain ⟨l, hm, rfl⟩ := hm
    have hll : l.length = n := by rw [← hn, nums_len]
    have hc := codes_is l n p c w hm hll h
    have zn : (n : Int) ≤ 300 := by have := hm.len; omega
    by_cases h0 : 0 ≤ x ∧ x < n
    · obtain ⟨i, rfl⟩ := Int.eq_ofNat_of_zero_le h0.1
      have hi : i < l.length := by omega
      have ii : (i : Int) < n := h0.2
      have i0 : (0 : Int) ≤ (i : Int) := by omega
      have in2 : ¬ (n : Int) ≤ i := by omega
      have HG : Hid ((codesOf l).getD i (0, 0) = (0, 0)) := by
        show _ = _
        rw [codesOf_get l hi, codeOf_none (hx l hm rfl i rfl)]
      have hlen : Hid (i < (codesOf l).length) := by show _ < _; rw [codesOf_length]; exact hi
      have HEl : Hid ((codesOf l).length = n) := by show _ = _; rw [codesOf_length]; exact hll
      clear h hm hn hi h0 hx hll hl
      generalize codesOf l = E at *
      go_enter Try.func11, Try.ntmps11
      go_wp2_with fail
      go_at_call 9
      refine hc.mono ?_
      rintro e w1 ⟨hb1, q, d, rfl, hE⟩
      obtain ⟨g, o, rfl, hA⟩ := hE.at hlen.out
      obtain ⟨a1, _⟩ := hA i hlen.out
      rw [HG.out] at a1
      have a1' : w1.cell? ⟨g, o + i * 2, none⟩ = some (.int .i64 0) := a1
      have hcd : (n : Int) ≤ d := by have := hE.len; have := HEl.out; omega
      have HB1 := Lib.hid hb1
      clear hc hb1 hE hA a1
      go_wp2
      go_ret2
      exact ⟨HB1.out, _, 0, Nat.zero_le _, rfl⟩
    · clear h hm hn hx hll hl
      by_cases h1 : x < 0
      · clear h0
        go_enter Try.func11, Try.ntmps11
        go_wp2_with fail
        go_at_call 9
        refine hc.mono ?_
        rintro e w1 ⟨hb1, q, d, rfl, _⟩
        have HB1 := Lib.hid hb1
        clear hc hb1
        go_wp2
        go_ret2
        exact ⟨HB1.out, _, 0, Nat.zero_le _, rfl⟩
      · have h2 : 0 ≤ x := by omega
        have h3 : (n : Int) ≤ x := by omega
        clear h0 h1
        go_enter Try.func11, Try.ntmps11
        go_wp2_with fail
        go_at_call 9
        refine hc.mono ?_
        rintro e w1 ⟨hb1, q, d, rfl, _⟩
        have HB1 := Lib.hid hb1
        clear hc hb1
        go_wp2
        go_ret2
        exact ⟨HB1.out, _, 0, Nat.zero_le _, rfl⟩
  · have hc := codes_none L n p c w (fun l h1 h2 => hm ⟨l, h1, h2⟩) hn (by omega) h
    clear h hm hn hx
    go_enter Try.func11, Try.ntmps11
    go_wp2_with fail
    go_at_call 9
    refine hc.mono ?_
    rintro e w1 ⟨hb1, q, d, _, rfl⟩
    have HB1 := Lib.hid hb1
    clear hc hb1
    go_wp2
    go_ret2
    exact ⟨HB1.out, _, 0, Nat.zero_le _, rfl⟩
theorem read_yes (l : List Nat) (n : Nat) (b : List Bool) (m at_ i : Nat) (p q : Option Addr) (c d : Nat) (w : World) (hm : MayC l) (hn : l.length = n) (hb : b.length = m) (hh : hit l b at_ i = true) (h : IntsLie w p (nums l) c) (hq : FlagsLie w q b d) :
    Calls Try.prog 13 #[.slice p n c, .slice q m d, .int .i64 at_] w fun e w' => Below w.heap.size w w' ∧ e = .returned (.tuple #[.int .i64 i, .int .i64 ((at_ + l.getD i 0 : Nat) : Int), .bool true]) :=
  read_is l n b m at_ p q c d w hm hn hb h hq _
    (fun j at2 e hj => by
      have e2 : at_ = at2 := by omega
      subst e2
      rw [hit_one hm.le hj hh])
    (fun hno => by have := hno i at_ rfl; rw [hh] at this; cases this)
theorem read_none_all (L : List Int) (n : Nat) (b : List Bool) (m : Nat) (x : Int) (p q : Option Addr) (c d : Nat) (w : World) (hno : ∀ l, MayC l → L = nums l → ∀ at_ : Nat, x = at_ → ∀ i, hit l b at_ i = false) (hn : L.length = n) (hl : n ≤ 1000000) (hb : b.length = m) (h : IntsLie w p L c) (hq : FlagsLie w q b d) :
    Calls Try.prog 13 #[.slice p n c, .slice q m d, .int .i64 x] w fun e w' => Below w.heap.size w w' ∧ e = .returned (.tuple #[.int .i64 0, .int .i64 0, .bool false]) := by
  by_cases hm : ∃ l, MayC l ∧ L = nums l
  · obtain ⟨l, hm, rfl⟩ := hm
    refine read_is l n b m x p q c d w hm (by rw [← hn, nums_len]) hb h hq _ (fun i at_ e hh => ?_) (fun _ => rfl)
    rw [hno l hm rfl at_ e i] at hh
    cases hh
  · exact read_fails L n m x p q c d w (fun l h1 h2 => hm ⟨l, h1, h2⟩) hn (by omega) h
theorem spec : SpecP where
  codes l n p c w hm hn h := codes_is l n p c w hm hn h
  codes_no L n p c w hm hn hl h := codes_none L n p c w hm hn hl h
  write l n i p c w hm hn h1 h := write_is l n i p c w hm hn h1 h
  write_no L n x p c w hx hn hl h := write_none L n x p c w hx hn hl h
  read l n b m at_ i p q c d w hm hn hb _ hh h hq := read_yes l n b m at_ i p q c d w hm hn hb hh h hq
  read_no L n b m x p q c d w hno hn hl hb _ h hq := read_none_all L n b m x p q c d w hno hn hl hb h hq
end Go.Proofs.Ytbkehlppngejnaa
