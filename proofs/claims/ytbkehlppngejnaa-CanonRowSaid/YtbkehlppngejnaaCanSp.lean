/-
  What Codes, Write and Read must answer, told once for the package's functions and the document's; the document's answer so.
-/
import Derived.Test.YtbkehlppngejnaaCanCo
import Derived.Deep.RegionHeld3
namespace Go.Proofs.Ytbkehlppngejnaa
open Go.RowKit Go.Lib Cn
/-- what the three functions answer -/
structure SpecC (C W R : FuncId) : Prop where
  codes : ∀ (l : List Nat) (n : Nat) (p : Option Addr) (c : Nat) (w : World), MayC l → l.length = n → IntsLie w p (nums l) c →
    Calls Try.prog C #[.slice p n c] w fun e w' => Below w.heap.size w w' ∧ ∃ q d, e = .returned (.tuple #[.slice q n d, .bool true]) ∧ CodesLie w' q (codesOf l) d
  codes_no : ∀ (L : List Int) (n : Nat) (p : Option Addr) (c : Nat) (w : World), (∀ l, MayC l → L ≠ nums l) → L.length = n → n ≤ 281474976710656 → IntsLie w p L c →
    Calls Try.prog C #[.slice p n c] w fun e w' => Below w.heap.size w w' ∧ ∃ q d, d ≤ maxLen ∧ e = .returned (.tuple #[.slice q 0 d, .bool false])
  write : ∀ (l : List Nat) (n i : Nat) (p : Option Addr) (c : Nat) (w : World), MayC l → l.length = n → 1 ≤ l.getD i 0 → IntsLie w p (nums l) c →
    Calls Try.prog W #[.slice p n c, .int .i64 i] w fun e w' => Below w.heap.size w w' ∧ ∃ q d, e = .returned (.tuple #[.slice q (code l i).length d, .bool true]) ∧ FlagsLie w' q (code l i) d
  write_no : ∀ (L : List Int) (n : Nat) (x : Int) (p : Option Addr) (c : Nat) (w : World), (∀ l, MayC l → L = nums l → ∀ i : Nat, x = i → ¬ 1 ≤ l.getD i 0) → L.length = n → n ≤ 1000000 → IntsLie w p L c →
    Calls Try.prog W #[.slice p n c, .int .i64 x] w fun e w' => Below w.heap.size w w' ∧ ∃ q d, d ≤ maxLen ∧ e = .returned (.tuple #[.slice q 0 d, .bool false])
  read : ∀ (l : List Nat) (n : Nat) (b : List Bool) (m at_ i : Nat) (p q : Option Addr) (c d : Nat) (w : World), MayC l → l.length = n → b.length = m → m ≤ 100000 → hit l b at_ i = true → IntsLie w p (nums l) c → FlagsLie w q b d →
    Calls Try.prog R #[.slice p n c, .slice q m d, .int .i64 at_] w fun e w' => Below w.heap.size w w' ∧ e = .returned (.tuple #[.int .i64 i, .int .i64 ((at_ + l.getD i 0 : Nat) : Int), .bool true])
  read_no : ∀ (L : List Int) (n : Nat) (b : List Bool) (m : Nat) (x : Int) (p q : Option Addr) (c d : Nat) (w : World), (∀ l, MayC l → L = nums l → ∀ at_ : Nat, x = at_ → ∀ i, hit l b at_ i = false) → L.length = n → n ≤ 1000000 → b.length = m → m ≤ 100000 → IntsLie w p L c → FlagsLie w q b d →
    Calls Try.prog R #[.slice p n c, .slice q m d, .int .i64 x] w fun e w' => Below w.heap.size w w' ∧ e = .returned (.tuple #[.int .i64 0, .int .i64 0, .bool false])
theorem codes_ok (l : List Nat) (n : Nat) (p : Option Addr) (c : Nat) (w : World) (hm : MayC l) (hn : l.length = n) (h : IntsLie w p (nums l) c) :
    Calls Try.prog 10 #[.slice p n c] w fun e w' => Below w.heap.size w w' ∧ ∃ q d, e = .returned (.tuple #[.slice q n d, .bool true]) ∧ CodesLie w' q (codesOf l) d := by
  refine (codes_doc (nums l) n (by rw [nums_len]; exact hn) p c w h (by have := hm.len; omega)).mono ?_
  rintro e w' ⟨hb, ⟨m, _, e1, q, d, e2, e3⟩ | ⟨h1, _⟩⟩
  · rw [← nums_inj e1] at e3
    exact ⟨hb, q, d, e2, e3⟩
  · exact absurd rfl (h1 l hm)
theorem codes_no (L : List Int) (n : Nat) (p : Option Addr) (c : Nat) (w : World) (hm : ∀ l, MayC l → L ≠ nums l) (hn : L.length = n) (hl : n ≤ 281474976710656) (h : IntsLie w p L c) :
    Calls Try.prog 10 #[.slice p n c] w fun e w' => Below w.heap.size w w' ∧ ∃ q d, d ≤ maxLen ∧ e = .returned (.tuple #[.slice q 0 d, .bool false]) := by
  refine (codes_doc L n hn p c w h hl).mono ?_
  rintro e w' ⟨hb, ⟨m, h1, e1, _⟩ | ⟨_, h2⟩⟩
  · exact absurd e1 (hm m h1)
  · exact ⟨hb, h2⟩
theorem codeOf_one {l : List Nat} {i : Nat} (h : 1 ≤ l.getD i 0) : codeOf l i = (l.getD i 0, bitsOf l i) := by unfold codeOf; rw [if_pos h]
theorem codeOf_none {l : List Nat} {i : Nat} (h : ¬ 1 ≤ l.getD i 0) : codeOf l i = (0, 0) := by unfold codeOf; rw [if_neg h]
set_option maxHeartbeats 2000000 in
theorem write_ok (l : List Nat) (n i : Nat) (p : Option Addr) (c : Nat) (w : World) (hm : MayC l) (hn : l.length = n) (h1 : 1 ≤ l.getD i 0) (h : IntsLie w p (nums l) c) :
    Calls Try.prog 12 #[.slice p n c, .int .i64 i] w fun e w' => Below w.heap.size w w' ∧ ∃ q d, e = .returned (.tuple #[.slice q (code l i).length d, .bool true]) ∧ FlagsLie w' q (code l i) d := by
  have hi := there_lt h1
  have hc := codes_ok l n p c w hm hn h
  have hb := bits_lt hm.le hm.kraft h1
  have h15 := hm.le i
  have hcode : Hid (code l i = Mb.dig (bitsOf l i) (l.getD i 0)) := rfl
  have hget : (codesOf l).getD i (0, 0) = (l.getD i 0, bitsOf l i) := by rw [codesOf_get l hi, codeOf_one h1]
  have HG := Lib.hid hget
  have hlen : Hid (i < (codesOf l).length) := by show _ < _; rw [codesOf_length]; exact hi
  have HEl : Hid ((codesOf l).length = n) := by show _ = _; rw [codesOf_length]; exact hn
  obtain ⟨blk, off, rfl, hcl⟩ := h.at (i := i) (by rw [nums_len]; exact hi)
  have cx := hcl i (by rw [nums_len]; exact hi)
  rw [nums_get] at cx
  have CX := Lib.hid (fun (w' : World) (hb : Below w.heap.size w w') => show w'.cell? ⟨blk, off + i, none⟩ = some (.int .i64 (l.getD i 0 : Nat)) by rw [hb.cell (p := ⟨blk, off + i, none⟩) (World.block_lt_of_cell? w _ cx)]; exact cx)
  have hcap : (n : Int) ≤ c := by have := h.len; rw [nums_len] at this; omega
  have ii : (i : Int) < n := by omega
  have zn : (n : Int) ≤ 300 := by have := hm.len; omega
  generalize code l i = cd at *
  generalize codesOf l = E at *
  generalize bitsOf l i = bt at *
  generalize l.getD i 0 = y at *
  have z1 : (1 : Int) ≤ y := by omega
  clear hget cx hcl h hm hn hi
  go_enter Try.func12, Try.ntmps12
  go_wp2_with fail
  go_at_call 10
  refine hc.mono ?_
  rintro e w1 ⟨hb1, q, d, rfl, hE⟩
  obtain ⟨g, o, rfl, hA⟩ := hE.at hlen.out
  obtain ⟨a1, a2⟩ := hA i hlen.out
  rw [HG.out] at a1 a2
  have cy := CX.out w1 hb1
  have hcd : (n : Int) ≤ d := by have := hE.len; have := HEl.out; omega
  have HB1 := Lib.hid hb1
  have HP := Lib.hid (fun (w : World) => put_doc bt y (by omega) hb w)
  clear hc hE hA hb1 CX
  go_wp2
  have hp := HP.out w1.drew
  have i0 : (0 : Int) ≤ (i : Int) := by omega
  go_region_held3 (fun w' => w'.cell? ⟨g, o + i * 2, none⟩ = some (.int .i64 (y : Nat)) ∧ w'.cell? ⟨g, o + i * 2 + 1, none⟩ = some (.int .i64 (bt : Nat)))
    (first | go_keep | exact ⟨by rw [hF.below.cell (p := ⟨g, o + i * 2, none⟩) (World.block_lt_of_cell? w1 _ a1)]; exact a1, by rw [hF.below.cell (p := ⟨g, o + i * 2 + 1, none⟩) (World.block_lt_of_cell? w1 _ a2)]; exact a2⟩)
    (first | (go_at_call 22; refine hp.mono ?_; rintro e w2 ⟨g2, c2, rfl, hF⟩))
  have HF := Lib.hid hF
  have HBn := Lib.hid (HB1.out.drew.next hF.below)
  clear hp a1 a2 cy hF HP HB1
  simp only [Exit.then]
  go_wp2
  go_ret2
  exact ⟨HBn.out, some ⟨g2, 0, none⟩, c2, by rw [hcode.out]; rfl, by rw [hcode.out]; exact HF.out.lies⟩
set_option maxHeartbeats 2000000 in
theorem write_no (L : List Int) (n : Nat) (x : Int) (p : Option Addr) (c : Nat) (w : World) (hx : ∀ l, MayC l → L = nums l → ∀ i : Nat, x = i → ¬ 1 ≤ l.getD i 0) (hn : L.length = n) (hl : n ≤ 1000000) (h : IntsLie w p L c) :
    Calls Try.prog 12 #[.slice p n c, .int .i64 x] w fun e w' => Below w.heap.size w w' ∧ ∃ q d, d ≤ maxLen ∧ e = .returned (.tuple #[.slice q 0 d, .bool false]) := by
  by_cases hm : ∃ l, MayC l ∧ L = nums l
  · obtain ⟨l, hm, rfl⟩ := hm
    have hll : l.length = n := by rw [← hn, nums_len]
    have hc := codes_ok l n p c w hm hll h
    have zn : (n : Int) ≤ 300 := by have := hm.len; omega
    by_cases h0 : 0 ≤ x ∧ x < n
    · obtain ⟨i, rfl⟩ := Int.eq_ofNat_of_zero_le h0.1
      have hi : i < n := by omega
      have ii : (i : Int) < n := h0.2
      have hy := hx l hm rfl i rfl
      obtain ⟨blk, off, rfl, hcl⟩ := h.at (i := i) (by rw [nums_len, hll]; exact hi)
      have cx := hcl i (by rw [nums_len, hll]; exact hi)
      rw [nums_get, show l.getD i 0 = 0 by omega] at cx
      have CX := Lib.hid (fun (w' : World) (hb : Below w.heap.size w w') => show w'.cell? ⟨blk, off + i, none⟩ = some (.int .i64 ((0 : Nat) : Int)) by rw [hb.cell (p := ⟨blk, off + i, none⟩) (World.block_lt_of_cell? w _ cx)]; exact cx)
      have hcap : (n : Int) ≤ c := by have := h.len; rw [nums_len] at this; omega
      clear cx hcl h hm hn hi h0 hx hy hll hl
      go_enter Try.func12, Try.ntmps12
      go_wp2_with fail
      go_at_call 10
      refine hc.mono ?_
      rintro e w1 ⟨hb1, q, d, rfl, _⟩
      have cy := CX.out w1 hb1
      have HB1 := Lib.hid hb1
      clear hc hb1 CX
      go_wp2
      go_ret2
      exact ⟨HB1.out, _, 0, Nat.zero_le _, rfl⟩
    · clear h hm hn hx hll hl
      by_cases h1 : x < 0
      · clear h0
        go_enter Try.func12, Try.ntmps12
        go_wp2_with fail
        go_at_call 10
        refine hc.mono ?_
        rintro e w1 ⟨hb1, q, d, rfl, _⟩
        have HB1 := Lib.hid hb1
        clear hc hb1
        go_wp2
        go_ret2
        exact ⟨HB1.out, _, 0, Nat.zero_le _, rfl⟩
      · have h2 : 0 ≤ x := by omega
        have h3 : (n : Int) ≤ x := by omega
        clear h0 h1
        go_enter Try.func12, Try.ntmps12
        go_wp2_with fail
        go_at_call 10
        refine hc.mono ?_
        rintro e w1 ⟨hb1, q, d, rfl, _⟩
        have HB1 := Lib.hid hb1
        clear hc hb1
        go_wp2
        go_ret2
        exact ⟨HB1.out, _, 0, Nat.zero_le _, rfl⟩
  · have hc := codes_no L n p c w (fun l h1 h2 => hm ⟨l, h1, h2⟩) hn (by omega) h
    clear h hm hn hx
    go_enter Try.func12, Try.ntmps12
    go_wp2_with fail
    go_at_call 10
    refine hc.mono ?_
    rintro e w1 ⟨hb1, q, d, _, rfl⟩
    have HB1 := Lib.hid hb1
    clear hc hb1
    go_wp2
    go_ret2
    exact ⟨HB1.out, _, 0, Nat.zero_le _, rfl⟩
set_option maxHeartbeats 4000000 in
theorem read_may (l : List Nat) (n : Nat) (b : List Bool) (m : Nat) (x : Int) (p q : Option Addr) (c d : Nat) (w : World) (hm : MayC l) (hn : l.length = n) (hb : b.length = m) (hbm : m ≤ 100000) (h : IntsLie w p (nums l) c) (hq : FlagsLie w q b d)
    (ans : Value) (H1 : ∀ i at_ : Nat, x = at_ → hit l b at_ i = true → ans = .tuple #[.int .i64 i, .int .i64 ((at_ + l.getD i 0 : Nat) : Int), .bool true]) (H0 : (∀ i at_ : Nat, x = at_ → hit l b at_ i = false) → ans = .tuple #[.int .i64 0, .int .i64 0, .bool false]) :
    Calls Try.prog 14 #[.slice p n c, .slice q m d, .int .i64 x] w fun e w' => Below w.heap.size w w' ∧ e = .returned ans := by
  have hc := codes_ok l n p c w hm hn h
  have zn : (n : Int) ≤ 300 := by have := hm.len; omega
  have zm : (m : Int) ≤ 100000 := by omega
  have HQ := Lib.hid hq
  have HM := Lib.hid hm
  have Hn := Lib.hid hn
  have Hb := Lib.hid hb
  have HA1 := Lib.hid H1
  have HA0 := Lib.hid H0
  clear h hm hn hb hq H1 H0
  go_enter Try.func14, Try.ntmps14
  go_wp2_with fail
  go_at_call 10
  refine hc.mono ?_
  rintro e w1 ⟨hb1, q1, d1, rfl, hE⟩
  have HB1 := Lib.hid hb1
  have HE := Lib.hid hE
  have HQ1 := Lib.hid (HQ.out.below hb1)
  have hd1 : (n : Int) ≤ d1 := by have := hE.len; rw [codesOf_length, Hn.out] at this; omega
  clear hc hb1 hE HQ
  go_wp2
  go_loop [11] (fun v => ∃ i : Nat, i ≤ n ∧ v = .int .i64 i ∧ Hid (∀ j at_ : Nat, j < i → x = at_ → hit l b at_ j = false)) (fun v => n - (RowKit.intOf v).toNat)
  case atStart => exact ⟨0, Nat.zero_le _, rfl, fun j _ hj => by omega⟩
  case round =>
    obtain ⟨i, hi, rfl, HN⟩ := hrel
    by_cases hlt : i < n
    · have ii : (i : Int) < n := by omega
      obtain ⟨g, o, rfl, hA⟩ := HE.out.at (i := i) (by rw [codesOf_length, Hn.out]; exact hlt)
      obtain ⟨a1, a2⟩ := hA i (by rw [codesOf_length, Hn.out]; exact hlt)
      rw [codesOf_get l (by rw [Hn.out]; exact hlt)] at a1 a2
      have HS := Lib.hid (fun (hh : ∀ at_ : Nat, x = at_ → hit l b at_ i = false) => show ∀ j at_ : Nat, j < i + 1 → x = at_ → hit l b at_ j = false from fun j at_ hj hx => by
        by_cases e : j = i
        · subst e; exact hh at_ hx
        · exact HN.out j at_ (by omega) hx)
      clear hA
      by_cases h1 : 1 ≤ l.getD i 0
      · rw [codeOf_one h1] at a1 a2
        have h15 := HM.out.le i
        have z15 : ((l.getD i 0 : Nat) : Int) ≤ 15 := by omega
        have z1 : (1 : Int) ≤ ((l.getD i 0 : Nat) : Int) := by omega
        by_cases hr : x < 0 ∨ (m : Int) < x + (l.getD i 0 : Nat)
        · have ht := take_not b q d (l.getD i 0) x (by omega) (by rw [Hb.out]; exact hr) (by rw [Hb.out]; omega) w1
          have HN2 := Lib.hid (HS.out fun at_ hx => by
            cases hh : hit l b at_ i with
            | false => rfl
            | true =>
              have := hit_iff.1 hh
              have := Hb.out
              omega)
          rw [Hb.out] at ht
          clear HS HN hr h15
          generalize l.getD i 0 = y at *
          generalize bitsOf l i = bt at *
          go_wp2_with fail
          go_at_call 24
          refine ht.mono ?_
          rintro e w2 ⟨rfl, rfl⟩
          clear ht
          go_wp2
          go_round
          case rel => exact ⟨i + 1, by omega, by go_num, HN2⟩
          case measure => simp [RowKit.intOf]; omega
        · obtain ⟨at_, rfl⟩ := Int.eq_ofNat_of_zero_le (show 0 ≤ x by omega)
          have hle : at_ + l.getD i 0 ≤ b.length := by rw [Hb.out]; omega
          have ht := take_doc b q d at_ (l.getD i 0) (by omega) hle (by rw [Hb.out]; omega) w1 HQ1.out
          rw [Hb.out] at ht
          have HA := Lib.hid (fun hh => HA1.out i at_ rfl hh)
          have hhit : Hid (hit l b at_ i = decide (Mb.num ((b.drop at_).take (l.getD i 0)) = bitsOf l i)) := by
            show _ = _
            unfold hit
            rw [decide_eq_true (show 0 < l.getD i 0 by omega), decide_eq_true hle]; rfl
          have HSx := Lib.hid (fun (hh : hit l b at_ i = false) => HS.out fun at2 hx => by
            have : at_ = at2 := by omega
            rw [← this]; exact hh)
          rw [hhit.out] at HA HSx
          clear HS HN hr h15 hle hhit
          generalize l.getD i 0 = y at *
          generalize bitsOf l i = bt at *
          generalize Mb.num ((b.drop at_).take y) = nm at *
          by_cases hnb : nm = bt
          · subst hnb
            have HV := Lib.hid (HA.out (decide_eq_true rfl))
            clear HA HSx
            go_wp2_with fail
            go_at_call 24
            refine ht.mono ?_
            rintro e w2 ⟨rfl, rfl⟩
            clear ht
            go_wp2
            go_ret3
            exact ⟨HB1.out, by rw [HV.out]; rfl⟩
          · have HN2 := Lib.hid (HSx.out (decide_eq_false hnb))
            have hnz : ((nm : Int) == (bt : Int)) = false := by rw [beq_eq_false_iff_ne]; omega
            clear HA HSx hnb
            go_wp2_with fail
            go_at_call 24
            refine ht.mono ?_
            rintro e w2 ⟨rfl, rfl⟩
            clear ht
            go_wp2
            go_round
            case rel => exact ⟨i + 1, by omega, by go_num, HN2⟩
            case measure => simp [RowKit.intOf]; omega
      · rw [codeOf_none h1] at a1 a2
        have HN2 := Lib.hid (HS.out fun at_ _ => by
          cases hh : hit l b at_ i with
          | false => rfl
          | true => exact absurd (hit_iff.1 hh).1 (by omega))
        clear HS HN h1
        go_wp2
        go_round
        case rel => exact ⟨i + 1, by omega, by go_num, HN2⟩
        case measure => simp [RowKit.intOf]; omega
    · have e : i = n := by omega
      subst e
      have HV := Lib.hid (HA0.out fun j at_ hx => by
        by_cases hj : j < i
        · exact HN.out j at_ hj hx
        · cases hh : hit l b at_ j with
          | false => rfl
          | true =>
            have := there_lt (hit_iff.1 hh).1
            have := Hn.out
            omega)
      clear HN
      go_wp2
      go_ret3
      exact ⟨HB1.out, by rw [HV.out]; rfl⟩
theorem read_not (L : List Int) (n : Nat) (m : Nat) (x : Int) (p q : Option Addr) (c d : Nat) (w : World) (hm : ∀ l, MayC l → L ≠ nums l) (hn : L.length = n) (hl : n ≤ 1000000) (h : IntsLie w p L c) :
    Calls Try.prog 14 #[.slice p n c, .slice q m d, .int .i64 x] w fun e w' => Below w.heap.size w w' ∧ e = .returned (.tuple #[.int .i64 0, .int .i64 0, .bool false]) := by
  have hc := codes_no L n p c w hm hn (by omega) h
  clear h hm hn
  go_enter Try.func14, Try.ntmps14
  go_wp2_with fail
  go_at_call 10
  refine hc.mono ?_
  rintro e w1 ⟨hb1, q1, d1, _, rfl⟩
  have HB1 := Lib.hid hb1
  clear hc hb1
  go_wp2
  go_ret3
  exact ⟨HB1.out, rfl⟩
theorem specDoc : SpecC 10 12 14 where
  codes := codes_ok
  codes_no := codes_no
  write := write_ok
  write_no := write_no
  read := fun l n b m at_ i p q c d w hm hn hb hbm hh h hq => read_may l n b m at_ p q c d w hm hn hb hbm h hq _
    (fun j at2 hx hj => by
      have e : at_ = at2 := by omega
      subst e
      rw [hit_one hm.le hj hh])
    (fun h0 => by rw [h0 i at_ rfl] at hh; cases hh)
  read_no := fun L n b m x p q c d w hno hn hl hb hbm h hq => by
    by_cases hm : ∃ l, MayC l ∧ L = nums l
    · obtain ⟨l, hm, rfl⟩ := hm
      exact read_may l n b m x p q c d w hm (by rw [← hn, nums_len]) hb hbm h hq _
        (fun j at_ hx hj => by rw [hno l hm rfl at_ hx j] at hj; cases hj) (fun _ => rfl)
    · exact read_not L n m x p q c d w (fun l h1 h2 => hm ⟨l, h1, h2⟩) hn hl h
end Go.Proofs.Ytbkehlppngejnaa
