/-
  Package device's keepSome: of a disk in memory of its own those writes kept that are told.
-/
import Derived.Test.YtaamjamcnnalbaaDvO
namespace Go.Proofs.Ytaamjamcnnalbaa.Dv
set_option maxRecDepth 100000
open Go.RowKit Go.Lib
theorem lie_others {w wr : World} {g : Nat} {α : Type} {S : Shape α} {p : Option Addr} {L : List α} {c : Nat} (h : SLie S w p L c) (hs : 0 < S.size) (ho : ∀ b, b < w.heap.size → b ≠ g → wr.heap[b]? = w.heap[b]?) (hg : ∀ a, p = some a → L ≠ [] → a.block ≠ g) : SLie S wr p L c :=
  slie_same h (fun b off e hl => ho b (by
    have hi : 0 < L.length := List.length_pos_iff.2 hl
    obtain ⟨b', off', e', hk⟩ := h.at hi
    rw [e] at e'
    cases e'
    have : ∃ v, (S.cells L[0])[0]? = some v := ⟨_, List.getElem?_eq_getElem (by rw [S.len]; exact hs)⟩
    obtain ⟨v, hv⟩ := this
    exact World.block_lt_of_cell? w _ (hk 0 hi 0 v hv)) (hg _ e hl))
theorem lie_flags2 {w wr : World} {g : Nat} {p : Option Addr} {L : List Bool} {c : Nat} (h : FlagsLie w p L c) (ho : ∀ b, b < w.heap.size → b ≠ g → wr.heap[b]? = w.heap[b]?) (hg : ∀ a, p = some a → L ≠ [] → a.block ≠ g) : FlagsLie wr p L c := by
  cases p with
  | none =>
    refine ⟨h.len, h.cap, ?_⟩
    rcases h.lies with k | ⟨_, _, k, _⟩
    · exact .inl k
    · cases k
  | some a => exact lie_flags (lie_others (flags_lie h) (by decide) ho hg)
/-- keepSome's memory -/
structure Kp (B g : Nat) (w wr : World) (L : List ByteArray) (n c0 : Nat) (p1 : Option Addr) (m c1 : Nat) (fuse : Int) (p3 : Option Addr) (k c3 : Nat) (dead : Bool) : Prop where
  below : Below B w wr
  others : ∀ b, b < w.heap.size → b ≠ g → wr.heap[b]? = w.heap[b]?
  box : Box wr w.heap.size (some ⟨g, 0, none⟩) n c0 p1 m c1 fuse p3 k c3 dead
  row : wr.ownsRow B 9 1 (.slice (some ⟨g, 0, none⟩) n c0) n (flat strS L)
theorem Kp.drew {B g : Nat} {w wr : World} {L : List ByteArray} {n c0 : Nat} {p1 : Option Addr} {m c1 : Nat} {fuse : Int} {p3 : Option Addr} {k c3 : Nat} {dead : Bool} (h : Kp B g w wr L n c0 p1 m c1 fuse p3 k c3 dead) : Kp B g w wr.drew L n c0 p1 m c1 fuse p3 k c3 dead := by
  have b := (Below.refl wr.heap.size wr).drew
  exact ⟨h.below.drew, h.others, h.box.below b, own_later h.row b⟩
theorem Kp.store {B g : Nat} {w wr : World} {L : List ByteArray} {n c0 : Nat} {p1 : Option Addr} {m c1 : Nat} {fuse : Int} {p3 : Option Addr} {k c3 : Nat} {dead : Bool} (h : Kp B g w wr L n c0 p1 m c1 fuse p3 k c3 dead) (hg : g < w.heap.size) (a : Nat) (t : ByteArray) :
    Kp B g w (wr.setCell ⟨g, a, none⟩ (.string t)) (L.set a t) n c0 p1 m c1 fuse p3 k c3 dead := by
  refine ⟨h.below.setCell (p := ⟨g, a, none⟩) (own_block h.row _ _ rfl) _, fun b hb hne => (heap_setCell_other wr ⟨g, a, none⟩ b _ hne).trans (h.others b hb hne), h.box.same (heap_setCell_other wr ⟨g, a, none⟩ _ _ (show w.heap.size ≠ g by omega)), ?_⟩
  have := (h.row.stored a (.string t)).1
  rw [flat_str_set] at this
  exact this
theorem Kp.cells {B g : Nat} {w wr : World} {L : List ByteArray} {n c0 : Nat} {p1 : Option Addr} {m c1 : Nat} {fuse : Int} {p3 : Option Addr} {k c3 : Nat} {dead : Bool} (h : Kp B g w wr L n c0 p1 m c1 fuse p3 k c3 dead) (hl : L.length = n) (a : Nat) (ha : a < n) :
    (∃ v, wr.cell? ⟨g, a, none⟩ = some v) ∧ wr.frozen? ⟨g, a, none⟩ = false := by
  refine ⟨⟨.string (L[a]'(by omega)), ?_⟩, h.row.frozenAt a⟩
  rw [h.row.cellAt a (by omega)]
  have := flat_get (S := strS) L a (by omega) 0 _ rfl
  rw [show a * strS.size + 0 = a by show a * 1 + 0 = a; omega] at this
  exact this
set_option maxHeartbeats 4000000 in
theorem keep_code (B g : Nat) (kept : List ByteArray) (n : Nat) (hn : kept.length = n) (hn5 : n ≤ 5000) (c0 : Nat) (cache : List (Int × ByteArray)) (m : Nat) (hm : cache.length = m) (hm2 : m ≤ 20001) (p1 : Option Addr) (c1 : Nat) (fuse : Int) (p3 : Option Addr) (k c3 : Nat) (dead : Bool)
    (K : List Bool) (kk : Nat) (hkk : K.length = kk) (hk47 : kk ≤ maxLen) (pk : Option Addr) (ck : Nat) (w : World) (h0 : w.ownsRow B 9 1 (.slice (some ⟨g, 0, none⟩) n c0) n (flat strS kept)) (hg : g < w.heap.size) (hB : B ≤ w.heap.size)
    (h1 : SLie putS w p1 cache c1) (hp1 : ∀ a, p1 = some a → cache ≠ [] → a.block ≠ g) (hat : ∀ i (hi : i < cache.length), 0 ≤ cache[i].1 ∧ cache[i].1 < n)
    (hK : FlagsLie w pk K ck) (hpk : ∀ a, pk = some a → K ≠ [] → a.block ≠ g) :
    Calls Try.prog 35 #[.agg #[.slice (some ⟨g, 0, none⟩) n c0, .slice p1 m c1, .int .i64 fuse, .slice p3 k c3, .bool dead], .slice pk kk ck] w fun x w' => x = .returned (.tuple #[]) ∧ w'.ownsRow B 9 1 (.slice (some ⟨g, 0, none⟩) n c0) n (flat strS (dieC kept cache K)) ∧ Below B w w' ∧ ∀ b, b < w.heap.size → b ≠ g → w'.heap[b]? = w.heap[b]? := by
  have zn : (n : Int) ≤ 5000 := by omega
  have zm : (m : Int) ≤ 20001 := by omega
  have zk : (kk : Int) ≤ 9223372036854775807 := by unfold maxLen at hk47; omega
  have zc0 : (n : Int) ≤ c0 := by have := (slie_own (S := strS) h0 hn).len; omega
  have zc1 : (m : Int) ≤ c1 := by have := h1.len; omega
  have zck : (kk : Int) ≤ ck := by have := hK.len; omega
  have hbx := box_new w (some ⟨g, 0, none⟩) n c0 p1 m c1 fuse p3 k c3 dead
  have B1 := (Below.refl w.heap.size w).alloc (Nat.le_refl _) (.cells #[.slice (some ⟨g, 0, none⟩) n c0, .slice p1 m c1, .int .i64 fuse, .slice p3 k c3, .bool dead] 26)
  generalize hw1 : w.alloc (.cells #[.slice (some ⟨g, 0, none⟩) n c0, .slice p1 m c1, .int .i64 fuse, .slice p3 k c3, .bool dead] 26) = w1 at *
  have HR0 : Hid (Kp B g w w1 (dieC kept (cache.take 0) K) n c0 p1 m c1 fuse p3 k c3 dead) := Lib.hid ⟨B1.mono hB, fun b hb _ => B1.block b hb, hbx, own_later (by rw [List.take_zero]; unfold dieC; exact h0) B1⟩
  have HG := Lib.hid hg
  have H1 := Lib.hid h1
  have HK := Lib.hid hK
  have HP1 := Lib.hid hp1
  have HPK := Lib.hid hpk
  have HA := Lib.hid hat
  have Hn := Lib.hid hn
  have Hm := Lib.hid hm
  have Hk := Lib.hid hkk
  have b0 := hbx.kept
  have b1 := hbx.cache
  clear h0 hg hB h1 hp1 hat hK hpk hn hn5 hm hm2 hkk hk47 hbx B1
  obtain ⟨mk, hmk⟩ : ∃ mk : Nat, (mk : Int) = min (m : Int) (kk : Int) ∧ (mk ≤ m ∧ mk ≤ kk ∧ (mk = m ∨ mk = kk)) := ⟨min m kk, by omega, by omega⟩
  have HMK := Lib.hid hmk
  clear hmk
  go_enter Try.func35, Try.ntmps35
  go_wp2
  go_loopw [11] (fun i wr => ∃ j : Nat, i = .int .i64 j ∧ j ≤ mk ∧ Hid (Kp B g w wr (dieC kept (cache.take j) K) n c0 p1 m c1 fuse p3 k c3 dead)) (fun i _ => mk - (RowKit.intOf i).toNat)
  case atStart => exact ⟨0, rfl, Nat.zero_le _, HR0⟩
  case round =>
    clear HR0 b0 b1
    obtain ⟨j, rfl, hj, HR⟩ := hrel
    obtain ⟨f1, f2, f3, f4⟩ := HMK.out
    have d0 := HR.out.box.kept
    have d1 := HR.out.box.cache
    by_cases hlt : j < mk
    · have zj : (j : Int) < mk := by omega
      have zjm : (j : Int) < m := by omega
      have zjk : (j : Int) < kk := by omega
      have hjK : j < K.length := by have := Hk.out; omega
      have hjc : j < cache.length := by have := Hm.out; omega
      have HD := Lib.hid (dieC_step kept cache K j hjc hjK)
      have hK2 : FlagsLie wr pk K ck := lie_flags2 HK.out HR.out.others HPK.out
      obtain ⟨blk, off, rfl, hk⟩ := hK2.at hjK
      have ck0 := flags_cell hk hjK
      obtain ⟨fl, hfl⟩ : ∃ fl, fl = K[j] := ⟨_, rfl⟩
      rw [← hfl] at ck0 HD
      clear hk hfl hK2
      cases fl with
      | true =>
        obtain ⟨bk1, of1, rfl, s1⟩ := (lie_others H1.out (by decide) HR.out.others HP1.out).at hjc
        obtain ⟨cx0, cx1⟩ := put_at s1 hjc
        obtain ⟨a, ha⟩ := Int.eq_ofNat_of_zero_le (HA.out j hjc).1
        have hal : a < n := by have := (HA.out j hjc).2; omega
        rw [ha] at cx0
        have hl : (dieC kept (cache.take j) K).length = n := by rw [dieC_length, Hn.out]
        have HD2 : Hid (dieC kept (cache.take (j + 1)) K = (dieC kept (cache.take j) K).set a cache[j].2) := by
          show _ = _
          rw [HD.out, if_pos rfl, ha]
          unfold setAt
          rw [Int.toNat_natCast]
        obtain ⟨t, ht⟩ : ∃ t, t = cache[j].2 := ⟨_, rfl⟩
        rw [← ht] at cx1 HD2
        have HN : Hid (Kp B g w (wr.drew.setCell ⟨g, a, none⟩ (.string t)) (dieC kept (cache.take (j + 1)) K) n c0 (some ⟨bk1, of1, none⟩) m c1 fuse p3 k c3 dead) := Lib.hid (by rw [HD2.out]; exact HR.out.drew.store HG.out a t)
        obtain ⟨⟨vk, k0⟩, k1⟩ := HR.out.drew.cells hl a hal
        have za : (a : Int) < n := by omega
        clear s1 ha ht hal HD HD2 hl HR f1 f4
        go_wp2_with fail
        go_still_tail 14, (by kernel_rfl)
        go_wp2
        go_roundw
        case measure => simp [RowKit.intOf]; omega
        case rel => exact ⟨j + 1, by go_num, by omega, HN⟩
      | false =>
        go_wp2
        go_roundw
        case measure => simp [RowKit.intOf]; omega
        case rel => exact ⟨j + 1, by go_num, by omega, by rw [HD.out]; exact HR⟩
    · have zj : ¬ (j : Int) < mk := by omega
      have HE : dieC kept (cache.take j) K = dieC kept cache K := by
        rcases f4 with h | h
        · rw [List.take_of_length_le (by have := Hm.out; omega)]
        · exact dieC_end kept cache K j (by have := Hk.out; omega)
      have HV : Hid (wr.ownsRow B 9 1 (.slice (some ⟨g, 0, none⟩) n c0) n (flat strS (dieC kept cache K))) := Lib.hid (by rw [← HE]; exact HR.out.row)
      have hx : (¬ (j : Int) < m) ∨ ((j : Int) < m ∧ ¬ (j : Int) < kk) := by omega
      clear HE f1 f4 f2 f3 hlt zj
      rcases hx with x1 | ⟨x0, x1⟩
      all_goals
        go_wp2
        go_end0
        exact ⟨rfl, HV.out, HR.out.below, HR.out.others⟩
end Go.Proofs.Ytaamjamcnnalbaa.Dv
