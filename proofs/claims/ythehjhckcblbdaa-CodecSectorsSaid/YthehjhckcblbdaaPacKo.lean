/-
  The reader's tokens.
-/
import Derived.Test.YthehjhckcblbdaaPacKt
namespace Go.Proofs.Ythehjhckcblbdaa.Pk
set_option maxRecDepth 100000
open Go.RowKit Go.Lib Mt Ma Mb Cd Cn
theorem toks_dead {l : List Nat} {b : List Bool} {n f told x : Nat} (h : rdTok l b x = none) (hn : told < n) : rdToks l b n (f + 1) told x = none := by
  rw [rdToks, if_neg (by omega)]
  unfold rdTok at h
  cases hr : readN l b x with
  | none => rfl
  | some s =>
    rw [hr] at h
    simp only at h ⊢
    by_cases h2 : s < 256
    · rw [if_pos h2] at h; cases h
    · rw [if_neg h2] at h ⊢
      cases ht : takeN b (x + l.getD s 0) 8 with
      | none => rfl
      | some y => rw [ht] at h; cases h
theorem toks_shape {l : List Nat} {b : List Bool} {x x' : Nat} {t : Tok} (hl : l.length = 272) (h : rdTok l b x = some (t, x')) : x' ≤ b.length ∧
    ((∃ s : Nat, s < 256 ∧ t = ⟨s, 0, 0⟩ ∧ ∀ n f told, told < n → rdToks l b n (f + 1) told x = (rdToks l b n f (told + 1) x').map fun r => (⟨s, 0, 0⟩ :: r.1, r.2)) ∨
      ∃ y u : Nat, y ≤ 255 ∧ 3 ≤ u ∧ u ≤ 18 ∧ t = ⟨0, y, u⟩ ∧ ∀ n f told, told < n → rdToks l b n (f + 1) told x = if 1 ≤ y ∧ y ≤ told ∧ told + u ≤ n then (rdToks l b n f (told + u) x').map fun r => (⟨0, y, u⟩ :: r.1, r.2) else none) := by
  unfold rdTok at h
  cases hr : readN l b x with
  | none => rw [hr] at h; cases h
  | some s =>
    have hh := hit_iff.1 (read_hit hr)
    have hs : s < 272 := by rw [← hl]; exact there_lt hh.1
    rw [hr] at h
    simp only at h
    by_cases h2 : s < 256
    · rw [if_pos h2] at h
      simp only [Option.some.injEq, Prod.mk.injEq] at h
      obtain ⟨rfl, rfl⟩ := h
      refine ⟨hh.2.1, .inl ⟨s, h2, rfl, fun n f told hn => ?_⟩⟩
      rw [rdToks, if_neg (by omega), hr]
      simp only
      rw [if_pos h2]
    · rw [if_neg h2] at h
      cases ht : takeN b (x + l.getD s 0) 8 with
      | none => rw [ht] at h; cases h
      | some y =>
        rw [ht] at h
        simp only [Option.some.injEq, Prod.mk.injEq] at h
        obtain ⟨rfl, rfl⟩ := h
        have hy : y < 256 := take_lt ht
        refine ⟨(takeN_in ht).1, .inr ⟨y, s - 253, by omega, by omega, by omega, ?_, fun n f told hn => ?_⟩⟩
        · rw [show ((s - 253 : Nat) : Int) = (s : Int) - 253 by omega]
        · rw [rdToks, if_neg (by omega), hr]
          simp only
          rw [if_neg h2, ht]
/-- what tokens answers -/
def ToksA (R : Option (List Tok × Nat)) (B g : Nat) (q : Option Addr) (m d : Nat) (e : Ending) (w' : World) : Prop := match R with
  | some (T, x) => ∃ q' c, e = .returned (.slice q' T.length c) ∧ w'.ownsRow B 48 3 (.slice q' T.length c) T.length (tc T) ∧ Rdr w' g q m d x
  | none => e = .panicked noneP
/-- a round of tokens -/
structure TokR (w wr : World) (g : Nat) (q : Option Addr) (b : List Bool) (m d x bm : Nat) (l : List Nat) (v : Value) (L : Nat) (T : List Tok) : Prop where
  own : wr.ownsRow w.heap.size 48 3 v L (tc T)
  rdr : Rdr wr g q m d x
  bits : Bits w g q b d
  map : MapL w bm l 272
  grown : w.grownBy wr (some g)
  gl : g < w.heap.size
  gb : bm ≠ g
  len : T.length = L
  le : x ≤ m
theorem TokR.bit {w wr : World} {g : Nat} {q : Option Addr} {b : List Bool} {m d x bm : Nat} {l : List Nat} {v : Value} {L : Nat} {T : List Tok} (h : TokR w wr g q b m d x bm l v L T) : Bits wr g q b d :=
  h.bits.kept h.grown (fun j e => by cases e; exact .inl rfl)
theorem TokR.mapl {w wr : World} {g : Nat} {q : Option Addr} {b : List Bool} {m d x bm : Nat} {l : List Nat} {v : Value} {L : Nat} {T : List Tok} (h : TokR w wr g q b m d x bm l v L T) : MapL wr bm l 272 :=
  h.map.kept h.grown (fun e => h.gb (by cases e; rfl))
theorem TokR.far {w wr : World} {g : Nat} {q : Option Addr} {b : List Bool} {m d x bm : Nat} {l : List Nat} {v : Value} {L : Nat} {T : List Tok} (h : TokR w wr g q b m d x bm l v L T) : v.ownBlock = Option.none ∨ v.ownBlock ≠ some g := by
  cases hv : v.ownBlock with
  | none => exact .inl rfl
  | some j => refine .inr fun e => ?_; cases e; have := (h.own.lt _ hv).1; have := h.gl; omega
/-- the reader has gone on -/
theorem TokR.step {w wr w1 : World} {g : Nat} {q : Option Addr} {b : List Bool} {m d x y bm : Nat} {l : List Nat} {v : Value} {L : Nat} {T : List Tok} (h : TokR w wr g q b m d x bm l v L T) (hg : wr.grownBy w1 (some g)) (hR : Rdr w1 g q m d y) (hy : y ≤ m) : TokR w w1 g q b m d y bm l v L T :=
  ⟨h.own.kept hg h.far, hR, h.bits, h.map, grown_trans h.grown hg, h.gl, h.gb, h.len, hy⟩
theorem TokR.below {w wr w1 : World} {g : Nat} {q : Option Addr} {b : List Bool} {m d x bm : Nat} {l : List Nat} {v : Value} {L : Nat} {T : List Tok} (h : TokR w wr g q b m d x bm l v L T) (hb : Below wr.heap.size wr w1) : TokR w w1 g q b m d x bm l v L T :=
  h.step (grown_of hb _) (h.rdr.below hb) h.le
theorem TokR.more {w wr w1 : World} {g : Nat} {q : Option Addr} {b : List Bool} {m d x bm : Nat} {l : List Nat} {v v' : Value} {L : Nat} {T : List Tok} {t : Tok} (h : TokR w wr g q b m d x bm l v L T)
    (hown : w1.ownsRow w.heap.size 48 3 v' (L + 1) (tc T ++ tc [t])) (hg : wr.grownBy w1 v.ownBlock) : TokR w w1 g q b m d x bm l v' (L + 1) (T ++ [t]) := by
  rw [← tc_append] at hown
  refine ⟨hown, h.rdr.kept hg (fun e => ?_), h.bits, h.map, ?_, h.gl, h.gb, by rw [List.length_append, h.len]; rfl, h.le⟩
  · have := (h.own.lt _ e.symm).1; have := h.gl; omega
  · exact ⟨hg.os.trans h.grown.os, hg.tape.trans h.grown.tape, hg.output.trans h.grown.output, Nat.le_trans h.grown.size hg.size, fun i hi hne => (hg.block i (by have := h.grown.size; omega) (fun e => by have := (h.own.lt _ e.symm).1; omega)).trans (h.grown.block i hi hne)⟩
/-- a token's box behind an append -/
theorem box_more {w1 w3 w4 : World} {t : Tok} {o : Obj} {row : Option Nat} (h : w3.heap[w1.heap.size]? = some (.cells #[.int .i64 t.byte, .int .i64 t.dist, .int .i64 t.len] 48 (0, 0))) (hg : (w3.alloc o).grownBy w4 row) (hr : ∀ k, row = some k → k < w1.heap.size) :
    w4.cell? ⟨w1.heap.size, 2, Option.none⟩ = some (.int .i64 t.len) := by
  have hlt : w1.heap.size < w3.heap.size := (Array.getElem?_eq_some_iff.1 h).1
  have e : w4.heap[w1.heap.size]? = some (.cells #[.int .i64 t.byte, .int .i64 t.dist, .int .i64 t.len] 48 (0, 0)) := by
    rw [hg.block _ (by simp; omega) (fun e => absurd (hr _ e.symm) (Nat.lt_irrefl _)), Below.heap_alloc w3 _ _ hlt]; exact h
  rw [cell_of_row _ _ _ _ 48 (0, 0) e]; rfl
set_option maxHeartbeats 8000000 in
theorem tokens_code (b : List Bool) (l : List Nat) (hm : MayC l) (hl : l.length = 272) (g : Nat) (q : Option Addr) (m d x0 bm n : Nat) (hn : n ≤ 1000) (w : World) (hR : Rdr w g q m d x0) (hq : Bits w g q b d) (hb : b.length = m) (hx : x0 ≤ m) (hM : MapL w bm l 272) (hgb : bm ≠ g) :
    Calls Try.prog 76 #[.pointer (some ⟨g, 0, none⟩), .map (some bm), .int .i64 n] w fun e w' => w.grownBy w' (some g) ∧ ToksA (rdToks l b n n 0 x0) w.heap.size g q m d e w' := by
  have H0 : Hid (TokR w w g q b m d x0 bm l (.slice none 0 0) 0 []) := Lib.hid ⟨World.ownsRow_nil _ _ _ _, hR, hq, hM, grown_refl _ _, hR.lt, hgb, rfl, hx⟩
  obtain ⟨Q, hQ⟩ : ∃ Q, Q = rdToks l b n n 0 x0 := ⟨_, rfl⟩
  rw [← hQ]
  have HQ : Hid ((0 ≤ n ∧ n ≤ 0 + n ∧ (rdToks l b n n 0 x0).map (fun r => (([] : List Tok) ++ r.1, r.2)) = Q) ∨ (n < 0 ∧ Q = none)) := Lib.hid (.inl ⟨Nat.zero_le _, by omega, by rw [hQ]; cases rdToks l b n n 0 x0 <;> simp⟩)
  have HM := Lib.hid hm
  have HL := Lib.hid hl
  have HB := Lib.hid hb
  have HY := Lib.hid need_yes
  have HX := Lib.hid need_no
  have zn : (n : Int) ≤ 1000 := by omega
  obtain ⟨i0, hi0, hz0, hz1, hz2⟩ := info_parts infoTok
  clear hR hq hM hx hm hl hb hgb hQ
  go_enter Try.func76, Try.ntmps76
  go_wp2
  go_loopw [7, 8] (fun v a wr => ∃ (x told f L : Nat) (T : List Tok), a = .int .i64 told ∧ told ≤ 1017 ∧ L ≤ told ∧ Hid ((told ≤ n ∧ n ≤ told + f ∧ (rdToks l b n f told x).map (fun r => (T ++ r.1, r.2)) = Q) ∨ (n < told ∧ Q = none)) ∧ Hid (TokR w wr g q b m d x bm l v L T)) (fun _ a _ => n - (RowKit.intOf a).toNat)
  case atStart => exact ⟨x0, 0, n, 0, [], rfl, by omega, Nat.le_refl _, HQ, H0⟩
  case round =>
    clear HQ H0
    obtain ⟨x, told, f, L, T, rfl, ht, hL, HE, HR⟩ := hrel
    by_cases hlt : told < n
    · have zt : (told : Int) < n := by omega
      have hE : told ≤ n ∧ n ≤ told + f ∧ (rdToks l b n f told x).map (fun r => (T ++ r.1, r.2)) = Q := by
        rcases HE.out with h | h
        · exact h
        · omega
      obtain ⟨f, rfl⟩ : ∃ h, f = h + 1 := ⟨f - 1, by omega⟩
      have htok := token_code b l HM.out HL.out g q m d x bm wr HR.out.rdr HR.out.bit HB.out HR.out.le HR.out.mapl HR.out.gb
      cases hr : rdTok l b x with
      | none =>
        have HN : Hid (Q = none) := Lib.hid (by rw [← hE.2.2, toks_dead hr hlt]; rfl)
        rw [hr] at htok
        clear hE HE hr
        go_wp2_with fail
        go_at_call 92
        refine htok.mono ?_
        rintro e w1 ⟨hg1, h1⟩
        replace h1 : e = .panicked noneP := h1
        subst h1
        have HG := Lib.hid (grown_trans HR.out.grown hg1)
        clear htok hg1 HR
        go_wp2
        exact ⟨rfl, HG.out, by rw [HN.out]; exact rfl⟩
      | some tx =>
        obtain ⟨t, x'⟩ := tx
        rw [hr] at htok
        obtain ⟨hx', hsh⟩ := toks_shape HL.out hr
        rw [HB.out] at hx'
        rcases hsh with ⟨s, hs, rfl, hst⟩ | ⟨y, u, hy, hu1, hu2, rfl, hst⟩
        · have HE2 : Hid ((told + 1 ≤ n ∧ n ≤ told + 1 + f ∧ (rdToks l b n f (told + 1) x').map (fun r => ((T ++ [⟨s, 0, 0⟩]) ++ r.1, r.2)) = Q) ∨ (n < told + 1 ∧ Q = none)) := Lib.hid (.inl ⟨by omega, by omega, by rw [← hE.2.2, hst n f told hlt, map_more]⟩)
          have km : ∀ w, Calls Try.prog 55 #[.agg #[.int .i64 s, .int .i64 0, .int .i64 0]] w fun e w' => e = .returned (.bool true) ∧ Below w.heap.size w w' := fun w => by
            have := may_code ⟨s, 0, 0⟩ w
            rw [Pk.may_byte (x := s) (by omega)] at this
            exact this
          clear hst hE HE hr
          go_wp2_with fail
          go_at_call 92
          refine htok.mono ?_
          rintro e w1 ⟨hg1, h1⟩
          obtain ⟨rfl, hr1⟩ : e = .returned (.agg #[.int .i64 s, .int .i64 0, .int .i64 0]) ∧ Rdr w1 g q m d x' := h1
          have H1 := Lib.hid (HR.out.step hg1 hr1 hx')
          have HV := Lib.hid (fun k h => (H1.out.own.lt k h).2)
          have qb := fun w3 hb => box_cells w1 ⟨s, 0, 0⟩ w3 hb
          have HA := Lib.hid (Below.alloc (Below.refl w1.heap.size w1) (Nat.le_refl _) (.cells #[.int .i64 s, .int .i64 0, .int .i64 0] 48))
          clear htok hg1 hr1 HR
          go_wp2_with fail
          go_at_call 55
          refine (km _).mono ?_
          rintro e w3 ⟨rfl, hb3⟩
          obtain ⟨q0, q1, q2, q3⟩ := qb _ hb3
          have H3 := Lib.hid (H1.out.below (HA.out.trans (hb3.mono (by simp))))
          clear km qb hb3 H1 HA
          go_wp2_with fail
          go_at_call 93
          refine (HY.out _).mono ?_
          rintro e w4 ⟨rfl, rfl⟩
          obtain ⟨w3, rfl⟩ : ∃ w3, w3 = w4 := ⟨_, rfl⟩
          have zL : L ≤ 1017 := by omega
          go_wp2_with (with_reducible refine stop_append ?_)
          unfold Stop
          have o1 := fun O => (H3.out.own).alloc (w := w3) O
          have o3 : w.heap.size ≤ (w3.alloc (.cells #[.int .i64 (s : Int), .int .i64 0, .int .i64 0] 48)).heap.size := by have := H3.out.grown.size; simp; omega
          refine wpList_append_own _ rfl _ _ 36 rfl w.heap.size 48 i0 (.agg #[.int .i64 0, .int .i64 0, .int .i64 0]) 3 24 Try.underlying36 hi0 hz0 hz1 hz2 rfl (by decide) _ L (tc T) rfl (o1 _) ⟨w3.heap.size, 0, Option.none⟩ 1 1 (tc [⟨s, 0, 0⟩]) rfl rfl (tok_new w3 ⟨s, 0, 0⟩) (tc_one _) (by unfold maxLen; omega) (by omega) o3 ?_
          intro v4 w4 own4 gr4 nn4
          have H4 := Lib.hid ((H3.out.below ((Below.refl w3.heap.size w3).alloc (Nat.le_refl _) (.cells #[.int .i64 (s : Int), .int .i64 0, .int .i64 0] 48))).more own4 gr4)
          have hbx : w4.cell? ⟨w1.heap.size, 2, none⟩ = some (.int .i64 0) := box_more (t := ⟨s, 0, 0⟩) q0 gr4 HV.out
          clear own4 gr4 nn4 o1 o3 H3 q0 q1 q2 q3
          go_wp2
          go_roundw
          case measure => simp [RowKit.intOf]; omega
          case rel => exact ⟨x', told + 1, f, L + 1, _, by go_num, by omega, by omega, HE2, H4⟩
        · have km : ∀ w, Calls Try.prog 55 #[.agg #[.int .i64 0, .int .i64 y, .int .i64 u]] w fun e w' => e = .returned (.bool (may ⟨0, y, u⟩)) ∧ Below w.heap.size w w' := fun w => may_code ⟨0, y, u⟩ w
          have qb := fun w1 w3 hb => box_cells w1 ⟨0, y, u⟩ w3 hb
          have HH := Lib.hid (fun (w1 : World) (h1 : wr.grownBy w1 (some g)) (h2 : Rdr w1 g q m d x') => HR.out.step h1 h2 hx')
          replace htok : Calls Try.prog 92 #[.pointer (some ⟨g, 0, none⟩), .map (some bm)] wr fun e w' => wr.grownBy w' (some g) ∧ (e = .returned (.agg #[.int .i64 0, .int .i64 y, .int .i64 u]) ∧ Rdr w' g q m d x') := htok
          have zy : (y : Int) ≤ 255 := by omega
          have zu : (u : Int) ≤ 18 := by omega
          have zu3 : (3 : Int) ≤ u := by omega
          have zmax : (1 : Int) ≤ u := by omega
          by_cases hy0 : y = 0
          · have HN : Hid (Q = none) := Lib.hid (by rw [← hE.2.2, hst n f told hlt, if_neg (by omega)]; rfl)
            subst hy0
            have hmay : may ⟨0, ((0 : Nat) : Int), u⟩ = false := by simp [may]; omega
            rw [show ((0 : Nat) : Int) = 0 from rfl] at hmay km htok qb
            rw [hmay] at km
            clear hst hE HE hr hmay HR
            go_wp2_with fail
            go_at_call 92
            refine htok.mono ?_
            rintro e w1 ⟨hg1, rfl, hr1⟩
            have H1 := Lib.hid (HH.out w1 hg1 hr1)
            have HA := Lib.hid (Below.alloc (Below.refl w1.heap.size w1) (Nat.le_refl _) (.cells #[.int .i64 0, .int .i64 0, .int .i64 u] 48))
            clear htok hg1 hr1 HH
            go_wp2_with fail
            go_at_call 55
            refine (km _).mono ?_
            rintro e w3 ⟨rfl, hb3⟩
            obtain ⟨q0, q1, q2, q3⟩ := qb _ _ hb3
            have HG := Lib.hid (H1.out.below (HA.out.trans (hb3.mono (by simp)))).grown
            clear km qb hb3 H1 HA
            go_wp2_with fail
            go_at_call 93
            refine (HX.out _).mono ?_
            rintro e w4 ⟨rfl, rfl⟩
            go_wp2
            exact ⟨rfl, HG.out, by rw [HN.out]; exact rfl⟩
          · have hmay : may ⟨0, y, u⟩ = true := Pk.may_copy (by omega) (by omega) hu1 hu2
            rw [hmay] at km
            clear hmay
            by_cases hyt : y ≤ told
            · have zyt : (y : Int) ≤ told := by omega
              have HE2 : Hid ((told + u ≤ n ∧ n ≤ told + u + f ∧ (rdToks l b n f (told + u) x').map (fun r => ((T ++ [⟨0, y, u⟩]) ++ r.1, r.2)) = Q) ∨ (n < told + u ∧ Q = none)) := Lib.hid (by
                by_cases h : told + u ≤ n
                · exact .inl ⟨h, by omega, by rw [← hE.2.2, hst n f told hlt, if_pos ⟨by omega, hyt, h⟩, map_more]⟩
                · exact .inr ⟨by omega, by rw [← hE.2.2, hst n f told hlt, if_neg (by omega)]; rfl⟩)
              clear hst hE HE hr HR
              go_wp2_with fail
              go_at_call 92
              refine htok.mono ?_
              rintro e w1 ⟨hg1, rfl, hr1⟩
              have H1 := Lib.hid (HH.out w1 hg1 hr1)
              have HV := Lib.hid (fun k h => (H1.out.own.lt k h).2)
              have HA := Lib.hid (Below.alloc (Below.refl w1.heap.size w1) (Nat.le_refl _) (.cells #[.int .i64 0, .int .i64 y, .int .i64 u] 48))
              clear htok hg1 hr1 HH
              go_wp2_with fail
              go_at_call 55
              refine (km _).mono ?_
              rintro e w3 ⟨rfl, hb3⟩
              obtain ⟨q0, q1, q2, q3⟩ := qb _ _ hb3
              have H3 := Lib.hid (H1.out.below (HA.out.trans (hb3.mono (by simp))))
              clear km qb hb3 H1 HA
              go_wp2_with fail
              go_at_call 93
              refine (HY.out _).mono ?_
              rintro e w4 ⟨rfl, rfl⟩
              obtain ⟨w3, rfl⟩ : ∃ w3, w3 = w4 := ⟨_, rfl⟩
              have zL : L ≤ 1017 := by omega
              go_wp2_with (with_reducible refine stop_append ?_)
              unfold Stop
              have o1 := fun O => (H3.out.own).alloc (w := w3) O
              have o3 : w.heap.size ≤ (w3.alloc (.cells #[.int .i64 0, .int .i64 (y : Int), .int .i64 (u : Int)] 48)).heap.size := by have := H3.out.grown.size; simp; omega
              refine wpList_append_own _ rfl _ _ 36 rfl w.heap.size 48 i0 (.agg #[.int .i64 0, .int .i64 0, .int .i64 0]) 3 24 Try.underlying36 hi0 hz0 hz1 hz2 rfl (by decide) _ L (tc T) rfl (o1 _) ⟨w3.heap.size, 0, Option.none⟩ 1 1 (tc [⟨0, y, u⟩]) rfl rfl (tok_new w3 ⟨0, y, u⟩) (tc_one _) (by unfold maxLen; omega) (by omega) o3 ?_
              intro v4 w4 own4 gr4 nn4
              have H4 := Lib.hid ((H3.out.below ((Below.refl w3.heap.size w3).alloc (Nat.le_refl _) (.cells #[.int .i64 0, .int .i64 (y : Int), .int .i64 (u : Int)] 48))).more own4 gr4)
              have hbx : w4.cell? ⟨w1.heap.size, 2, none⟩ = some (.int .i64 (u : Int)) := box_more (t := ⟨0, y, u⟩) q0 gr4 HV.out
              clear own4 gr4 nn4 o1 o3 H3 q0 q1 q2 q3
              go_wp2
              go_roundw
              case measure => simp [RowKit.intOf]; omega
              case rel => exact ⟨x', told + u, f, L + 1, _, by go_num, by omega, by omega, HE2, H4⟩
            · have HN : Hid (Q = none) := Lib.hid (by rw [← hE.2.2, hst n f told hlt, if_neg (by omega)]; rfl)
              have zyt : (told : Int) < y := by omega
              have zyd : decide (y ≤ told) = false := decide_eq_false (by omega)
              clear hst hE HE hr HR
              go_wp2_with fail
              go_at_call 92
              refine htok.mono ?_
              rintro e w1 ⟨hg1, rfl, hr1⟩
              have H1 := Lib.hid (HH.out w1 hg1 hr1)
              have HA := Lib.hid (Below.alloc (Below.refl w1.heap.size w1) (Nat.le_refl _) (.cells #[.int .i64 0, .int .i64 y, .int .i64 u] 48))
              clear htok hg1 hr1 HH
              go_wp2_with fail
              go_at_call 55
              refine (km _).mono ?_
              rintro e w3 ⟨rfl, hb3⟩
              obtain ⟨q0, q1, q2, q3⟩ := qb _ _ hb3
              have HG := Lib.hid (H1.out.below (HA.out.trans (hb3.mono (by simp)))).grown
              clear km qb hb3 H1 HA
              go_wp2_with fail
              go_at_call 93
              refine (HX.out _).mono ?_
              rintro e w4 ⟨rfl, rfl⟩
              go_wp2
              exact ⟨rfl, HG.out, by rw [HN.out]; exact rfl⟩
    · have zt : (n : Int) ≤ told := by omega
      by_cases heq : told = n
      · subst heq
        have HN : Hid (Q = some (T, x)) := Lib.hid (by
          rcases HE.out with h | h
          · rw [← h.2.2, tok_end _ _ _ _ _ _ (Nat.le_refl _)]; simp
          · omega)
        obtain ⟨p', c', rfl, hlie⟩ := toks_lie HR.out.len.symm HR.out.own
        have HO := Lib.hid HR.out.own
        rw [← HR.out.len] at HO
        clear HE hlie
        go_wp2_with fail
        go_at_call 93
        refine (HY.out _).mono ?_
        rintro e w4 ⟨rfl, rfl⟩
        go_wp2
        go_ret
        exact ⟨HR.out.grown, by rw [HN.out]; exact ⟨_, _, by rw [HR.out.len]; rfl, HO.out, HR.out.rdr⟩⟩
      · have HN : Hid (Q = none) := Lib.hid (by
          rcases HE.out with h | h
          · omega
          · exact h.2)
        have zne : ¬ (told : Int) = n := by omega
        have zbe : ((told : Int) == n) = false := by simp; omega
        clear HE
        go_wp2_with fail
        go_at_call 93
        refine (HX.out _).mono ?_
        rintro e w4 ⟨rfl, rfl⟩
        go_wp2
        exact ⟨rfl, HR.out.grown, by rw [HN.out]; exact rfl⟩
end Go.Proofs.Ythehjhckcblbdaa.Pk

