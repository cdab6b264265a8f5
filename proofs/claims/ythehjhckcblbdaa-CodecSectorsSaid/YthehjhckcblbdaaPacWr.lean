/-
  Contract of the document's Write: the bits of tokens.
-/
import Derived.Test.YthehjhckcblbdaaPacWm
import Derived.Deep.RegionHeld3
namespace Go.Proofs.Ythehjhckcblbdaa.Pk
open Go.RowKit Mt Ma Mb Cn Go.Lib
set_option maxRecDepth 100000
/-- tokens that have bits -/
def mayW (T : List Tok) : Bool := decide (T.length ≤ 1000) && T.all may
/-- what Write answers -/
def WriteA (T : List Tok) (e : Ending) (w' : World) : Prop :=
  (mayW T = true ∧ ∃ q d, e = .returned (.tuple #[.slice q (encode T).length d, .bool true]) ∧ FlagsLie w' q (encode T) d) ∨ (mayW T = false ∧ e = .returned (.tuple #[.slice none 0 0, .bool false]))
theorem own_low {B1 B e s n : Nat} {w : World} {v : Value} {xs : List Value} (h : w.ownsRow B1 e s v n xs) (hB : B ≤ B1) : w.ownsRow B e s v n xs := by
  refine ⟨h.1, ?_⟩
  rcases h.2 with hn | ⟨g, cap, cur, rfl, hb, rest⟩
  · exact .inl hn
  · exact .inr ⟨g, cap, cur, rfl, Nat.le_trans hB hb, rest⟩
theorem frow_later {B g c : Nat} {w0 w w' : World} {l : List Bool} (h : FRow B w0 w g c l) (hb : Below w.heap.size w w') : FRow B w0 w' g c l :=
  ⟨row_later h.own hb, h.below.trans (hb.mono h.size), h.room⟩
theorem frow_low {B g c : Nat} {w0 w w' : World} {l : List Bool} (h : FRow w.heap.size w w' g c l) (hb : Below B w0 w) (hB : B ≤ w0.heap.size) : FRow B w0 w' g c l :=
  ⟨own_low h.own (Nat.le_trans hB hb.size), hb.trans (h.below.mono (Nat.le_trans hB hb.size)), hB⟩
set_option maxHeartbeats 16000000 in
theorem writeb_doc (T : List Tok) (n : Nat) (hn : T.length = n) (hnl : n ≤ 281474976710656) (p : Option Addr) (cp : Nat) (w : World) (h : ToksLie w p T cp) :
    Calls Try.prog 20 #[.slice p n cp] w fun e w' => Below w.heap.size w w' ∧ WriteA T e w' := by
  have zn : (n : Int) ≤ 281474976710656 := by omega
  have zcp : (n : Int) ≤ cp := by have := h.len; omega
  by_cases h1000 : n ≤ 1000
  · have z1000 : (n : Int) ≤ 1000 := by omega
    have R0 : Hid ((w.alloc (.cells #[] 3)).ownsRow w.heap.size 3 1 (.slice (some ⟨w.heap.size, 0, none⟩) 0 0) 0 (ints (List.replicate 0 0))) :=
      World.ownsRow_made (base := w.heap.size) (e := 3) (size := 1) w #[] 0 (Nat.le_refl _) (by decide) rfl
    have B0 := Lib.hid ((Below.refl w.heap.size w).alloc (Nat.le_refl _) (.cells #[] 3))
    have HL := Lib.hid h
    have Hn := Lib.hid hn
    obtain ⟨i0, hi0, hz0, hz1, hz2⟩ := info_parts info3
    obtain ⟨B, hB⟩ : ∃ B, B = w.heap.size := ⟨_, rfl⟩
    have hbs : B ≤ w.heap.size := Nat.le_of_eq hB
    have HB := Lib.hid hB
    replace B0 : Hid (Below B w (w.alloc (.cells #[] 3))) := by rw [hB]; exact B0
    replace R0 : Hid ((w.alloc (.cells #[] 3)).ownsRow B 3 1 (.slice (some ⟨w.heap.size, 0, none⟩) 0 0) 0 (ints (List.replicate 0 0))) := by
      rw [hB]; exact R0
    rw [← hB]
    clear h hn hB zn
    go_enter Try.func20, Try.ntmps20
    go_wp2
    go_loopw [4, 5] (fun v i wr => ∃ j : Nat, i = .int .i64 j ∧ j ≤ 272 ∧ Hid (wr.ownsRow B 3 1 v j (ints (List.replicate j 0))) ∧ Hid (Below B w wr)) (fun _ i _ => 272 - (RowKit.intOf i).toNat)
    case atStart => exact ⟨0, rfl, Nat.zero_le _, R0, B0⟩
    case round =>
      clear R0 B0
      obtain ⟨j, rfl, hj, HR, HW⟩ := hrel
      by_cases hlt : j < 272
      · have o1 := fun O => (HR.out).alloc (w := wr) O
        have o2 := one_int wr 0
        have o3 : B ≤ (wr.alloc (.cells #[.int .i64 (0 : Int)] 3)).heap.size := by have := HW.out.size; simp; omega
        have HWn := Lib.hid (fun (w3 : World) (row : Option Nat) (gr : World.grownBy (wr.alloc (.cells #[.int .i64 (0 : Int)] 3)) w3 row) (hr : ∀ b, row = some b → B ≤ b) => (HW.out.alloc (Nat.le_trans hbs HW.out.size) (.cells #[.int .i64 (0 : Int)] 3)).grown gr o3 hr)
        have HLt := Lib.hid (HR.out.lt)
        clear HR HW
        go_wp2_with (first
          | (at_builtin; refine wpList_append_own _ rfl _ _ 50 rfl B 3 i0 (.int .i64 0) 1 8 Try.underlying50 hi0 hz0 hz1 hz2 rfl (by decide) _ j (ints (List.replicate j 0)) rfl (o1 _) ⟨wr.heap.size, 0, Option.none⟩ 1 1 (ints [0]) rfl rfl o2 (ints_one _) (by unfold maxLen; omega) (by omega) o3 ?_)
          | go_in)
        intro v1 w3 own1 gr1 nn1
        have HW3 := Lib.hid (HWn.out w3 _ gr1 (fun b hb => (HLt.out b hb).1))
        have HR3 : Hid (w3.ownsRow B 3 1 v1 (j + 1) (ints (List.replicate (j + 1) 0))) := by
          show World.ownsRow _ _ _ _ _ _ _
          rw [← zeros_succ]
          exact own1
        clear own1 gr1 nn1 o1 o2 o3 HWn HLt
        go_wp2
        go_roundw
        case measure => simp [RowKit.intOf]; omega
        case rel => exact ⟨j + 1, by go_num, by omega, HR3, HW3⟩
      · have e : j = 272 := by omega
        subst e
        clear hlt hj
        obtain ⟨g, c, rfl, hc1, hc2, _, hgB⟩ := row_form HR.out (by decide)
        have zc : (272 : Int) ≤ c := by omega
        rw [← freq_nil] at HR
        rw [show Value.int IntKind.i64 ((272 : Nat) : Int) = Value.int IntKind.i64 272 from rfl]
        go_wp2
        go_loopw [6] (fun i wz => ∃ k : Nat, i = .int .i64 k ∧ k ≤ n ∧ Hid (∀ (j : Nat) (h : j < T.length), j < k → may T[j] = true) ∧ Hid (wz.ownsRow B 3 1 (.slice (some ⟨g, 0, none⟩) 272 c) 272 (ints (freq (T.take k)))) ∧ Hid (Below B w wz)) (fun i _ => n - (RowKit.intOf i).toNat)
        case atStart => exact ⟨0, rfl, Nat.zero_le _, Lib.hid (fun j _ h => by omega), HR, HW⟩
        case round =>
          clear HR HW
          obtain ⟨k, rfl, hk, HM, HR, HW⟩ := hrel
          by_cases hlt : k < n
          · have hkT : k < T.length := by rw [Hn.out]; exact hlt
            obtain ⟨blk, off, rfl, hA⟩ := HL.out.at hkT
            have cf : ∀ w2, Below B w w2 → w2.cell? ⟨blk, off + k * 3, none⟩ = some (.int .i64 T[k].byte) ∧ w2.cell? ⟨blk, off + k * 3 + 1, none⟩ = some (.int .i64 T[k].dist) ∧ w2.cell? ⟨blk, off + k * 3 + 2, none⟩ = some (.int .i64 T[k].len) := fun w2 h2 => may_at hA (HB.out ▸ h2) k hkT
            have zk : (k : Int) < n := by omega
            have HNo := Lib.hid (fun (hx : may T[k] = false) => show mayW T = false from by
              unfold mayW
              rw [Bool.and_eq_false_iff]
              exact .inr (List.all_eq_false.2 ⟨T[k], List.getElem_mem hkT, by simp [hx]⟩))
            have HM2 := Lib.hid (fun (hx : may T[k] = true) => show ∀ (j : Nat) (h : j < T.length), j < k + 1 → may T[j] = true from fun j hj hjk => by
              by_cases e : j = k
              · subst e; exact hx
              · exact HM.out j hj (by omega))
            have HF2 := Lib.hid (fun (hx : may T[k] = true) => show freq (T.take (k + 1)) = (freq (T.take k)).set (symT T[k]) ((freq (T.take k)).getD (symT T[k]) 0 + 1) from by
              rw [List.take_succ_eq_append_getElem hkT, freq_snoc _ _ (symT_lt hx)])
            have hfl := freq_le (T.take k) (symT T[k])
            rw [List.length_take] at hfl
            have hfg := fun (hs : symT T[k] < 272) => ints_get HR.out (i := symT T[k]) (by rw [freq_length]; exact hs)
            generalize T[k] = t at *
            replace hA := Lib.hid hA
            replace cf := Lib.hid cf
            have km : ∀ w, Calls Try.prog 40 #[.agg #[.int .i64 t.byte, .int .i64 t.dist, .int .i64 t.len]] w fun e w' => e = .returned (.bool (may t)) ∧ Below w.heap.size w w' := fun w => may_ref t w
            have ks : ∀ w, Calls Try.prog 41 #[.agg #[.int .i64 t.byte, .int .i64 t.dist, .int .i64 t.len]] w fun e w' => e = .returned (.int .i64 (symA t)) ∧ Below w.heap.size w w' := fun w => sym_doc t w
            obtain ⟨a1, a2, a3⟩ := cf.out wr HW.out
            cases hm : may t with
            | false =>
              have HN := Lib.hid (HNo.out hm)
              rw [hm] at km
              clear hm HNo HM2 HF2 hfg ks
              go_wp2_with fail
              go_at_call 40
              refine (km _).mono ?_
              rintro e w3 ⟨rfl, H1⟩
              have HW3 := Lib.hid (HW.out.trans (H1.mono (Nat.le_trans hbs HW.out.size)))
              clear km H1 a1 a2 a3
              go_wp2
              go_ret2
              exact ⟨HW3.out, .inr ⟨HN.out, rfl⟩⟩
            | true =>
              have hs := symT_lt hm
              have hfg := hfg hs
              have eS : symA t = (symT t : Int) := by unfold symA; rw [if_pos hm]
              have HM3 := Lib.hid (HM2.out hm)
              have HF3 := Lib.hid (HF2.out hm)
              rw [hm] at km
              rw [eS] at ks
              clear hm HNo HM2 HF2 eS
              generalize symT t = s at *
              generalize hx : (freq (T.take k)).getD s 0 = x at *
              have hx2 : (x : Int) ≤ 1000 := by omega
              have cx : ∀ (w2 : World) (hr : w2.ownsRow B 3 1 (.slice (some ⟨g, 0, none⟩) 272 c) 272 (ints (freq (T.take k)))), w2.cell? ⟨g, s, none⟩ = some (.int .i64 (x : Nat)) := fun w2 hr => by
                have := ints_get hr (i := s) (by rw [freq_length]; exact hs)
                rw [this, ← hx, List.getD_eq_getElem?_getD, List.getElem?_eq_getElem (by rw [freq_length]; exact hs)]; rfl
              replace cx := Lib.hid cx
              have zs : (s : Int) < 272 := by omega
              clear hfg hfl hx
              go_wp2_with fail
              go_at_call 40
              refine (km _).mono ?_
              rintro e w3 ⟨rfl, H1⟩
              have HW3 := Lib.hid (HW.out.trans (H1.mono (Nat.le_trans hbs HW.out.size)))
              have HR3 := Lib.hid (row_later HR.out H1)
              clear km H1 a1 a2 a3 HW HR
              obtain ⟨a1, a2, a3⟩ := cf.out w3 HW3.out
              go_wp2_with fail
              go_at_call 41
              refine (ks _).mono ?_
              rintro e w4 ⟨rfl, H1⟩
              have HW4 := Lib.hid (HW3.out.trans (H1.mono (Nat.le_trans hbs HW3.out.size)))
              have HR4 := Lib.hid (row_later HR3.out H1)
              clear ks H1 a1 a2 a3 HW3 HR3
              have cl := cx.out w4 HR4.out
              have fz := HR4.out.frozenAt s
              obtain ⟨st1, st2⟩ := HR4.out.stored s (.int .i64 ((x + 1 : Nat) : Int))
              rw [← ints_set, ← HF3.out] at st1
              have HW5 := Lib.hid (HW4.out.grown st2 (Nat.le_trans hbs HW4.out.size) fun b hb => by cases hb; exact hgB)
              replace st1 := Lib.hid st1
              have e1 : ((x + 1 : Nat) : Int) = (x : Int) + 1 := by omega
              rw [e1] at st1 HW5
              clear st2 HW4 HR4 cx e1
              go_wp2
              go_roundw
              case measure => simp [RowKit.intOf]; omega
              case rel => exact ⟨k + 1, by go_num, by omega, HM3, st1, HW5⟩
          · have e : n = k := by omega
            subst e
            have HAll : Hid (mayW T = true) := Lib.hid (by
              unfold mayW
              rw [Hn.out, decide_eq_true h1000, Bool.true_and]
              refine List.all_eq_true.2 fun t ht => ?_
              obtain ⟨j, hj, rfl⟩ := List.mem_iff_getElem.1 ht
              exact HM.out j hj (by rw [← Hn.out]; exact hj))
            rw [List.take_of_length_le (by rw [Hn.out]; exact Nat.le_refl _)] at HR
            have hi := lie_ints HR.out (freq_length T)
            have hl := lens_doc (freq T) 272 (freq_length T) (by decide) (fun i => Nat.le_trans (freq_le T i) (by have := Hn.out; omega)) (some ⟨g, 0, none⟩) c wr hi
            have HT : Hid (∀ t, t ∈ T → 1 ≤ (lensT T).getD (symT t) 0 ∧ symA t = (symT t : Int)) := Lib.hid fun t ht => by
              obtain ⟨j, hj, rfl⟩ := List.mem_iff_getElem.1 ht
              have hm := HM.out j hj (by rw [← Hn.out]; exact hj)
              exact ⟨lensT_there ht hm, by unfold symA; rw [if_pos hm]⟩
            have HC : Hid (MayC (lensT T)) := Lib.hid ⟨(lensT_ok T).1, (lensT_ok T).2.1, (lensT_ok T).2.2⟩
            have HCl := Lib.hid (lensT_length T)
            have HE : Hid (encode T = dig (manyS (lensT T) 0 272) 9 ++ (headFrom (lensT T) 0 272 ++ body (lensT T) T)) := Lib.hid rfl
            clear hlt hk HM hi HR
            go_wp2_with fail
            go_at_call 42
            refine hl.mono ?_
            rintro e w2 ⟨q1, c1, rfl, HI, hb2⟩
            have HW2 := Lib.hid (HW.out.trans (hb2.mono (Nat.le_trans hbs HW.out.size)))
            replace HI : Hid (IntsLie w2 q1 (nums (lensT T)) c1) := HI
            clear hl hb2 HW
            generalize lensT T = l at *
            obtain ⟨C, hC⟩ : ∃ C, C = w2.heap.size := ⟨_, rfl⟩
            have hcs : C ≤ w2.heap.size := Nat.le_of_eq hC
            have HI2 : Hid (∀ w3, Below C w2 w3 → IntsLie w3 q1 (nums l) c1) := Lib.hid fun w3 h3 => HI.out.below (hC ▸ h3)
            have HW3 : Hid (∀ w3, Below C w2 w3 → Below B w w3) := Lib.hid fun w3 h3 => HW2.out.trans (h3.mono (hC ▸ Nat.le_trans hbs HW2.out.size))
            have HL3 : Hid (∀ w3, Below C w2 w3 → ToksLie w3 p T cp) := Lib.hid fun w3 h3 => HL.out.below (HB.out ▸ HW3.out w3 h3)
            have F0 : Hid (FlagsLie (w2.alloc (.cells #[] 4)) (some ⟨w2.heap.size, 0, none⟩) (headFrom l 0 0) 0) := Lib.hid (FRow.made w2).lies
            have B0 : Hid (Below C w2 (w2.alloc (.cells #[] 4))) := Lib.hid ((Below.refl C w2).alloc hcs _)
            have hc1l : (272 : Int) ≤ c1 := by have := HI.out.len; rw [nums_len, HCl.out] at this; omega
            replace hC := Lib.hid hC
            go_wp2
            go_loopw [8, 9, 10] (fun a v i wr => ∃ (k L g3 c3 m : Nat), i = .int .i64 k ∧ k ≤ 272 ∧ a = .int .i64 m ∧ m ≤ k ∧ v = .slice (some ⟨g3, 0, none⟩) L c3 ∧ L ≤ 13 * k ∧ Hid (m = manyS l 0 k) ∧ Hid ((headFrom l 0 k).length = L) ∧ Hid (FlagsLie wr (some ⟨g3, 0, none⟩) (headFrom l 0 k) c3) ∧ Hid (Below C w2 wr)) (fun _ _ i _ => 272 - (RowKit.intOf i).toNat)
            case atStart => exact ⟨0, 0, _, 0, 0, rfl, Nat.zero_le _, rfl, Nat.le_refl _, rfl, Nat.le_refl _, Lib.hid rfl, Lib.hid rfl, F0, B0⟩
            case round =>
              clear F0 B0
              obtain ⟨k, L, g3, c3, m, rfl, hk, rfl, hm, rfl, hL, HM, HN, HF, HW⟩ := hrel
              have hc3 : L ≤ c3 ∧ c3 ≤ maxLen := by have h1 := HF.out.len; have h2 := HF.out.cap; rw [HN.out] at h1; exact ⟨h1, h2⟩
              by_cases hlt : k < 272
              · have hkl : k < (nums l).length := by rw [nums_len, HCl.out]; exact hlt
                obtain ⟨blk, off, rfl, hA⟩ := (HI2.out wr HW.out).at hkl
                have cx := hA k hkl
                rw [nums_get] at cx
                have hx15 := HC.out.le k
                have HM2 := Lib.hid (many_succ l k)
                have HH2 := Lib.hid (head_succ l k)
                rw [← HM.out] at HM2
                generalize headFrom l 0 k = hd at *
                generalize l.getD k 0 = x at *
                have zk : (k : Int) < 272 := by omega
                clear hA hkl
                by_cases hx : 0 < x
                · have zx : (0 : Int) < x := by omega
                  rw [if_pos hx] at HM2 HH2
                  have hp1 : Calls Try.prog 43 #[.slice (some ⟨g3, 0, none⟩) L c3, .int .i64 k, .int .i64 9] wr.drew fun e w' => ∃ g c, e = .returned (.slice (some ⟨g, 0, Option.none⟩) (L + 9) c) ∧ FRow wr.drew.heap.size wr.drew w' g c (hd ++ dig k 9) :=
                    putl_doc hd L HN.out (by omega) (some ⟨g3, 0, none⟩) c3 k 9 (by decide) (by omega) wr.drew (HF.out.below (Below.refl _ _).drew) (fun h => by cases h)
                  have hp2 : Hid (∀ g5 c5 w5, FlagsLie w5 (some ⟨g5, 0, none⟩) (hd ++ dig k 9) c5 → Calls Try.prog 43 #[.slice (some ⟨g5, 0, none⟩) (L + 9 : Nat) c5, .int .i64 x, .int .i64 4] w5 fun e w' => ∃ g c, e = .returned (.slice (some ⟨g, 0, Option.none⟩) (L + 9 + 4) c) ∧ FRow w5.heap.size w5 w' g c ((hd ++ dig k 9) ++ dig x 4)) :=
                    Lib.hid fun g5 c5 w5 h5 => putl_doc (hd ++ dig k 9) (L + 9) (by rw [List.length_append, dig_length, HN.out]) (by omega) (some ⟨g5, 0, none⟩) c5 x 4 (by decide) (by omega) w5 h5 (fun h => by cases h)
                  have KW : Hid (∀ w5, Below wr.drew.heap.size wr.drew w5 → w5.cell? ⟨blk, off + k, none⟩ = some (.int .i64 (x : Nat))) := Lib.hid fun w5 h5 => by
                    rw [h5.cell (p := ⟨blk, off + k, none⟩) (World.block_lt_of_cell? wr _ cx)]; exact cx
                  have HWd := Lib.hid HW.out.drew
                  clear HF HW
                  go_wp2
                  go_region_held3 (fun w' => w'.cell? ⟨blk, off + k, none⟩ = some (.int .i64 (x : Nat)))
                    (first | go_keep | exact KW.out _ hF5.below | exact KW.out _ (hF5.below.next hF6.below))
                    (first
                      | (go_at_call 43; with_reducible refine hp1.mono ?_; rintro e w5 ⟨g5, c5, rfl, hF5⟩)
                      | (go_at_call 43; with_reducible refine (hp2.out g5 c5 w5 hF5.lies).mono ?_; rintro e w6 ⟨g6, c6, rfl, hF6⟩))
                  have HF6 := Lib.hid hF6.lies
                  have HW6 := Lib.hid (HWd.out.trans ((hF5.below.next hF6.below).mono (Nat.le_trans hcs HWd.out.size)))
                  have e13 : L + 9 + 4 = L + 13 := rfl
                  rw [List.append_assoc, ← HH2.out] at HF6
                  have hN6 : Hid ((headFrom l 0 (k + 1)).length = L + 13) := Lib.hid (by
                    rw [HH2.out, List.length_append, List.length_append, dig_length, dig_length, HN.out])
                  clear hp1 hp2 KW cx hF5 hF6 HWd HH2
                  go_wp2
                  go_roundw
                  case measure => simp [RowKit.intOf]; omega
                  case rel => exact ⟨k + 1, L + 13, g6, c6, m + 1, by go_num, by omega, by go_num, by omega, rfl, by omega, Lib.hid HM2.out.symm, hN6, HF6, HW6⟩
                · have x0 : x = 0 := by omega
                  subst x0
                  rw [if_neg hx] at HM2 HH2
                  rw [List.append_nil] at HH2
                  rw [← HH2.out] at HF HN
                  clear hx HH2
                  go_wp2
                  go_roundw
                  case measure => simp [RowKit.intOf]; omega
                  case rel => exact ⟨k + 1, L, g3, c3, m, by go_num, by omega, rfl, by omega, rfl, by omega, Lib.hid HM2.out.symm, HN, HF, HW⟩
              · have e : k = 272 := by omega
                subst e
                clear hlt hk
                rw [show Value.int IntKind.i64 ((272 : Nat) : Int) = Value.int IntKind.i64 272 from rfl]
                obtain ⟨w4, rfl⟩ : ∃ w4, w4 = wr := ⟨_, rfl⟩
                obtain ⟨ib, hib, hy0, hy1, hy2⟩ := info_parts infoBool
                rw [← HM.out] at HE
                generalize headFrom l 0 272 = hd at *
                have hp : Calls Try.prog 43 #[.slice none 0 0, .int .i64 m, .int .i64 9] w4 fun e w' => ∃ g c, e = .returned (.slice (some ⟨g, 0, Option.none⟩) 9 c) ∧ FRow w4.heap.size w4 w' g c (dig m 9) := by
                  have := putl_doc [] 0 rfl (by decide) none 0 m 9 (by decide) (by omega) w4 ⟨Nat.le_refl _, Nat.zero_le _, .inl rfl⟩ (fun _ => rfl)
                  simpa using this
                obtain ⟨D, hD⟩ : ∃ D, D = w4.heap.size := ⟨_, rfl⟩
                have hds : D ≤ w4.heap.size := Nat.le_of_eq hD
                have hCD : C ≤ D := by rw [hD]; exact Nat.le_trans hcs HW.out.size
                rw [← hD] at hp
                replace hD := Lib.hid hD
                have hd9 : Hid ((dig m 9).length = 9) := Lib.hid (dig_length _ _)
                go_wp2_with fail
                go_at_call 43
                refine hp.mono ?_
                rintro e w5 ⟨g5, c5, rfl, hF5⟩
                have ho := hF5.own
                rw [hd9.out] at ho
                have o2 := flags_news (HF.out.below (hD.out ▸ hF5.below))
                have o3 : D ≤ w5.heap.size := hF5.size
                have o4 : (flv hd).length = L * 1 := by rw [flv_length, HN.out]; omega
                clear hp HM
                go_wp2_with (with_reducible refine stop_append ?_)
                unfold Stop
                refine wpList_append_own _ rfl _ _ 33 rfl D 4 ib (.bool false) 1 1 Try.underlying33 hib hy0 hy1 hy2 rfl (by decide) _ 9 (flv (dig m 9)) rfl ho ⟨g3, 0, none⟩ L c3 (flv hd) rfl o4 o2 (flv_one _) (by unfold maxLen; omega) (by omega) o3 ?_
                intro v1 w6 own1 gr1 nn1
                have e9 : 9 + L = (dig m 9).length + hd.length := by rw [hd9.out, HN.out]
                obtain ⟨g6, c6, hv, R6⟩ := hF5.more (Below.refl _ _) (by rw [← e9]; exact own1) (by rw [hd9.out]; exact gr1) (fun e => by
                  have h : Value.slice (some ⟨g5, 0, none⟩) 9 c5 = .slice none 0 0 := (nn1.1 e).1
                  cases h)
                rw [← e9] at hv
                subst hv
                have hpl : Hid ((dig m 9 ++ hd).length = 9 + L) := Lib.hid (by rw [List.length_append, hd9.out, HN.out])
                rw [← List.append_assoc] at HE
                generalize dig m 9 ++ hd = pre at *
                have F0 : Hid (FRow D w4 w6 g6 c6 (pre ++ body l (T.take 0))) := Lib.hid (by rw [List.take_zero]; show FRow D w4 w6 g6 c6 (pre ++ []); rw [List.append_nil]; exact R6)
                have KB : Hid (∀ w7, Below D w4 w7 → Below C w2 w7) := Lib.hid fun w7 h7 => HW.out.trans (h7.mono hCD)
                have HX := Lib.hid (body_succ l T)
                clear own1 gr1 nn1 ho o2 o3 o4 e9 hF5 R6 HF HW HN hd9 hm hc3
                go_wp2
                go_loopw [11, 12] (fun v i wr => ∃ (k L2 g7 c7 : Nat), i = .int .i64 k ∧ k ≤ n ∧ v = .slice (some ⟨g7, 0, none⟩) L2 c7 ∧ L2 ≤ 9 + L + 23 * k ∧ Hid ((pre ++ body l (T.take k)).length = L2) ∧ Hid (FRow D w4 wr g7 c7 (pre ++ body l (T.take k)))) (fun _ i _ => n - (RowKit.intOf i).toNat)
                case atStart => exact ⟨0, 9 + L, g6, c6, rfl, Nat.zero_le _, rfl, by omega, Lib.hid (by rw [List.take_zero]; show (pre ++ []).length = _; rw [List.append_nil]; exact hpl.out), F0⟩
                case round =>
                  clear F0
                  obtain ⟨k, L2, g7, c7, rfl, hk, rfl, hL2, HLn, HF⟩ := hrel
                  by_cases hlt : k < n
                  · have hkT : k < T.length := by rw [Hn.out]; exact hlt
                    have cf : ∀ w7, Below D w4 w7 → ∃ blk off, p = some ⟨blk, off, none⟩ ∧ w7.cell? ⟨blk, off + k * 3, none⟩ = some (.int .i64 T[k].byte) ∧ w7.cell? ⟨blk, off + k * 3 + 1, none⟩ = some (.int .i64 T[k].dist) ∧ w7.cell? ⟨blk, off + k * 3 + 2, none⟩ = some (.int .i64 T[k].len) := fun w7 h7 => by
                      obtain ⟨blk, off, e, hA⟩ := (HL3.out w7 (KB.out w7 h7)).at hkT
                      exact ⟨blk, off, e, may_at hA (Below.refl _ _) k hkT⟩
                    obtain ⟨hs1, hsA⟩ := HT.out T[k] (List.getElem_mem hkT)
                    have HX2 := Lib.hid (HX.out k hkT)
                    have hm : may T[k] = true := by
                      have h1 := HAll.out
                      unfold mayW at h1
                      rw [Bool.and_eq_true] at h1
                      exact List.all_eq_true.1 h1.2 _ (List.getElem_mem hkT)
                    have zk : (k : Int) < n := by omega
                    have ks : ∀ w, Calls Try.prog 41 #[.agg #[.int .i64 T[k].byte, .int .i64 T[k].dist, .int .i64 T[k].len]] w fun e w' => e = .returned (.int .i64 (symA T[k])) ∧ Below w.heap.size w w' := fun w => sym_doc T[k] w
                    rw [hsA] at ks
                    have kw : ∀ w7, Below D w4 w7 → Calls Try.prog 44 #[.slice q1 272 c1, .int .i64 (symT T[k] : Nat)] w7 fun e w' => Below w7.heap.size w7 w' ∧ ∃ q d, e = .returned (.tuple #[.slice q (l.getD (symT T[k]) 0) d, .bool true]) ∧ FlagsLie w' q (code l (symT T[k])) d := fun w7 h7 => by
                      have := specDoc.write l 272 (symT T[k]) q1 c1 w7 HC.out HCl.out hs1 (HI2.out w7 (KB.out w7 h7))
                      rw [code_length] at this
                      exact this
                    have hcl := code_length l (symT T[k])
                    have hy15 := HC.out.le (symT T[k])
                    generalize ht : T[k] = t at *
                    clear ht hsA
                    rcases Pk.may_two hm with ⟨x, hx, rfl⟩ | ⟨d, nn, hd1, hd2, hn1, hn2, rfl⟩
                    · have HB3 : tokBits l (⟨x, 0, 0⟩ : Tok) = code l (symT (⟨x, 0, 0⟩ : Tok)) := by unfold tokBits; rw [if_pos rfl, List.append_nil]
                      rw [HB3] at HX2
                      clear HB3
                      generalize symT (⟨x, 0, 0⟩ : Tok) = s at *
                      generalize code l s = cd at *
                      generalize l.getD s 0 = y at *
                      obtain ⟨blk, off, rfl, a1, a2, a3⟩ := cf wr HF.out.below
                      replace cf := Lib.hid cf
                      replace kw := Lib.hid kw
                      go_wp2_with fail
                      go_at_call 41
                      refine (ks _).mono ?_
                      rintro e w5 ⟨rfl, H1⟩
                      have HF5 := Lib.hid (frow_later HF.out H1)
                      clear ks H1 HF a1 a2 a3
                      go_wp2_with fail
                      go_at_call 44
                      refine (kw.out w5 HF5.out.below).mono ?_
                      rintro e w6 ⟨hb6, q, d6, rfl, hcf⟩
                      have HF6 := Lib.hid (frow_later HF5.out hb6)
                      obtain ⟨b3, o3, rfl, _⟩ := hcf.at (i := 0) (by rw [hcl]; omega)
                      have ho := HF6.out.own
                      rw [HLn.out] at ho
                      have o2 := flags_news hcf
                      have o4 : (flv cd).length = y * 1 := by rw [flv_length, hcl]; omega
                      have o5 : D ≤ w6.heap.size := HF6.out.size
                      clear kw hb6 HF5 hcf
                      go_wp2_with (with_reducible refine stop_append ?_)
                      unfold Stop
                      refine wpList_append_own _ rfl _ _ 33 rfl D 4 ib (.bool false) 1 1 Try.underlying33 hib hy0 hy1 hy2 rfl (by decide) _ L2 (flv (pre ++ body l (T.take k))) rfl ho ⟨b3, o3, none⟩ y d6 (flv cd) rfl o4 o2 (flv_one _) (by unfold maxLen; omega) (by omega) o5 ?_
                      intro v1 w7 own1 gr1 nn1
                      have e9 : L2 + y = (pre ++ body l (T.take k)).length + cd.length := by rw [HLn.out, hcl]
                      obtain ⟨g8, c8, hv, R8⟩ := HF6.out.more (Below.refl _ _) (by rw [← e9]; exact own1) (by rw [HLn.out]; exact gr1) (fun e => by
                        have h : Value.slice (some ⟨g7, 0, none⟩) L2 c7 = .slice none 0 0 := (nn1.1 e).1
                        cases h)
                      rw [← e9] at hv
                      subst hv
                      have hl8 : (pre ++ body l (T.take k) ++ cd).length = L2 + y := by rw [List.length_append]; exact e9.symm
                      obtain ⟨b4, o6, e, a1, a2, a3⟩ := cf.out w7 R8.below
                      cases e
                      replace R8 := Lib.hid R8
                      clear own1 gr1 nn1 ho o2 o4 o5 e9 HF6
                      have HL8 : Hid ((pre ++ body l (T.take (k + 1))).length = L2 + y) := Lib.hid (by rw [HX2.out, ← List.append_assoc]; exact hl8)
                      have HR8 : Hid (FRow D w4 w7 g8 c8 (pre ++ body l (T.take (k + 1)))) := Lib.hid (by rw [HX2.out, ← List.append_assoc]; exact R8.out)
                      clear cf HX2 R8 hl8 HLn
                      go_wp2
                      go_roundw
                      case measure => simp [RowKit.intOf]; omega
                      case rel => exact ⟨k + 1, L2 + y, g8, c8, by go_num, by omega, rfl, by omega, HL8, HR8⟩
                    · have HB3 : tokBits l (⟨0, d, nn⟩ : Tok) = code l (symT (⟨0, d, nn⟩ : Tok)) ++ dig d 8 := by unfold tokBits; rw [if_neg (by show ¬ ((nn : Int) = 0); omega), Int.toNat_natCast]
                      rw [HB3] at HX2
                      clear HB3
                      generalize symT (⟨0, d, nn⟩ : Tok) = s at *
                      generalize code l s = cd at *
                      generalize l.getD s 0 = y at *
                      obtain ⟨blk, off, rfl, a1, a2, a3⟩ := cf wr HF.out.below
                      replace cf := Lib.hid cf
                      replace kw := Lib.hid kw
                      go_wp2_with fail
                      go_at_call 41
                      refine (ks _).mono ?_
                      rintro e w5 ⟨rfl, H1⟩
                      have HF5 := Lib.hid (frow_later HF.out H1)
                      clear ks H1 HF a1 a2 a3
                      go_wp2_with fail
                      go_at_call 44
                      refine (kw.out w5 HF5.out.below).mono ?_
                      rintro e w6 ⟨hb6, q, d6, rfl, hcf⟩
                      have HF6 := Lib.hid (frow_later HF5.out hb6)
                      obtain ⟨b3, o3, rfl, _⟩ := hcf.at (i := 0) (by rw [hcl]; omega)
                      have ho := HF6.out.own
                      rw [HLn.out] at ho
                      have o2 := flags_news hcf
                      have o4 : (flv cd).length = y * 1 := by rw [flv_length, hcl]; omega
                      have o5 : D ≤ w6.heap.size := HF6.out.size
                      clear kw hb6 HF5 hcf
                      go_wp2_with (with_reducible refine stop_append ?_)
                      unfold Stop
                      refine wpList_append_own _ rfl _ _ 33 rfl D 4 ib (.bool false) 1 1 Try.underlying33 hib hy0 hy1 hy2 rfl (by decide) _ L2 (flv (pre ++ body l (T.take k))) rfl ho ⟨b3, o3, none⟩ y d6 (flv cd) rfl o4 o2 (flv_one _) (by unfold maxLen; omega) (by omega) o5 ?_
                      intro v1 w7 own1 gr1 nn1
                      have e9 : L2 + y = (pre ++ body l (T.take k)).length + cd.length := by rw [HLn.out, hcl]
                      obtain ⟨g8, c8, hv, R8⟩ := HF6.out.more (Below.refl _ _) (by rw [← e9]; exact own1) (by rw [HLn.out]; exact gr1) (fun e => by
                        have h : Value.slice (some ⟨g7, 0, none⟩) L2 c7 = .slice none 0 0 := (nn1.1 e).1
                        cases h)
                      rw [← e9] at hv
                      subst hv
                      have hl8 : (pre ++ body l (T.take k) ++ cd).length = L2 + y := by rw [List.length_append]; exact e9.symm
                      obtain ⟨b4, o6, e, a1, a2, a3⟩ := cf.out w7 R8.below
                      cases e
                      replace R8 := Lib.hid R8
                      clear own1 gr1 nn1 ho o2 o4 o5 e9 HF6
                      have hp := putl_doc (pre ++ body l (T.take k) ++ cd) (L2 + y) hl8 (by omega) (some ⟨g8, 0, none⟩) c8 d 8 (by decide) (by omega) w7 R8.out.lies (fun h => by cases h)
                      have HL8 : Hid ((pre ++ body l (T.take (k + 1))).length = L2 + y + 8) := Lib.hid (by rw [HX2.out, ← List.append_assoc, ← List.append_assoc, List.length_append, hl8, dig_length])
                      have zn1 : (1 : Int) ≤ nn := by omega
                      clear cf hl8 HLn
                      go_wp2_with fail
                      go_at_call 43
                      refine hp.mono ?_
                      rintro e w8 ⟨g9, c9, rfl, hF9⟩
                      have HR9 : Hid (FRow D w4 w8 g9 c9 (pre ++ body l (T.take (k + 1)))) := Lib.hid (by rw [HX2.out, ← List.append_assoc, ← List.append_assoc]; exact frow_low hF9 R8.out.below hds)
                      clear hp hF9 R8 HX2
                      go_wp2
                      go_roundw
                      case measure => simp [RowKit.intOf]; omega
                      case rel => exact ⟨k + 1, L2 + y + 8, g9, c9, by go_num, by omega, rfl, by omega, HL8, HR9⟩
                  · have e : n = k := by omega
                    subst e
                    have HEn : Hid (FRow D w4 wr g7 c7 (encode T)) := Lib.hid (by
                      have := HF.out
                      rw [List.take_of_length_le (by rw [Hn.out]; exact Nat.le_refl _)] at this
                      rw [HE.out]; exact this)
                    have HEl : Hid ((encode T).length = L2) := Lib.hid (by
                      have := HLn.out
                      rw [List.take_of_length_le (by rw [Hn.out]; exact Nat.le_refl _)] at this
                      rw [HE.out]; exact this)
                    have HWl := Lib.hid (HW3.out wr (KB.out wr HF.out.below))
                    clear HF HLn HE HX hlt hk
                    go_wp2
                    go_ret2
                    exact ⟨HWl.out, .inl ⟨HAll.out, _, _, by rw [HEl.out]; rfl, HEn.out.lies⟩⟩
  · have HB := Lib.hid (Below.refl w.heap.size w)
    have HN : Hid (mayW T = false) := Lib.hid (by unfold mayW; rw [decide_eq_false (by omega), Bool.false_and])
    have z1000 : (1000 : Int) < n := by omega
    clear h hn h1000
    go_enter Try.func20, Try.ntmps20
    go_wp2
    go_ret2
    exact ⟨HB.out, .inr ⟨HN.out, rfl⟩⟩
end Go.Proofs.Ythehjhckcblbdaa.Pk
