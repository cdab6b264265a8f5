/-
  The document's Alike and Longest.
-/
import Derived.Test.YthehjhckcblbdaaGe
import Derived.Test.YthehjhckcblbdaaLstX
import Derived.Test.YthehjhckcblbdaaMatD
import Derived.BigQuiet
namespace Go.Proofs.Ythehjhckcblbdaa.Pk
set_option maxRecDepth 100000
open Go.RowKit Go.Lib Mt
theorem text_at (s : ByteArray) {x : Nat} (h : x < s.size) : s.data.toList.getD x 0 = s[x] := by
  rw [List.getD_eq_getElem?_getD, List.getElem?_eq_getElem (by simpa using h)]; rfl
set_option maxHeartbeats 2000000 in
theorem alike_doc (s : ByteArray) (hs : s.size ≤ 140737488351232) (p d n : Nat) (hp : p ≤ s.size) (hn : n ≤ 18) (h1 : 1 ≤ d) (hd : d ≤ 255) (w : World) :
    Calls Try.prog 72 #[.string s, .int .i64 p, .int .i64 d, .int .i64 n] w fun e w' => e = .returned (.bool (decide (alike s.data.toList p d n))) ∧ Below w.heap.size w w' := by
  have hsl : s.data.toList.length = s.size := by simp
  have zs : (s.size : Int) ≤ 140737488351232 := by omega
  have zp : (p : Int) ≤ s.size := by omega
  have zn : (n : Int) ≤ 18 := by omega
  have zd : (d : Int) ≤ 255 := by omega
  by_cases h2 : s.size < p + n
  · have hf : decide (alike s.data.toList p d n) = false := decide_eq_false fun h => by have := h.1; omega
    rw [hf]
    have z2 : (s.size : Int) < p + n := by omega
    clear hf hsl h1 h2
    go_enter Try.func72, Try.ntmps72
    go_wp2
    go_ret
    exact ⟨rfl, Below.refl _ _⟩
  by_cases h3 : p < d
  · have hf : decide (alike s.data.toList p d n) = false := decide_eq_false fun h => by have := h.2.2.1; omega
    rw [hf]
    have z2 : (p : Int) + n ≤ s.size := by omega
    have z3 : (p : Int) < d := by omega
    clear hf hsl h1 h2 h3
    go_enter Try.func72, Try.ntmps72
    go_wp2
    go_ret
    exact ⟨rfl, Below.refl _ _⟩
  have z2 : (p : Int) + n ≤ s.size := by omega
  have z3 : (d : Int) ≤ p := by omega
  generalize hA : decide (alike s.data.toList p d n) = ans
  have HT := Lib.hid (fun (h : ∀ i, i < n → s.data.toList.getD (p + i) 0 = s.data.toList.getD (p + i - d) 0) => show ans = true by rw [← hA]; exact decide_eq_true ⟨by omega, h1, by omega, h⟩)
  have HF := Lib.hid (fun (i : Nat) (hi : i < n) (h : ¬ s.data.toList.getD (p + i) 0 = s.data.toList.getD (p + i - d) 0) => show ans = false by rw [← hA]; exact decide_eq_false fun k => h (k.2.2.2 i hi))
  clear hA hsl h2 h3
  go_enter Try.func72, Try.ntmps72
  go_wp2
  go_loopw [9] (fun v wr => ∃ i : Nat, v = .int .i64 i ∧ i ≤ n ∧ Hid (∀ j, j < i → s.data.toList.getD (p + j) 0 = s.data.toList.getD (p + j - d) 0) ∧ Hid (Below w.heap.size w wr)) (fun v _ => n - (RowKit.intOf v).toNat)
  case atStart => exact ⟨0, rfl, Nat.zero_le _, Lib.hid (fun i hi => by omega), Below.refl _ _⟩
  case round =>
    obtain ⟨i, rfl, hi, HE, HW⟩ := hrel
    by_cases hlt : i < n
    · obtain ⟨x, hx⟩ : ∃ x, x = p + i := ⟨_, rfl⟩
      obtain ⟨y, hy⟩ : ∃ y, y = p + i - d := ⟨_, rfl⟩
      have hx2 : x < s.size := by omega
      have hy2 : y < s.size := by omega
      have HX : Hid (s.data.toList.getD (p + i) 0 = s[x]) := by show _ = _; rw [← hx, text_at s hx2]
      have HY : Hid (s.data.toList.getD (p + i - d) 0 = s[y]) := by show _ = _; rw [← hy, text_at s hy2]
      have ex : (p : Int) + i = x := by omega
      have ey : (x : Int) - d = y := by omega
      have zx : (x : Int) < s.size := by omega
      have zy : (y : Int) < s.size := by omega
      have zi : (i : Int) < n := by omega
      obtain ⟨c, hc⟩ : ∃ c, s[x] = c := ⟨_, rfl⟩
      obtain ⟨e, he⟩ : ∃ e, s[y] = e := ⟨_, rfl⟩
      rw [hc] at HX
      rw [he] at HY
      clear hx hy
      by_cases hcd : c = e
      · subst hcd
        have HE2 : Hid (∀ j, j < i + 1 → s.data.toList.getD (p + j) 0 = s.data.toList.getD (p + j - d) 0) := by
          refine Lib.hid fun j hj => ?_
          by_cases h : j = i
          · subst h; rw [HX.out, HY.out]
          · exact HE.out j (by omega)
        go_wp2_with fail
        go_quiet (fail)
        simp only [Exit.then]
        go_wp2
        go_roundw
        case rel => exact ⟨i + 1, by go_num, by omega, HE2, drawn_below HW.out _⟩
        case measure => simp [RowKit.intOf]; omega
      · have hne : ¬ ((c.toNat : Int) = e.toNat) := fun h => hcd (UInt8.toNat_inj.1 (by omega))
        have HR : Hid (ans = false) := HF.out i hlt (by rw [HX.out, HY.out]; exact hcd)
        replace hcd := Lib.hid hcd
        go_wp2_with fail
        go_quiet (fail)
        simp only [Exit.then]
        go_wp2
        go_ret
        exact ⟨ret_bool HR.out.symm, drawn_below HW.out _⟩
    · have e : i = n := by omega
      subst e
      have HR : Hid (ans = true) := HT.out HE.out
      go_wp2
      go_ret
      exact ⟨ret_bool HR.out.symm, HW.out⟩
set_option maxHeartbeats 2000000 in
theorem longest_doc (s : ByteArray) (hs : s.size ≤ 140737488351232) (p : Nat) (hp : p < s.size) (w : World) :
    Calls Try.prog 45 #[.string s, .int .i64 p] w fun e w' => e = .returned (.tuple #[.int .i64 ((longest s.data.toList p).1 : Nat), .int .i64 ((longest s.data.toList p).2 : Nat)]) ∧ Below w.heap.size w w' := by
  have HAl := Lib.hid (fun (d n : Nat) (hn : n ≤ 18) (h1 : 1 ≤ d) (hd : d ≤ 255) (w : World) => alike_doc s hs p d n (Nat.le_of_lt hp) hn h1 hd w)
  have zs : (s.size : Int) ≤ 140737488351232 := by omega
  have zp : (p : Int) < s.size := by omega
  have hq : decide (s.size ≤ p) = false := decide_eq_false (by omega)
  have hq0 : decide ((p : Int) < 0) = false := decide_eq_false (by omega)
  generalize hA : longest s.data.toList p = ans
  have HB := Lib.hid (fun (n d : Nat) (h : Best s.data.toList p n d) => show ans = (n, d) by rw [← hA]; exact best_longest h)
  clear hA hs hp
  go_enter Try.func45, Try.ntmps45
  go_wp2
  go_loopw [6, 7] (fun v _ wr => ∃ n : Nat, v = .int .i64 n ∧ 2 ≤ n ∧ n ≤ 18 ∧ Hid (∀ e m, e ≤ 255 → m ≤ 18 → 3 ≤ m → alike s.data.toList p e m → m ≤ n) ∧ Hid (Below w.heap.size w wr)) (fun v _ _ => (RowKit.intOf v).toNat)
  case atStart => exact ⟨18, rfl, by omega, by omega, Lib.hid (fun _ _ _ h _ _ => h), Below.refl _ _⟩
  case round =>
    obtain ⟨n, rfl, hn2, hn, HT, HW⟩ := hrel
    by_cases h3 : 3 ≤ n
    · have z3 : (3 : Int) ≤ n := by omega
      have zn : (n : Int) ≤ 18 := by omega
      go_wp2
      go_loopw [7] (fun v wr => ∃ d : Nat, v = .int .i64 d ∧ 1 ≤ d ∧ d ≤ 256 ∧ Hid (∀ e, e < d → ¬ alike s.data.toList p e n) ∧ Hid (Below w.heap.size w wr)) (fun v _ => 256 - (RowKit.intOf v).toNat)
      case atStart => exact ⟨1, rfl, by omega, by omega, Lib.hid (fun e he h => by have := h.2.1; omega), HW⟩
      case round =>
        obtain ⟨d, rfl, hd1, hd, HN, HW⟩ := hrel
        by_cases hlt : d ≤ 255
        · have zd : (d : Int) ≤ 255 := by omega
          have ha := HAl.out d n hn hd1 hlt wr
          by_cases hal : alike s.data.toList p d n
          · rw [decide_eq_true hal] at ha
            have HV := Lib.hid (HB.out n d ⟨HT.out, .inr ⟨h3, hn, hlt, hal, HN.out⟩⟩)
            clear hal
            go_wp2_with fail
            go_at_call 72
            refine ha.mono ?_
            rintro e w1 ⟨rfl, hb1⟩
            have HB1 := Lib.hid (HW.out.next hb1)
            clear hb1 ha
            go_wp2
            go_ret2
            exact ⟨by rw [HV.out]; rfl, HB1.out⟩
          · rw [decide_eq_false hal] at ha
            have HN2 : Hid (∀ e, e < d + 1 → ¬ alike s.data.toList p e n) := by
              refine Lib.hid fun e he => ?_
              by_cases h : e = d
              · subst h; exact hal
              · exact HN.out e (by omega)
            clear hal
            go_wp2_with fail
            go_at_call 72
            refine ha.mono ?_
            rintro e w1 ⟨rfl, hb1⟩
            have HB1 := Lib.hid (HW.out.next hb1)
            clear hb1 ha
            go_wp2
            go_roundw
            case rel => exact ⟨d + 1, by go_num, by omega, by omega, HN2, HB1⟩
            case measure => simp [RowKit.intOf]; omega
        · have e : d = 256 := by omega
          subst e
          have HT2 : Hid (∀ e m, e ≤ 255 → m ≤ 18 → 3 ≤ m → alike s.data.toList p e m → m ≤ n - 1) := by
            refine Lib.hid fun e m h1 h2 h4 h5 => ?_
            have := HT.out e m h1 h2 h4 h5
            by_cases h : m = n
            · subst h; exact absurd h5 (HN.out e (by omega))
            · omega
          obtain ⟨k, rfl⟩ : ∃ k, n = k + 1 := ⟨n - 1, by omega⟩
          rw [Nat.add_sub_cancel] at HT2
          go_wp2
          go_roundw
          case rel => exact ⟨k, by go_num, by omega, by omega, HT2, HW⟩
          case measure => simp [RowKit.intOf]
    · have e : n = 2 := by omega
      subst e
      have HV := Lib.hid (HB.out 0 0 ⟨fun e m h1 h2 h4 h5 => by have := HT.out e m h1 h2 h4 h5; omega, .inl ⟨rfl, rfl⟩⟩)
      go_wp2
      go_ret2
      exact ⟨by rw [HV.out]; rfl, HW.out⟩
end Go.Proofs.Ythehjhckcblbdaa.Pk

