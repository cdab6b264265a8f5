/-
  match.Expand: what tokens tell.
-/
import Derived.Test.YtdiimebcahhieaaAp
namespace Go.Proofs.Ytdiimebcahhieaa
open Go.RowKit Mt Go.Lib
theorem may_len {t : Tok} (h : may t = true) : t.len ≤ 18 ∧ 0 ≤ t.len := by
  by_cases a : t.len = 0
  · omega
  · obtain ⟨d, n, h1, h2, h3, h4, h5, h6⟩ := may_copy t h a
    omega
theorem add_max (o : List UInt8) {t : Tok} (h : may t = true) : ((add o t).length : Int) = o.length + max t.len 1 := by
  have := may_len h
  rw [add_len]
  split
  · rename_i e; rw [e]; omega
  · omega
theorem row_text {B : Nat} {w : World} {v : Value} {o : List UInt8} (h : w.ownsRow B 5 1 v o.length (pb o)) : (convert 32 9 v).run Try.prog w = .ok (.string ⟨o.toArray⟩) w := by
  rcases h.2 with ⟨rfl, h0⟩ | ⟨g, cap, cur, rfl, _⟩
  · obtain rfl : o = [] := List.length_eq_zero_iff.1 h0
    exact run_convert_bytes_nil w 32 5 Try.underlying32 Try.underlying5 0 0 9 Try.underlying9
  · refine run_convert_bytes_back w 32 9 5 ⟨g, 0, Option.none⟩ cap o Try.underlying32 Try.underlying5 Try.underlying9 (fun j hj => ?_)
    exact h.cells (g := g) rfl j (.int .u8 (o[j].toNat : Int)) (by unfold pb; rw [List.getElem?_map, List.getElem?_eq_getElem hj]; rfl)
theorem row_later {B e size n : Nat} {w w1 : World} {v : Value} {xs : List Value} (h : w.ownsRow B e size v n xs) (hb : Below w.heap.size w w1) : w1.ownsRow B e size v n xs :=
  h.kept (row := Option.none) ⟨hb.os, hb.tape, hb.output, hb.size, fun k hk _ => hb.block k hk⟩ (by cases h : v.ownBlock <;> simp)
theorem row_form {B : Nat} {w : World} {v : Value} {n : Nat} {xs : List Value} (h : w.ownsRow B 5 1 v n xs) : ∃ ao c, v = .slice ao n c := by
  rcases h.2 with ⟨rfl, rfl⟩ | ⟨g, cap, cur, rfl, _⟩
  · exact ⟨_, _, rfl⟩
  · exact ⟨_, _, rfl⟩
set_option maxHeartbeats 2000000 in
theorem expand_any (T : List Tok) (blk off cap : Nat) (most : Int) (hn : T.length ≤ 2000) (w : World) (hT : ToksAt w blk off T) :
    Calls Try.prog 7 #[.slice (some ⟨blk, off, Option.none⟩) T.length cap, .int .i64 most] w fun e w' => e = .returned (told (expand most [] T)) ∧ Below w.heap.size w w' := by
  have zn : (T.length : Int) ≤ 2000 := by omega
  have HT := Lib.hid hT
  clear hT
  generalize hR : expand most [] T = R
  have HR0 : Hid (expand most [] (T.drop 0) = R) := Lib.hid (by rw [List.drop_zero]; exact hR)
  clear hR
  have H0 : Hid (w.ownsRow w.heap.size 5 1 (.slice Option.none 0 0) ([] : List UInt8).length (pb [])) := Lib.hid (World.ownsRow_nil _ _ _ _)
  go_enter Try.func7, Try.ntmps7
  go_wp2
  go_loopw [6, 11] (fun v n wr => ∃ (i L c : Nat) (ao : Option Addr) (o : List UInt8), i ≤ T.length ∧ n = .int .i64 i ∧ v = .slice ao L c ∧ Hid (L = o.length) ∧ L ≤ 18 * i ∧ Hid (wr.ownsRow w.heap.size 5 1 (.slice ao L c) o.length (pb o)) ∧ Hid (Below w.heap.size w wr) ∧ Hid (expand most o (T.drop i) = R)) (fun _ n _ => T.length - (RowKit.intOf n).toNat)
  case atStart => exact ⟨0, 0, 0, Option.none, [], by omega, rfl, rfl, Lib.hid rfl, by omega, H0, Lib.hid (Below.refl _ _), HR0⟩
  case round =>
    clear H0 HR0
    obtain ⟨i, L, c, ao, o, hi, rfl, rfl, HL, hL, HS, HW, HE⟩ := hrel
    by_cases hlt : i < T.length
    · obtain ⟨c1, c2, c3⟩ := may_at HT.out HW.out i hlt
      have HD : Hid (T.drop i = T[i] :: T.drop (i + 1)) := by show _ = _; exact List.drop_eq_getElem_cons hlt
      have ii : (i : Int) < T.length := by omega
      generalize T[i] = t at c1 c2 c3 HD
      have km : ∀ w, Calls Try.prog 9 #[.agg #[.int .i64 t.byte, .int .i64 t.dist, .int .i64 t.len]] w fun e w' => e = .returned (.bool (may t)) ∧ Below w.heap.size w w' := fun w => may_any t w
      rw [HD.out, expand] at HE
      have zL : (L : Int) ≤ 36000 := by omega
      have q := fun w1 (hb : Below (wr.alloc (Obj.cells #[Value.int IntKind.i64 t.byte, Value.int IntKind.i64 t.dist, Value.int IntKind.i64 t.len] 28)).heap.size (wr.alloc (Obj.cells #[Value.int IntKind.i64 t.byte, Value.int IntKind.i64 t.dist, Value.int IntKind.i64 t.len] 28)) w1) => box_cells wr t w1 hb
      cases ha : may t with
      | false =>
        have HR : Hid (R = none) := by show _ = _; rw [← HE.out, ha]; rfl
        rw [ha] at km
        clear ha
        go_wp2_with (go_at_call 9; ((with_reducible refine (km _).mono ?_); rintro e w1 ⟨rfl, H1⟩; replace H1 := Lib.hid H1))
        go_ret2
        rw [HR.out]
        exact ⟨rfl, (belowNew HW.out _).next H1.out⟩
      | true =>
        rw [ha] at km
        have ha2 := Lib.hid ha
        clear ha
        by_cases hd : t.dist ≤ (L : Int)
        · obtain ⟨m, hm⟩ : ∃ m : Nat, (m : Int) = max t.len 1 := ⟨(max t.len 1).toNat, by omega⟩
          have hml : m ≤ 18 ∧ 1 ≤ m := by have := may_len ha2.out; omega
          have zm : (m : Int) ≤ 18 := by omega
          have hal : ((add o t).length : Int) = L + m := by rw [add_max o ha2.out, HL.out, hm]
          have kl : ∀ w, Calls Try.prog 14 #[.agg #[.int .i64 t.byte, .int .i64 t.dist, .int .i64 t.len]] w fun e w' => e = .returned (.int .i64 m) ∧ Below w.heap.size w w' := fun w => by
            have := length_any t w (may_len ha2.out).1
            rw [← hm] at this; exact this
          clear hm
          by_cases hmo : (L : Int) + m ≤ most
          · rw [if_pos ⟨ha2.out, by rw [← HL.out]; exact hd, by rw [hal]; exact hmo⟩] at HE
            have hal2 : Hid ((add o t).length ≤ 18 * (i + 1)) := by show _ ≤ _; omega
            have ka := fun (wz : World) hB hown => append_any w.heap.size (.slice ao L c) o t wz hB hown ha2.out (by rw [← HL.out]; exact hd) (by have := HL.out; omega)
            clear hal
            go_wp2_with (first
              | (go_at_call 9; ((with_reducible refine (km _).mono ?_); rintro e w1 ⟨rfl, H1⟩; obtain ⟨q0, q1, q2, q3⟩ := q _ H1; replace H1 := Lib.hid H1))
              | (go_at_call 14; ((with_reducible refine (kl _).mono ?_); rintro e w2 ⟨rfl, H2⟩; obtain ⟨r0, r1, r2, r3⟩ := q _ (H1.out.next H2); replace H2 := Lib.hid H2)))
            have hb2 := ((Below.refl wr.heap.size wr).alloc (Nat.le_refl _) (Obj.cells #[Value.int IntKind.i64 t.byte, Value.int IntKind.i64 t.dist, Value.int IntKind.i64 t.len] 28)).next H1.out |>.next H2.out
            refine (ka w2 (by have := hb2.size; have := HW.out.size; omega) (row_later HS.out hb2)).mono ?_
            rintro e w4 ⟨v4, rfl, own4, hb4⟩
            obtain ⟨ao4, c4, rfl⟩ := row_form own4
            replace own4 := Lib.hid own4
            have hb5 := Lib.hid ((HW.out.next hb2).trans hb4)
            generalize hLn : (add o t).length = L4 at hal2 own4
            clear ka km kl q q0 q1 q2 q3 r0 r1 r2 r3 hb2 hb4 HS HW
            simp only []
            go_wp2
            go_roundw
            case rel => exact ⟨i + 1, L4, c4, ao4, add o t, by omega, by go_num, rfl, Lib.hid hLn.symm, hal2.out, by rw [hLn]; exact own4, hb5, HE⟩
            case measure => simp [RowKit.intOf]; omega
          · have HR : Hid (R = none) := by show _ = _; rw [← HE.out, if_neg (by rw [hal]; omega)]
            have zmo : most < (L : Int) + m := by omega
            clear hmo hal
            go_wp2_with (first
              | (go_at_call 9; ((with_reducible refine (km _).mono ?_); rintro e w1 ⟨rfl, H1⟩; obtain ⟨q0, q1, q2, q3⟩ := q _ H1; replace H1 := Lib.hid H1))
              | (go_at_call 14; ((with_reducible refine (kl _).mono ?_); rintro e w2 ⟨rfl, H2⟩; obtain ⟨r0, r1, r2, r3⟩ := q _ (H1.out.next H2); replace H2 := Lib.hid H2)))
            go_ret2
            rw [HR.out]
            exact ⟨rfl, ((belowNew HW.out _).next H1.out).next H2.out⟩
        · have HR : Hid (R = none) := by show _ = _; rw [← HE.out, if_neg (by rw [← HL.out]; omega)]
          have zd : (L : Int) < t.dist := by omega
          clear hd
          go_wp2_with (go_at_call 9; ((with_reducible refine (km _).mono ?_); rintro e w1 ⟨rfl, H1⟩; obtain ⟨q0, q1, q2, q3⟩ := q _ H1; replace H1 := Lib.hid H1))
          go_ret2
          rw [HR.out]
          exact ⟨rfl, (belowNew HW.out _).next H1.out⟩
    · have e : i = T.length := by omega
      have HR : Hid (R = some o) := by show _ = _; rw [← HE.out, e, List.drop_of_length_le (Nat.le_refl _)]; rfl
      have htx := row_text HS.out
      subst e
      go_wp2
      go_ret2
      rw [HR.out]
      exact ⟨rfl, HW.out⟩
end Go.Proofs.Ytdiimebcahhieaa
