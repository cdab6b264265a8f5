/-
  match.Split: the tokens of a text.
-/
import Derived.Test.YtdiimebcahhieaaLg
import Derived.Test.YtdiimebcahhieaaXp
import Derived.WalkMore
namespace Go.Proofs.Ytdiimebcahhieaa
open Go.RowKit Mt Go.Lib
def tc (T : List Tok) : List Value := T.flatMap fun t => [.int .i64 t.byte, .int .i64 t.dist, .int .i64 t.len]
theorem tc_length (T : List Tok) : (tc T).length = T.length * 3 := by
  induction T with
  | nil => rfl
  | cons t T ih => unfold tc at ih ⊢; rw [List.flatMap_cons, List.length_append, ih, List.length_cons]; simp; omega
theorem tc_append (T U : List Tok) : tc (T ++ U) = tc T ++ tc U := by unfold tc; rw [List.flatMap_append]
theorem tc_one (T : List Tok) : ∀ u ∈ tc T, u.oneCell' = true := by
  intro u hu
  unfold tc at hu
  obtain ⟨t, _, ht⟩ := List.mem_flatMap.1 hu
  simp at ht
  rcases ht with rfl | rfl | rfl <;> rfl
theorem tc_get (T : List Tok) : ∀ i (h : i < T.length), (tc T)[i * 3]? = some (.int .i64 T[i].byte) ∧ (tc T)[i * 3 + 1]? = some (.int .i64 T[i].dist) ∧ (tc T)[i * 3 + 2]? = some (.int .i64 T[i].len) := by
  induction T with
  | nil => intro i h; simp at h
  | cons t T ih =>
    intro i h
    have e : tc (t :: T) = .int .i64 t.byte :: .int .i64 t.dist :: .int .i64 t.len :: tc T := by unfold tc; rw [List.flatMap_cons]; rfl
    rw [e]
    cases i with
    | zero => exact ⟨rfl, rfl, rfl⟩
    | succ i =>
      have := ih i (by simpa using h)
      rw [show (i + 1) * 3 = i * 3 + 3 by omega]
      exact this
theorem tok_new (w : World) (t : Tok) : ∀ j u, (tc [t])[j]? = some u → (w.alloc (.cells #[.int .i64 t.byte, .int .i64 t.dist, .int .i64 t.len] 28)).cell? ((⟨w.heap.size, 0, Option.none⟩ : Addr).add j) = some u := by
  intro j u hj
  have e := heap_alloc_new w (Obj.cells #[.int .i64 t.byte, .int .i64 t.dist, .int .i64 t.len] 28)
  rw [Addr.add_lit, Nat.zero_add, cell_of_row _ _ j _ 28 (0, 0) e]
  have e2 : #[Value.int .i64 t.byte, .int .i64 t.dist, .int .i64 t.len] = (tc [t]).toArray := rfl
  rw [e2, List.getElem?_toArray]
  exact hj
theorem info28 : (Try.prog.info? 28).map (fun i => (i.zero, i.size, i.bytes)) = some (some (.agg #[.int .i64 0, .int .i64 0, .int .i64 0]), 3, 24) := by kernel_rfl
theorem row_turn {B b n : Nat} {w w' : World} {v : Value} {xs : List Value} (h : w.ownsRow B 28 3 v n xs) (ht : Turn b w w') : w'.ownsRow B 28 3 v n xs := by
  refine ⟨h.1, ?_⟩
  rcases h.2 with hn | ⟨g, cap, cur, rfl, hb, hg, rest⟩
  · exact .inl hn
  · exact .inr ⟨g, cap, cur, rfl, hb, ht.other g cur _ hg, rest⟩
theorem row_lies {B n : Nat} {w : World} {v : Value} {T : List Tok} (hn : n = T.length) (h : w.ownsRow B 28 3 v n (tc T)) : ∃ p cap, v = .slice p T.length cap ∧ Lies w p T cap := by
  subst hn
  rcases h.2 with ⟨rfl, h0⟩ | ⟨g, cap, cur, rfl, hb, hg, h1, h2, _⟩
  · obtain rfl : T = [] := List.length_eq_zero_iff.1 h0
    exact ⟨Option.none, 0, rfl, Nat.le_refl _, Nat.zero_le _, .inl rfl⟩
  · have hc : ∀ j u, (tc T)[j]? = some u → w.cell? ⟨g, 0 + j, Option.none⟩ = some u := fun j u hj => by
      have := h.cells (g := g) rfl j u hj
      rwa [Addr.add_lit] at this
    exact ⟨some ⟨g, 0, Option.none⟩, cap, rfl, h1, h2, .inr ⟨g, 0, rfl, fun i hi => hc _ _ (tc_get T i hi).1, fun i hi => by rw [Nat.add_assoc]; exact hc _ _ (tc_get T i hi).2.1, fun i hi => by rw [Nat.add_assoc]; exact hc _ _ (tc_get T i hi).2.2⟩⟩
theorem split_full (s : List UInt8) {p : Nat} (hp : p < s.length) : split s s.length p = step1 s p :: split s s.length (next s p) := by
  obtain ⟨k, hk⟩ : ∃ k, s.length = k + 1 := ⟨s.length - 1, by omega⟩
  have := next_gt s p
  rw [split_fuel s s.length (k + 1) p (by omega) (by omega), split_more s k p hp, split_fuel s k s.length (next s p) (by omega) (by omega)]
theorem grp_row {B b n : Nat} {w w' : World} {v : Value} {xs : List Value} {G : Value → List Int} (h : Grp Try.prog 42 3 .i64 w (b + 1) b G) (hr : w.ownsRow B 28 3 v n xs) (hB : b < B) (hg : w.grownBy w' v.ownBlock) : Grp Try.prog 42 3 .i64 w' (b + 1) b G := by
  refine h.kept hg (fun e => by have := (hr.lt b e.symm).1; omega) fun j hj => .inr ?_
  rcases hr.2 with ⟨rfl, _⟩ | ⟨g, cap, cur, rfl, _, hgg, _⟩
  · cases hj
  · cases hj; exact ⟨cur, 28, (0, 0), hgg, by decide⟩
set_option maxRecDepth 100000 in
set_option maxHeartbeats 2000000 in
theorem split_any (s : ByteArray) (w : World) (hs : s.size ≤ 2000) :
    Calls Try.prog 11 #[.string s] w fun e w' => ∃ p cap, e = .returned (.slice p (split s.data.toList s.size 0).length cap) ∧ Lies w' p (split s.data.toList s.size 0) cap ∧ Below w.heap.size w w' := by
  have zs : (s.size : Int) ≤ 2000 := by omega
  have hmm := @run_makeMap Try.prog
  have hsl : Hid (s.data.toList.length = s.size) := by show _ = _; simp
  obtain ⟨i0, hi0, hz0, hz1, hz2⟩ := info_parts info28
  generalize hF : split s.data.toList s.size 0 = F
  have HF : Hid (([] : List Tok) ++ split s.data.toList s.size 0 = F) := Lib.hid (by simpa using hF)
  clear hF
  have HG : Hid (Grp Try.prog 42 3 .i64 (w.alloc (.map #[] 0)) (w.heap.size + 1) w.heap.size (pos s.data.toList 0 0)) := by show Grp _ _ _ _ _ _ _ _; rw [pos_nil]; exact Grp.made w
  have HR : Hid ((w.alloc (.map #[] 0)).ownsRow (w.heap.size + 1) 28 3 (.slice Option.none 0 0) 0 (tc [])) := Lib.hid (World.ownsRow_nil _ _ _ _)
  have HB : Hid (Below w.heap.size w (w.alloc (.map #[] 0))) := Lib.hid ((Below.refl _ _).alloc (Nat.le_refl _) _)
  go_enter Try.func11, Try.ntmps11
  go_wp2
  go_step3
  go_wp2
  go_step3
  go_wp2
  go_loopw [3, 5] (fun v n wr => ∃ (p L : Nat) (T : List Tok), p ≤ s.size ∧ n = .int .i64 p ∧ Hid (L = T.length) ∧ L ≤ p ∧ Hid (wr.ownsRow (w.heap.size + 1) 28 3 v L (tc T)) ∧ Hid (Grp Try.prog 42 3 .i64 wr (w.heap.size + 1) w.heap.size (pos s.data.toList 0 p)) ∧ Hid (Below w.heap.size w wr) ∧ Hid (w.heap.size + 1 ≤ wr.heap.size) ∧ Hid (T ++ split s.data.toList s.size p = F)) (fun _ n _ => s.size - (RowKit.intOf n).toNat)
  case atStart => exact ⟨0, 0, [], Nat.zero_le _, rfl, Lib.hid rfl, Nat.le_refl _, HR, HG, HB, Lib.hid (by simp), HF⟩
  case round =>
    clear HR HG HB HF
    obtain ⟨p, L, T, hp, rfl, HL, hLp, HR, HG, HB, HS, HF⟩ := hrel
    by_cases hlt : p < s.size
    · have zp : (p : Int) < s.size := by omega
      have zL : (L : Int) ≤ 2000 := by omega
      have h16 := best_any s hs w.heap.size (w.heap.size + 1) 0 p (by omega) hp wr HG.out
      have hbest := longest_best s.data.toList p
      have hfull := split_full s.data.toList (p := p) (by rw [hsl.out]; exact hlt)
      have hnext := next_le s.data.toList p (by rw [hsl.out]; exact hlt)
      obtain ⟨n, hn⟩ : ∃ n, (longest s.data.toList p).1 = n := ⟨_, rfl⟩
      obtain ⟨d, hd⟩ : ∃ d, (longest s.data.toList p).2 = d := ⟨_, rfl⟩
      unfold step1 next at hfull
      unfold next at hnext
      rw [hn, hd] at h16 hbest
      rw [hn, hd, hsl.out] at hfull
      rw [hn, hsl.out] at hnext
      have hn18 : n ≤ 18 := by rcases hbest.hit with ⟨h1, _⟩ | ⟨_, h1, _⟩ <;> omega
      have hd255 : d ≤ 255 := by rcases hbest.hit with ⟨_, h1⟩ | ⟨_, _, h1, _⟩ <;> omega
      clear hbest hn hd
      have zn : (n : Int) ≤ 18 := by omega
      have zd : (d : Int) ≤ 255 := by omega
      have hws := HS.out
      have hk17 := fun (e : Nat) he1 he2 (wz : World) G hb => note_any s hs w.heap.size (w.heap.size + 1) 0 p e (Nat.zero_le _) he1 he2 wz G rfl hb
      by_cases hn0 : n = 0
      · subst hn0
        simp only [if_true] at hfull hnext
        obtain ⟨c, hc⟩ : ∃ c, s[p] = c := ⟨_, rfl⟩
        have hcg : s.data.toList.getD p 0 = c := by rw [← hc, List.getD_eq_getElem?_getD, List.getElem?_eq_getElem (by simpa using hlt)]; rfl
        rw [hcg] at hfull
        rw [hfull] at HF
        have zc : (c.toNat : Int) ≤ 255 := by have := c.toNat_lt; omega
        replace hlt := Lib.hid hlt
        replace hnext := Lib.hid hnext
        clear hfull hcg hn18 hd255 zn
        go_wp2_with (first
          | (go_at_call 16; ((with_reducible refine h16.mono ?_); rintro e w1 ⟨rfl, H1⟩; replace H1 := Lib.hid H1))
          | (with_reducible refine stop_append ?_))
        unfold Stop
        have hw1 := H1.out.size
        have B1 := H1.out.alloc H1.out.size (Obj.cells #[Value.int .i64 (c.toNat : Int), Value.int .i64 0, Value.int .i64 0] 28)
        have R1 := row_later HR.out B1
        have G1 := HG.out.later B1
        have X1 := HB.out.next B1
        refine wpList_append_own _ rfl _ _ 22 rfl (w.heap.size + 1) 28 i0 (.agg #[.int .i64 0, .int .i64 0, .int .i64 0]) 3 24 Try.underlying22 hi0 hz0 hz1 hz2 rfl (by decide) u3 L (tc T) rfl R1 ⟨w1.heap.size, 0, Option.none⟩ 1 1 (tc [⟨(c.toNat : Int), 0, 0⟩]) rfl rfl (tok_new w1 ⟨(c.toNat : Int), 0, 0⟩) (tc_one _) (by unfold maxLen; omega) (by omega) (by simp; omega) ?_
        intro v3 w3 own3 gr3 nn3
        replace gr3 : World.grownBy _ w3 u3.ownBlock := gr3
        have G3 := grp_row G1 R1 (by omega) gr3
        have X3 : Below w.heap.size w w3 := X1.grown gr3 X1.size (fun b hb => by have := (R1.lt b hb).1; omega)
        have hs3 : w.heap.size + 1 ≤ w3.heap.size := by have := gr3.size; simp at this; omega
        have R3 : w3.ownsRow (w.heap.size + 1) 28 3 v3 (L + 1) (tc (T ++ [⟨(c.toNat : Int), 0, 0⟩])) := by rw [tc_append]; exact own3
        have h17 := hk17 (p + 1) (by omega) (by first | omega | exact hnext.out) w3 G3 hs3
        have hx : ((p + 1 : Nat) : Int) = ((p : Int) + 1) := by omega
        rw [hx] at h17
        replace R3 := Lib.hid R3
        replace X3 := Lib.hid X3
        replace hs3 := Lib.hid hs3
        clear own3 gr3 nn3 R1 G1 X1 B1 G3 HR HG HB HS hk17 h16 hx hw1 hws
        go_wp2_with (go_at_call 17; ((with_reducible refine h17.mono ?_); rintro e w4 ⟨rfl, G4, T4⟩))
        have R4 := Lib.hid (row_turn R3.out T4)
        have X4 : Hid (Below w.heap.size w w4) := Lib.hid (X3.out.trans T4.below)
        have hs4 : Hid (w.heap.size + 1 ≤ w4.heap.size) := Lib.hid (by have := T4.below.size; have := hs3.out; omega)
        replace G4 := Lib.hid G4
        have HL4 : Hid (L + 1 = (T ++ [(⟨(c.toNat : Int), 0, 0⟩ : Tok)]).length) := by show _ = _; rw [List.length_append, ← HL.out]; rfl
        have HF4 : Hid ((T ++ [(⟨(c.toNat : Int), 0, 0⟩ : Tok)]) ++ split s.data.toList s.size (p + 1) = F) := by show _ = _; rw [List.append_assoc]; exact HF.out
        clear h17 T4 R3 X3 hs3
        go_wp2
        go_roundw
        case rel => exact ⟨p + 1, L + 1, T ++ [⟨(c.toNat : Int), 0, 0⟩], by first | exact hnext.out | omega, by go_num, HL4, by omega, R4, G4, X4, hs4, HF4⟩
        case measure => have := hlt.out; simp [RowKit.intOf]; omega
      · rw [if_neg hn0, if_neg hn0] at hfull
        rw [if_neg hn0] at hnext
        rw [hfull] at HF
        have zn0 : ¬ ((n : Int) = 0) := by omega
        have zn1 : (1 : Int) ≤ n := by omega
        have zpn : (p : Int) + n ≤ s.size := by omega
        replace hlt := Lib.hid hlt
        replace hnext := Lib.hid hnext
        clear hfull hn18 hd255
        go_wp2_with (first
          | (go_at_call 16; ((with_reducible refine h16.mono ?_); rintro e w1 ⟨rfl, H1⟩; replace H1 := Lib.hid H1))
          | (with_reducible refine stop_append ?_))
        unfold Stop
        have hw1 := H1.out.size
        have B1 := H1.out.alloc H1.out.size (Obj.cells #[Value.int .i64 0, Value.int .i64 (d : Int), Value.int .i64 (n : Int)] 28)
        have R1 := row_later HR.out B1
        have G1 := HG.out.later B1
        have X1 := HB.out.next B1
        refine wpList_append_own _ rfl _ _ 22 rfl (w.heap.size + 1) 28 i0 (.agg #[.int .i64 0, .int .i64 0, .int .i64 0]) 3 24 Try.underlying22 hi0 hz0 hz1 hz2 rfl (by decide) u3 L (tc T) rfl R1 ⟨w1.heap.size, 0, Option.none⟩ 1 1 (tc [⟨0, (d : Int), (n : Int)⟩]) rfl rfl (tok_new w1 ⟨0, (d : Int), (n : Int)⟩) (tc_one _) (by unfold maxLen; omega) (by omega) (by simp; omega) ?_
        intro v3 w3 own3 gr3 nn3
        replace gr3 : World.grownBy _ w3 u3.ownBlock := gr3
        have G3 := grp_row G1 R1 (by omega) gr3
        have X3 : Below w.heap.size w w3 := X1.grown gr3 X1.size (fun b hb => by have := (R1.lt b hb).1; omega)
        have hs3 : w.heap.size + 1 ≤ w3.heap.size := by have := gr3.size; simp at this; omega
        have R3 : w3.ownsRow (w.heap.size + 1) 28 3 v3 (L + 1) (tc (T ++ [⟨0, (d : Int), (n : Int)⟩])) := by rw [tc_append]; exact own3
        have h17 := hk17 (p + n) (by omega) (by first | omega | exact hnext.out) w3 G3 hs3
        have hx : ((p + n : Nat) : Int) = ((p : Int) + n) := by omega
        rw [hx] at h17
        replace R3 := Lib.hid R3
        replace X3 := Lib.hid X3
        replace hs3 := Lib.hid hs3
        clear own3 gr3 nn3 R1 G1 X1 B1 G3 HR HG HB HS hk17 h16 hx hw1 hws
        go_wp2_with (go_at_call 17; ((with_reducible refine h17.mono ?_); rintro e w4 ⟨rfl, G4, T4⟩))
        have R4 := Lib.hid (row_turn R3.out T4)
        have X4 : Hid (Below w.heap.size w w4) := Lib.hid (X3.out.trans T4.below)
        have hs4 : Hid (w.heap.size + 1 ≤ w4.heap.size) := Lib.hid (by have := T4.below.size; have := hs3.out; omega)
        replace G4 := Lib.hid G4
        have HL4 : Hid (L + 1 = (T ++ [(⟨0, (d : Int), (n : Int)⟩ : Tok)]).length) := by show _ = _; rw [List.length_append, ← HL.out]; rfl
        have HF4 : Hid ((T ++ [(⟨0, (d : Int), (n : Int)⟩ : Tok)]) ++ split s.data.toList s.size (p + n) = F) := by show _ = _; rw [List.append_assoc]; exact HF.out
        clear h17 T4 R3 X3 hs3
        go_wp2
        go_roundw
        case rel => exact ⟨p + n, L + 1, T ++ [⟨0, (d : Int), (n : Int)⟩], by first | exact hnext.out | omega, by go_num, HL4, by omega, R4, G4, X4, hs4, HF4⟩
        case measure => have := hlt.out; simp [RowKit.intOf]; omega
    · have e : p = s.size := by omega
      have HE : Hid (T = F) := by show _ = _; rw [← HF.out, e, ← hsl.out, split_done _ _ _ (Nat.le_refl _), List.append_nil]
      obtain ⟨q, c, rfl, HLies⟩ := row_lies HL.out HR.out
      subst e
      go_wp2
      rw [Exit.noGoto_ret]
      go_ret
      rw [← HE.out]
      exact ⟨q, c, rfl, HLies, HB.out⟩
end Go.Proofs.Ytdiimebcahhieaa
