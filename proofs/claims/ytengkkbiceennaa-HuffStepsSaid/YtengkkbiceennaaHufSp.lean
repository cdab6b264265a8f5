/-
  What package huff's functions must answer, told as one structure; the law's fixed calls; how many symbols are there; the document's Once.
-/
import Derived.Test.YtengkkbiceennaaHufRe
import Derived.Test.YtengkkbiceennaaHufLw
namespace Go.Proofs.Ytengkkbiceennaa
open Go.RowKit Go.Lib
structure Spec : Prop where
  lens : ∀ (f : List Nat) (p : Option Addr) (cap : Nat) (w : World), f.length ≤ 300 → (∀ i, f.getD i 0 ≤ 100000) → IntsLie w p (nums f) cap →
    Calls Try.prog 10 #[.slice p f.length cap] w fun e w' => ∃ q c, e = .returned (.slice q f.length c) ∧ IntsLie w' q (nums (Hf.lens f)) c ∧ Below w.heap.size w w'
  none : ∀ (p : Option Addr) (cap : Nat) (w : World), IntsLie w p [-1] cap → Calls Try.prog 10 #[.slice p 1 cap] w fun e w' => ∃ q c, e = .returned (.slice q 0 c) ∧ Below w.heap.size w w'
  cost : ∀ (f l : List Nat) (p q : Option Addr) (c d : Nat) (w : World), f.length = l.length → f.length ≤ 300 → (∀ i, f.getD i 0 ≤ 100000) → (∀ i, l.getD i 0 ≤ 15) → IntsLie w p (nums f) c → IntsLie w q (nums l) d →
    Calls Try.prog 15 #[.slice p f.length c, .slice q f.length d] w fun e w' => e = .returned (.int .i64 (Hf.costN f l : Nat)) ∧ Below w.heap.size w w'
  kraft : ∀ (l : List Nat) (p : Option Addr) (c : Nat) (w : World), l.length ≤ 300 → (∀ i, l.getD i 0 ≤ 15) → IntsLie w p (nums l) c →
    Calls Try.prog 12 #[.slice p l.length c] w fun e w' => e = .returned (.int .i64 (Hf.kraftN l : Nat)) ∧ Below w.heap.size w w'
theorem nums_at (D : List Nat) (i : Nat) (h : i < (nums D).length) : (nums D)[i] = ((D[i]'(by rw [nums_len] at h; exact h) : Nat) : Int) := List.getElem_map _
theorem lit_lie (w : World) (l : List Int) (h : l.length ≤ 100) : IntsLie (w.alloc (.cells (l.map fun x => Value.int .i64 x).toArray 3)) (some ⟨w.heap.size, 0, none⟩) l l.length := by
  refine ⟨Nat.le_refl _, by unfold maxLen; omega, .inr ⟨_, _, rfl, fun i hi => ?_⟩⟩
  rw [Nat.zero_add, cell_of_row _ _ i _ 3 (0, 0) (heap_alloc_new w _)]
  simp [hi]
theorem once_any (f : List Nat) (hn : f.length ≤ 300) (hm : ∀ i, f.getD i 0 ≤ 100000) (p : Option Addr) (cap : Nat) (w : World) (h : IntsLie w p (nums f) cap) :
    Calls Try.prog 14 #[.slice p f.length cap] w fun e w' => ∃ q c, e = .returned (.slice q f.length c) ∧ IntsLie w' q (nums ((List.range f.length).map (Hf.once f))) c ∧ Below w.heap.size w w' := by
  have ho := once_doc f hn hm p cap w h
  clear h hm hn
  go_enter Try.func14, Try.ntmps14
  go_wp2_with (go_at_call 23; ((with_reducible refine ho.mono ?_); rintro e w1 ⟨v, rfl, hv, hb⟩; replace hv := Lib.hid hv; replace hb := Lib.hid hb))
  go_ret
  have hl : ((List.range f.length).map (Hf.once f)).length = f.length := by simp
  obtain ⟨ao, c, rfl⟩ := row_any hv.out
  refine ⟨ao, c, rfl, ?_, hb.out⟩
  generalize (List.range f.length).map (Hf.once f) = D at *
  rcases hv.out.2 with ⟨e1, h0⟩ | ⟨g, cap, cur, e1, _, hg, h1, h2, _⟩
  · simp only [Value.slice.injEq] at e1
    obtain ⟨rfl, hl0, rfl⟩ := e1
    exact ⟨by rw [nums_len]; omega, by unfold maxLen; omega, .inl (List.length_eq_zero_iff.1 (by rw [nums_len]; omega))⟩
  · cases e1
    refine ⟨by rw [nums_len, hl]; exact h1, h2, .inr ⟨g, 0, rfl, fun i hi => ?_⟩⟩
    have hi' : i < D.length := by rw [nums_len] at hi; exact hi
    have := ints_get hv.out hi'
    rw [Nat.zero_add, this, nums_at]
/-- how many symbols are there -/
theorem there_any (f : List Nat) (hn : f.length ≤ 300) (p : Option Addr) (cap : Nat) (w : World) (h : IntsLie w p (nums f) cap) :
    Calls Try.prog 11 #[.slice p f.length cap] w fun e w' => e = .returned (.int .i64 ((Hf.S0 f).length : Nat)) ∧ w' = w := by
  have HI := Lib.hid h
  have zn : (f.length : Int) ≤ 300 := by omega
  have hcap : (f.length : Int) ≤ cap := by have := h.len; rw [nums_len] at this; omega
  have H0 : Hid ((firsts f f.length).length = (Hf.S0 f).length) := by show _ = _; rw [firsts_all]; unfold Hf.leaves; rw [List.length_map]
  clear h hn
  go_enter Try.func11, Try.ntmps11
  go_wp2
  go_loop [3, 4] (fun a v => ∃ i k : Nat, i ≤ f.length ∧ k ≤ i ∧ v = .int .i64 i ∧ a = .int .i64 k ∧ Hid (k = (firsts f i).length)) (fun _ v => f.length - (RowKit.intOf v).toNat)
  case atStart => exact ⟨0, 0, Nat.zero_le _, Nat.le_refl _, rfl, rfl, by show _ = _; rfl⟩
  case round =>
    obtain ⟨i, k, hi, hk, rfl, rfl, HK⟩ := hrel
    by_cases hlt : i < f.length
    · obtain ⟨blk, off, rfl, hc⟩ := HI.out.at (i := i) (by rw [nums_len]; exact hlt)
      have c := hc i (by rw [nums_len]; exact hlt)
      rw [nums_get] at c
      have HS := Lib.hid (firsts_succ f i)
      obtain ⟨x, hx⟩ : ∃ x, f.getD i 0 = x := ⟨_, rfl⟩
      rw [hx] at c HS
      have ii : (i : Int) < f.length := by omega
      have zk : (k : Int) ≤ 300 := by omega
      clear hc hx
      by_cases h0 : 0 < x
      · have HK2 : Hid (k + 1 = (firsts f (i + 1)).length) := by show _ = _; rw [HS.out, if_pos h0, List.length_append, ← HK.out]; rfl
        have z0 : (1 : Int) ≤ x := by omega
        clear h0 HS
        go_wp2
        go_round
        case rel => exact ⟨i + 1, k + 1, by omega, by omega, by go_num, by go_num, HK2⟩
        case measure => simp [RowKit.intOf]; omega
      · have HK2 : Hid (k = (firsts f (i + 1)).length) := by show _ = _; rw [HS.out, if_neg h0, List.append_nil, ← HK.out]
        have z0 : (x : Int) ≤ 0 := by omega
        clear h0 HS
        go_wp2
        go_round
        case rel => exact ⟨i + 1, k, by omega, by omega, by go_num, rfl, HK2⟩
        case measure => simp [RowKit.intOf]; omega
    · have e : i = f.length := by omega
      subst e
      have HE := Lib.hid (HK.out.trans H0.out)
      go_wp2
      go_ret
      exact ⟨ret_int (by rw [HE.out]), rfl⟩
end Go.Proofs.Ytengkkbiceennaa

