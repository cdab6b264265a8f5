/-
  All places of a sorted list are apart; contract of ratio.Greatest, and what the greatest one is.
-/
import Derived.Test.YtdjkilgcgkhcdaaDoorOr
import Derived.Test.YtdjkilgcgkhcdaaDoorWk10
import Derived.Deep.QuietTactic
import Derived.BigQuiet
namespace Go.Proofs.YtdjkilgcgkhcdaaDoor
open Go.RowKit Go.Fl Go.Sort Go.Lib
theorem places_list (n : Nat) : (places n).toList.map (·.val) = List.range n := by
  apply List.ext_getElem
  · simp [places]
  · intro i h1 h2; simp [places]
theorem ext_all {α : Type} (a : Array α) (n : Nat) (h : a.size = n) : a.extract 0 n = a := by subst h; simp
theorem Stable.distinct {l : List Nat} [Inhabited (Fin l.length)] {r : Array (Fin l.length)} (h : Stable l r) (i k : Nat) (hik : i < k) (hk : k < l.length) : (r[i]!).val ≠ (r[k]!).val := by
  have hp := h.perm.2.2
  have hs := h.size
  rw [ext_all r _ hs, ext_all _ _ (places_size _)] at hp
  have hp2 : (r.toList.map (·.val)).Perm (List.range l.length) := by
    rw [← places_list]
    exact List.Perm.map _ hp
  have hn : (r.toList.map (·.val)).Nodup := hp2.symm.nodup List.nodup_range
  rw [getElem!_pos r i (by omega), getElem!_pos r k (by omega)]
  intro e
  have hi' : i < (r.toList.map (·.val)).length := by simp; omega
  have hk' : k < (r.toList.map (·.val)).length := by simp; omega
  have := (List.nodup_iff_pairwise_ne.1 hn)
  rw [List.pairwise_iff_getElem] at this
  exact this i k hi' hk' hik (by simpa using e)
def nanC : Nat := 9221120237041090561
def gstep (g x : Nat) : Nat := if kindOf x ≠ 6 ∧ (kindOf g = 6 ∨ lessB g x = true) then x else g
def greatL (l : List Nat) : Nat := l.foldl gstep nanC
set_option maxHeartbeats 400000 in
theorem nan_any (w : World) : Calls Tryd.prog 31 #[] w fun e w' => e = .returned (.float .f64 nanC) ∧ w = w' := by
  go_enter Tryd.func31, Tryd.ntmps31
  go_wp2
  go_ret
  exact ⟨rfl, rfl⟩
theorem take_getD (l : List Nat) (k : Nat) (h : k < l.length) : l.take (k + 1) = l.take k ++ [l.getD k 0] := by
  rw [List.take_succ_eq_append_getElem h, List.getD_eq_getElem?_getD, List.getElem?_eq_getElem h]; rfl
theorem fold_lt (l : List Nat) (hl : ∀ x ∈ l, x < 2 ^ 64) : ∀ g, g < 2 ^ 64 → l.foldl gstep g < 2 ^ 64 := by
  induction l with
  | nil => exact fun g h => h
  | cons a t ih =>
    intro g h
    refine ih (fun x hx => hl x (List.mem_cons_of_mem _ hx)) _ ?_
    unfold gstep
    split
    · exact hl a (List.mem_cons_self ..)
    · exact h
theorem getD_mem_lt {l : List Nat} (h : ∀ i, l.getD i 0 < 2 ^ 64) : ∀ x ∈ l, x < 2 ^ 64 := fun x hx => by
  obtain ⟨i, hi, rfl⟩ := List.getElem_of_mem hx
  have := h i
  rwa [List.getD_eq_getElem?_getD, List.getElem?_eq_getElem hi] at this
set_option maxHeartbeats 1000000 in
theorem greatest_any (l : List Nat) (blk off cap : Nat) (w : World) (hz : l.length ≤ 4611686018427387903) (hF : FloatsAt w blk off l) :
    Calls Tryd.prog 18 #[.slice (some ⟨blk, off, none⟩) l.length cap] w fun e w' => e = .returned (.float .f64 (greatL l)) ∧ w = w' := by
  have HF := Lib.hid hF
  have zl : (l.length : Int) ≤ 4611686018427387903 := by omega
  clear hF hz
  go_enter Tryd.func18, Tryd.ntmps18
  go_wp2_with (go_at_call 31; ((with_reducible refine (nan_any _).mono ?_); rintro e w' ⟨rfl, rfl⟩))
  go_loop [3, 5, 9] (fun g _ v => ∃ k : Nat, k ≤ l.length ∧ v = .int .i64 k ∧ g = .float .f64 ((l.take k).foldl gstep nanC)) (fun _ _ v => l.length - (intOf v).toNat)
  case atStart => exact ⟨0, by omega, rfl, rfl⟩
  case round =>
    obtain ⟨k, hk, rfl, rfl⟩ := hrel
    by_cases hlt : k < l.length
    · have c := HF.out.cell k hlt
      have HX := Lib.hid (HF.out.lt k)
      have HG : Hid ((l.take k).foldl gstep nanC < 2 ^ 64) := fold_lt _ (fun x hx => getD_mem_lt HF.out.lt x (List.mem_of_mem_take hx)) _ (by decide)
      have HT : Hid ((l.take (k + 1)).foldl gstep nanC = gstep ((l.take k).foldl gstep nanC) (l.getD k 0)) := by
        show _ = _
        rw [take_getD l k hlt, List.foldl_append]; rfl
      generalize l.getD k 0 = x at *
      generalize (l.take k).foldl gstep nanC = g at *
      cases h1 : (kindOf x != 6) <;> cases h2 : (kindOf g == 6) <;> cases h3 : lessB g x
      all_goals
        go_wp2_with (first
          | (go_at_call 24; ((with_reducible refine (kind_any _ _).mono ?_); rintro e w' ⟨rfl, rfl⟩))
          | (go_at_call 16; ((with_reducible refine (less_any _ _ _ HG.out HX.out).mono ?_); rintro e w' ⟨rfl, rfl⟩)))
        go_round
        case rel => exact ⟨k + 1, by omega, by go_num, by rw [HT.out]; unfold gstep; simp_all⟩
        case measure => simp [intOf]; omega
    · have e : k = l.length := by omega
      subst e
      go_wp2
      go_ret
      exact ⟨rfl, rfl⟩
theorem lessB_none {g x : Nat} (hg : val g = none) (hx : ∃ v, val x = some v) : lessB x g = true ∧ lessB g x = false := by
  obtain ⟨v, hv⟩ := hx
  have := val_range x v hv
  have ht := top_pos
  have kg : key g = 2 * top + 5 := by unfold key; rw [hg]
  unfold lessB
  rw [kg]
  unfold key
  rw [hv]
  simp only [decide_eq_true_eq, decide_eq_false_iff_not]
  constructor <;> split <;> omega
theorem kind_six (x : Nat) (hx : x < 2 ^ 64) : kindOf x = 6 ↔ val x = none := by
  match h : val x with
  | none => simp [kindOf_none x h]
  | some v => have := kind_key x hx v h; simp; omega
/-- The greatest of a list, by what it is: no number if there is none; else one of them, ahead of none. -/
theorem greatL_spec (l : List Nat) (hl : ∀ x ∈ l, x < 2 ^ 64) : ∀ g, g < 2 ^ 64 →
    (val (l.foldl gstep g) = none → val g = none ∧ ∀ x ∈ l, val x = none) ∧
    (val (l.foldl gstep g) ≠ none → (l.foldl gstep g = g ∨ l.foldl gstep g ∈ l) ∧ (val g ≠ none → lessB (l.foldl gstep g) g = false) ∧ ∀ x ∈ l, val x ≠ none → lessB (l.foldl gstep g) x = false) := by
  induction l with
  | nil => exact fun g hg => ⟨fun h => ⟨h, fun x hx => by cases hx⟩, fun h => ⟨.inl rfl, fun _ => by unfold lessB; simp, fun x hx => by cases hx⟩⟩
  | cons a t ih =>
    intro g hg
    have ha := hl a (List.mem_cons_self ..)
    have iht := ih (fun x hx => hl x (List.mem_cons_of_mem _ hx)) (gstep g a) (by unfold gstep; split <;> assumption)
    rw [List.foldl_cons]
    generalize t.foldl gstep (gstep g a) = r at iht ⊢
    have ka := kind_six a ha
    have kg := kind_six g hg
    by_cases hc : kindOf a ≠ 6 ∧ (kindOf g = 6 ∨ lessB g a = true)
    · have e : gstep g a = a := by unfold gstep; rw [if_pos hc]
      rw [e] at iht
      have hav : val a ≠ none := fun h => hc.1 (ka.2 h)
      refine ⟨fun h => absurd (iht.1 h).1 hav, fun h => ?_⟩
      obtain ⟨i1, i2, i3⟩ := iht.2 h
      refine ⟨.inr (by rcases i1 with h | h; exact h ▸ List.mem_cons_self .. ; exact List.mem_cons_of_mem _ h), fun hgv => ?_, fun x hx hxv => ?_⟩
      · have h2 : lessB g a = true := by rcases hc.2 with h | h; exact absurd (kg.1 h) hgv; exact h
        have h3 := i2 hav
        unfold lessB at *
        simp only [decide_eq_true_eq, decide_eq_false_iff_not] at *
        omega
      · rcases List.mem_cons.1 hx with rfl | hx
        · exact i2 hav
        · exact i3 x hx hxv
    · have e : gstep g a = g := by unfold gstep; rw [if_neg hc]
      rw [e] at iht
      refine ⟨fun h => ?_, fun h => ?_⟩
      · obtain ⟨h1, h2⟩ := iht.1 h
        refine ⟨h1, fun x hx => ?_⟩
        rcases List.mem_cons.1 hx with rfl | hx
        · refine Classical.byContradiction fun hn => hc ⟨fun h => hn (ka.1 h), .inl (kg.2 h1)⟩
        · exact h2 x hx
      · obtain ⟨i1, i2, i3⟩ := iht.2 h
        refine ⟨by rcases i1 with h | h; exact .inl h; exact .inr (List.mem_cons_of_mem _ h), i2, fun x hx hxv => ?_⟩
        rcases List.mem_cons.1 hx with rfl | hx
        · have hka : kindOf x ≠ 6 := fun h => hxv (ka.1 h)
          have hkg : kindOf g ≠ 6 := fun h => hc ⟨hka, .inl h⟩
          have h2 := i2 (fun h => hkg (kg.2 h))
          have h3 : ¬ lessB g x = true := fun h => hc ⟨hka, .inr h⟩
          unfold lessB at *
          simp only [decide_eq_true_eq, decide_eq_false_iff_not] at *
          omega
        · exact i3 x hx hxv
end Go.Proofs.YtdjkilgcgkhcdaaDoor
