/-
  How two sorted parts are merged in place: what is true of each way.
-/
import Derived.Test.YtdjkilgcgkhcdaaDoorSt2
namespace Go.Proofs.YtdjkilgcgkhcdaaDoor
open Go.Sort
variable {α : Type} [Inhabited α]
/-- What a merge is handed: two sorted parts; and of two elements of the one and of the other the program's order tells what the strict one does. -/
structure MergePre (lt pr : α → α → Bool) (a m b : Nat) (d : Array α) : Prop where
  left : SortedIn pr a m d
  right : SortedIn pr m b d
  cross : ∀ i j, a ≤ i → i < m → m ≤ j → j < b → lt d[j]! d[i]! = pr d[j]! d[i]!
def MergePost (pr : α → α → Bool) (a b : Nat) (d d' : Array α) : Prop := PermIn a b d d' ∧ SortedIn pr a b d'
/-- Sorted, with places alike. -/
theorem sorted_le {pr : α → α → Bool} (h : SWO pr) {a b : Nat} {d : Array α} (hs : SortedIn pr a b d) {i j : Nat} (h1 : a ≤ i) (h2 : i ≤ j) (h3 : j < b) : pr d[j]! d[i]! = false := by
  by_cases e : i = j
  · subst e; exact h.irrefl _
  · exact hs i j h1 (by omega) h3
omit [Inhabited α] in
theorem pr_asymm {pr : α → α → Bool} (h : SWO pr) {x y : α} (hxy : pr x y = true) : pr y x = false := by
  cases e : pr y x with
  | false => rfl
  | true => have := h.trans _ _ _ hxy e; rw [h.irrefl] at this; cases this
theorem merge_one {pr : α → α → Bool} (h : SWO pr) {a b i : Nat} {d d' : Array α} (hr : SortedIn pr (a + 1) b d) (hi : a + 1 ≤ i) (hib : i ≤ b) (h1 : ∀ k, a + 1 ≤ k → k < i → pr d[k]! d[a]! = true) (h2 : ∀ k, i ≤ k → k < b → pr d[k]! d[a]! = false)
    (hd : ∀ k, d'[k]! = rotF (fun k => d[k]!) a (a + 1) i k) : SortedIn pr a b d' := by
  intro u v hu huv hv
  rw [hd u, hd v]
  unfold rotF
  by_cases cu : u < i - 1
  · rw [if_pos (by omega : a ≤ u ∧ u < a + (i - (a + 1)))]
    by_cases cv : v < i - 1
    · rw [if_pos (by omega)]; exact hr _ _ (by omega) (by omega) (by omega)
    · rw [if_neg (by omega)]
      by_cases cw : v < i
      · rw [if_pos (by omega)]
        have e : v - (i - (a + 1)) = a := by omega
        show pr d[v - (i - (a + 1))]! d[u - a + (a + 1)]! = false
        rw [e]
        exact pr_asymm h (h1 _ (by omega) (by omega))
      · rw [if_neg (by omega)]; exact hr _ _ (by omega) (by omega) (by omega)
  · rw [if_neg (by omega : ¬ (a ≤ u ∧ u < a + (i - (a + 1))))]
    by_cases cw : u < i
    · rw [if_neg (by omega), if_neg (by omega), if_pos (by omega)]
      have e : u - (i - (a + 1)) = a := by omega
      show pr d[v]! d[u - (i - (a + 1))]! = false
      rw [e]
      exact h2 _ (by omega) (by omega)
    · rw [if_neg (by omega), if_neg (by omega), if_neg (by omega)]; exact hr _ _ (by omega) (by omega) (by omega)
theorem merge_last {pr : α → α → Bool} (h : SWO pr) {a m i : Nat} {d d' : Array α} (hl : SortedIn pr a m d) (hi : a ≤ i) (him : i ≤ m) (h1 : ∀ k, a ≤ k → k < i → pr d[m]! d[k]! = false) (h2 : ∀ k, i ≤ k → k < m → pr d[m]! d[k]! = true)
    (hd : ∀ k, d'[k]! = rotF (fun k => d[k]!) i m (m + 1) k) : SortedIn pr a (m + 1) d' := by
  intro u v hu huv hv
  rw [hd u, hd v]
  unfold rotF
  by_cases cu : u < i
  · rw [if_neg (by omega : ¬ (i ≤ u ∧ u < i + (m + 1 - m)))]
    by_cases cv : v < i
    · rw [if_neg (by omega), if_neg (by omega), if_neg (by omega)]; exact hl _ _ (by omega) (by omega) (by omega)
    · by_cases cw : v = i
      · rw [if_pos (by omega), if_neg (by omega)]
        show pr d[v - i + m]! d[u]! = false
        rw [show v - i + m = m by omega]
        exact h1 _ (by omega) (by omega)
      · rw [if_neg (by omega), if_pos (by omega), if_neg (by omega)]; exact hl _ _ (by omega) (by omega) (by omega)
  · by_cases cw : u = i
    · rw [if_pos (by omega : i ≤ u ∧ u < i + (m + 1 - m)), if_neg (by omega), if_pos (by omega)]
      show pr d[v - (m + 1 - m)]! d[u - i + m]! = false
      rw [show u - i + m = m by omega]
      exact pr_asymm h (h2 _ (by omega) (by omega))
    · rw [if_neg (by omega), if_pos (by omega), if_neg (by omega), if_pos (by omega)]; exact hl _ _ (by omega) (by omega) (by omega)
/-- The place at which the two parts are split. -/
structure Split (pr : α → α → Bool) (a m b mid s : Nat) (d : Array α) : Prop where
  a_le : a ≤ s
  s_m : s ≤ m
  s_mid : s ≤ mid
  e_b : mid + m - s ≤ b
  low : ∀ i j, a ≤ i → i < s → mid + m - s ≤ j → j < b → pr d[j]! d[i]! = false
  high : ∀ i j, s ≤ i → i < m → m ≤ j → j < mid + m - s → pr d[j]! d[i]! = true
variable {lt pr : α → α → Bool} {a m b mid s : Nat} {d d1 d2 d3 : Array α}
theorem split_rot (hd : ∀ k, d1[k]! = rotF (fun k => d[k]!) s m (mid + m - s) k) (S : Split pr a m b mid s d) :
    (∀ k, k < s → d1[k]! = d[k]!) ∧ (∀ k, s ≤ k → k < mid → d1[k]! = d[k - s + m]!) ∧ (∀ k, mid ≤ k → k < mid + m - s → d1[k]! = d[k - (mid - s)]!) ∧ (∀ k, mid + m - s ≤ k → d1[k]! = d[k]!) := by
  have := S.s_m; have := S.s_mid
  refine ⟨fun k hk => ?_, fun k h1 h2 => ?_, fun k h1 h2 => ?_, fun k h1 => ?_⟩
  all_goals rw [hd k]; unfold rotF
  · rw [if_neg (by omega), if_neg (by omega)]
  · rw [if_pos (by omega)]
  · rw [if_neg (by omega), if_pos (by omega)]
    show d[k - (mid + m - s - m)]! = _
    rw [show mid + m - s - m = mid - s by omega]
  · rw [if_neg (by omega), if_neg (by omega)]
theorem split_first (P : MergePre lt pr a m b d) (S : Split pr a m b mid s d) (hd : ∀ k, d1[k]! = rotF (fun k => d[k]!) s m (mid + m - s) k) : MergePre lt pr a s mid d1 := by
  obtain ⟨r1, r2, r3, r4⟩ := split_rot hd S
  have := S.s_m; have := S.s_mid; have := S.e_b; have := S.a_le
  refine ⟨fun i j h1 h2 h3 => ?_, fun i j h1 h2 h3 => ?_, fun i j h1 h2 h3 h4 => ?_⟩
  · rw [r1 i (by omega), r1 j (by omega)]; exact P.left _ _ h1 h2 (by omega)
  · rw [r2 i (by omega) (by omega), r2 j (by omega) (by omega)]; exact P.right _ _ (by omega) (by omega) (by omega)
  · rw [r1 i (by omega), r2 j (by omega) (by omega)]; exact P.cross _ _ (by omega) (by omega) (by omega) (by omega)
theorem split_second (P : MergePre lt pr a m b d) (S : Split pr a m b mid s d) (hd : ∀ k, d1[k]! = rotF (fun k => d[k]!) s m (mid + m - s) k) (h2 : ∀ k, mid ≤ k → d2[k]! = d1[k]!) : MergePre lt pr mid (mid + m - s) b d2 := by
  obtain ⟨r1, r2, r3, r4⟩ := split_rot hd S
  have := S.s_m; have := S.s_mid; have := S.e_b; have := S.a_le
  refine ⟨fun i j g1 g2 g3 => ?_, fun i j g1 g2 g3 => ?_, fun i j g1 g2 g3 g4 => ?_⟩
  · rw [h2 i (by omega), h2 j (by omega), r3 i (by omega) (by omega), r3 j (by omega) (by omega)]; exact P.left _ _ (by omega) (by omega) (by omega)
  · rw [h2 i (by omega), h2 j (by omega), r4 i (by omega), r4 j (by omega)]; exact P.right _ _ (by omega) (by omega) (by omega)
  · rw [h2 i (by omega), h2 j (by omega), r3 i (by omega) (by omega), r4 j (by omega)]; exact P.cross _ _ (by omega) (by omega) (by omega) (by omega)
theorem split_cross (h : SWO pr) (P : MergePre lt pr a m b d) (S : Split pr a m b mid s d) (hd : ∀ k, d1[k]! = rotF (fun k => d[k]!) s m (mid + m - s) k) (u v : Nat) (hu : a ≤ u) (hum : u < mid) (hv : mid ≤ v) (hvb : v < b) : pr d1[v]! d1[u]! = false := by
  obtain ⟨r1, r2, r3, r4⟩ := split_rot hd S
  have := S.s_m; have := S.s_mid; have := S.e_b; have := S.a_le
  by_cases cu : u < s
  · rw [r1 u cu]
    by_cases cv : v < mid + m - s
    · rw [r3 v hv cv]; exact P.left _ _ hu (by omega) (by omega)
    · rw [r4 v (by omega)]; exact S.low _ _ hu cu (by omega) hvb
  · rw [r2 u (by omega) hum]
    by_cases cv : v < mid + m - s
    · rw [r3 v hv cv]; exact pr_asymm h (S.high _ _ (by omega) (by omega) (by omega) (by omega))
    · rw [r4 v (by omega)]; exact P.right _ _ (by omega) (by omega) hvb
theorem split_done (hsz : b ≤ d.size) (hmid : a ≤ mid) (hmb : mid ≤ b) (hp1 : PermIn a b d d1) (hc : ∀ u v, a ≤ u → u < mid → mid ≤ v → v < b → pr d1[v]! d1[u]! = false) (M1 : MergePost pr a mid d1 d2) (M2 : MergePost pr mid b d2 d3) : MergePost pr a b d d3 := by
  have s1 := hp1.1
  have s2 := M1.1.1
  have s3 := M2.1.1
  have p12 : PermIn a b d1 d2 := permIn_mono _ _ _ _ _ _ (Nat.le_refl _) hmb (by omega) M1.1
  have p23 : PermIn a b d2 d3 := permIn_mono _ _ _ _ _ _ hmid (Nat.le_refl _) (by omega) M2.1
  refine ⟨permIn_trans _ _ _ _ _ (permIn_trans _ _ _ _ _ hp1 p12) p23, fun i j h1 h2 h3 => ?_⟩
  by_cases cj : j < mid
  · rw [M2.1.2.1 i (.inl (by omega)), M2.1.2.1 j (.inl cj)]; exact M1.2 _ _ h1 h2 cj
  · by_cases ci : i < mid
    · rw [M2.1.2.1 i (.inl ci)]
      refine permIn_all d2 d3 mid b (fun x => pr x d2[i]! = false) (by omega) M2.1 (fun k hk1 hk2 => ?_) j (by omega) h3
      show pr d2[k]! d2[i]! = false
      rw [M1.1.2.1 k (.inr hk1)]
      exact permIn_all d1 d2 a mid (fun x => pr d1[k]! x = false) (by omega) M1.1 (fun q hq1 hq2 => hc q k hq1 hq2 hk1 hk2) i h1 ci
    · exact M2.2 _ _ (by omega) h2 h3
end Go.Proofs.YtdjkilgcgkhcdaaDoor
