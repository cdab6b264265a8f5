/-
  Maths of Huffman's lengths over a list of how often each symbol is there: they fill all there is, cost the least, and what follows.
-/
import Derived.Test.YtbkehlppngejnaaHufTr
namespace Go.Proofs.Ytbkehlppngejnaa.Hf
def S0 (f : List Nat) : List Nat := (List.range f.length).filter fun i => decide (0 < f.getD i 0)
def leaves (f : List Nat) : List T := (S0 f).map fun i => T.leaf i (f.getD i 0)
def sortT (l : List T) : List T := l.foldr ins []
def F0 (f : List Nat) : List T := sortT (leaves f)
/-- how many bits each symbol has, if nothing is halved -/
def once (f : List Nat) (i : Nat) : Nat := if (S0 f).length = 1 then (if i ∈ S0 f then 1 else 0) else dep (build (S0 f).length (F0 f)) i
theorem S0_mem {f : List Nat} {i : Nat} : i ∈ S0 f ↔ i < f.length ∧ 0 < f.getD i 0 := by
  unfold S0; simp
theorem S0_nodup (f : List Nat) : (S0 f).Nodup := List.Pairwise.filter _ List.nodup_range
theorem sortT_perm : ∀ l, (sortT l).Perm l
  | [] => .refl _
  | t :: l => (ins_perm t _).trans ((sortT_perm l).cons t)
theorem sortT_rise : ∀ l, Rise (sortT l)
  | [] => by unfold sortT Rise; simp
  | t :: l => ins_rise t _ (sortT_rise l)
theorem leaves_syms (f : List Nat) : syms (leaves f) = S0 f := by
  unfold leaves syms
  induction S0 f with
  | nil => rfl
  | cons i l ih => rw [List.map_cons, List.flatMap_cons, ih]; rfl
theorem F0_mem {f : List Nat} {t : T} : t ∈ F0 f ↔ ∃ i ∈ S0 f, t = T.leaf i (f.getD i 0) := by
  unfold F0; rw [(sortT_perm _).mem_iff]; unfold leaves; rw [List.mem_map]
  constructor <;> rintro ⟨i, h1, h2⟩ <;> exact ⟨i, h1, h2.symm⟩
theorem F0_length (f : List Nat) : (F0 f).length = (S0 f).length := by
  rw [show (F0 f).length = (leaves f).length from (sortT_perm _).length_eq]; unfold leaves; rw [List.length_map]
theorem F0_syms (f : List Nat) : (syms (F0 f)).Perm (S0 f) := by
  have := syms_perm (sortT_perm (leaves f)); rw [leaves_syms] at this; exact this
theorem F0_grove (f : List Nat) : Grove (fun i => f.getD i 0) (F0 f) := by
  refine ⟨sortT_rise _, ⟨fun x hx => ?_, fun x hx y _ => ?_⟩, fun t ht => ?_, (F0_syms f).nodup_iff.2 (S0_nodup f)⟩
  · obtain ⟨i, hi, rfl⟩ := F0_mem.1 hx; exact (S0_mem.1 hi).2
  · obtain ⟨i, _, rfl⟩ := F0_mem.1 hx; exact Nat.zero_le _
  · obtain ⟨i, _, rfl⟩ := F0_mem.1 ht; exact rfl
theorem F0_inner (f : List Nat) : sm T.inner (F0 f) = 0 := by
  have : sm T.inner (F0 f) = sm (fun _ => 0) (F0 f) := sm_congr fun t ht => by obtain ⟨i, _, rfl⟩ := F0_mem.1 ht; rfl
  rw [this, sm_const]; rfl
/-- if two symbols or more are there: the tree -/
theorem once_tree {f : List Nat} (h : 2 ≤ (S0 f).length) : ∃ t, build (S0 f).length (F0 f) = [t] ∧ t.syms.Perm (S0 f) ∧ t.syms.Nodup ∧ t.ok (fun i => f.getD i 0) ∧ t.fine ∧ ∀ i, once f i = t.dep i := by
  obtain ⟨t, ht⟩ := build_end (S0 f).length (F0 f) (fun e => by have := F0_length f; rw [e] at this; simp at this; omega) (by rw [F0_length]; omega)
  obtain ⟨g, hp⟩ := build_grove (S0 f).length (F0 f) (F0_grove f)
  rw [ht] at g hp
  have hs : syms [t] = t.syms := by simp [syms]
  have hn := g.nodup
  rw [hs] at hp hn
  refine ⟨t, ht, hp.trans (F0_syms f), hn, g.ok t (by simp), g.fine.1 t (by simp), fun i => ?_⟩
  unfold once
  rw [if_neg (by omega), ht]
  simp [dep, sm]
theorem once_none {f : List Nat} {i : Nat} (h : i ∉ S0 f) : once f i = 0 := by
  by_cases h1 : (S0 f).length = 1
  · unfold once; rw [if_pos h1, if_neg h]
  · by_cases h2 : 2 ≤ (S0 f).length
    · obtain ⟨t, _, hp, _, _, _, ho⟩ := once_tree h2
      rw [ho]; exact dep_none t i (fun k => h (hp.mem_iff.1 k))
    · have h0 : (S0 f).length = 0 := by omega
      have : F0 f = [] := List.length_eq_zero_iff.1 (by rw [F0_length]; exact h0)
      unfold once; rw [if_neg h1, this, build_nil]; rfl
theorem once_pos {f : List Nat} {i : Nat} (h : i ∈ S0 f) : 1 ≤ once f i := by
  by_cases h1 : (S0 f).length = 1
  · unfold once; rw [if_pos h1, if_pos h]; exact Nat.le_refl _
  · have h2 : 2 ≤ (S0 f).length := by have := List.length_pos_of_mem h; omega
    obtain ⟨t, _, hp, hn, _, _, ho⟩ := once_tree h2
    rw [ho]
    match t, hp, hn with
    | .leaf j w, hp, _ => have := hp.length_eq; simp [T.syms] at this; omega
    | .node a b, hp, hn =>
      have hi : i ∈ a.syms ++ b.syms := hp.mem_iff.2 h
      rcases List.mem_append.1 hi with k | k
      · rw [dep_left hn k]; omega
      · rw [dep_right hn k]; omega
/-- the codes fill all there is -/
theorem full {f : List Nat} (h : 2 ≤ (S0 f).length) {M : Nat} (hm : ∀ i ∈ S0 f, once f i ≤ M) : sm (fun i => 2 ^ (M - once f i)) (S0 f) = 2 ^ M := by
  obtain ⟨t, _, hp, hn, _, _, ho⟩ := once_tree h
  rw [← sm_perm _ hp, ← fills t M hn (fun i hi => by rw [← ho]; exact hm i (hp.mem_iff.1 hi))]
  exact sm_congr fun i _ => by rw [ho]
theorem full_one {f : List Nat} (h : (S0 f).length = 1) (M : Nat) : sm (fun i => 2 ^ (M - once f i)) (S0 f) = 2 ^ (M - 1) := by
  obtain ⟨j, hj⟩ := List.length_eq_one_iff.1 h
  unfold once
  rw [hj]
  simp [sm]
theorem full_le {f : List Nat} {M : Nat} (hm : ∀ i ∈ S0 f, once f i ≤ M) : sm (fun i => 2 ^ (M - once f i)) (S0 f) ≤ 2 ^ M := by
  by_cases h2 : 2 ≤ (S0 f).length
  · rw [full h2 hm]; exact Nat.le_refl _
  · by_cases h1 : (S0 f).length = 1
    · rw [full_one h1]; exact Nat.pow_le_pow_right (by decide) (by omega)
    · have : S0 f = [] := List.length_eq_zero_iff.1 (by omega)
      rw [this]; exact Nat.zero_le _
/-- no lengths cost less -/
theorem opt (f : List Nat) (g : Nat → Nat) (M : Nat) (hg : ∀ i ∈ S0 f, 1 ≤ g i ∧ g i ≤ M) (hk : sm (fun i => 2 ^ (M - g i)) (S0 f) ≤ 2 ^ M) :
    sm (fun i => f.getD i 0 * once f i) (S0 f) ≤ sm (fun i => f.getD i 0 * g i) (S0 f) := by
  by_cases h2 : 2 ≤ (S0 f).length
  · obtain ⟨t, ht, hp, hn, hok, _, ho⟩ := once_tree h2
    have e1 : sm (fun i => f.getD i 0 * once f i) (S0 f) = t.inner := by
      rw [inner_is t hok hn, ← sm_perm _ hp]
      exact sm_congr fun i _ => by rw [ho]
    have hl := least (S0 f).length (F0 f) (F0_grove f).rise ((S0 f).map fun i => (f.getD i 0, g i)) M (by
        have := ((sortT_perm (leaves f)).map T.w).symm
        refine List.Perm.trans (.of_eq ?_) this
        unfold leaves
        rw [List.map_map, List.map_map]; rfl) (fun p hp => by
        obtain ⟨i, hi, rfl⟩ := List.mem_map.1 hp; exact (hg i hi).2) (by unfold kr; rw [sm_map]; exact hk)
    rw [ht, F0_inner] at hl
    unfold cost at hl
    rw [sm_map] at hl
    rw [e1]
    simpa [sm] using hl
  · refine sm_le fun i hi => Nat.mul_le_mul_left _ ?_
    have h1 : (S0 f).length = 1 := by have := List.length_pos_of_mem hi; omega
    unfold once; rw [if_pos h1, if_pos hi]; exact (hg i hi).1
/-! ### what follows -/
theorem top_of (g : Nat → Nat) (S : List Nat) : ∀ i ∈ S, g i ≤ sm g S := fun _ hi => sm_mem hi
theorem pick_two {S : List Nat} {a b : Nat} (ha : a ∈ S) (hb : b ∈ S) (hab : a ≠ b) : ∃ S', S.Perm (a :: b :: S') := by
  have h1 := List.perm_cons_erase ha
  have hb' : b ∈ S.erase a := (List.mem_erase_of_ne (Ne.symm hab)).2 hb
  exact ⟨(S.erase a).erase b, h1.trans ((List.perm_cons_erase hb').cons a)⟩
/-- what is there more often has no longer code -/
theorem rare {f : List Nat} {a b : Nat} (ha : a ∈ S0 f) (hb : b ∈ S0 f) (h : f.getD b 0 < f.getD a 0) : once f a ≤ once f b := by
  refine Nat.le_of_not_lt fun hlt => ?_
  have hab : a ≠ b := fun e => by subst e; omega
  obtain ⟨S', hp⟩ := pick_two ha hb hab
  have h2 : 2 ≤ (S0 f).length := by rw [hp.length_eq]; simp
  obtain ⟨M, hM⟩ : ∃ M, M = sm (once f) (S0 f) := ⟨_, rfl⟩
  have hm : ∀ i ∈ S0 f, once f i ≤ M := fun i hi => by rw [hM]; exact sm_mem hi
  have hnd : (a :: b :: S').Nodup := hp.nodup_iff.1 (S0_nodup f)
  have na : ∀ i ∈ S', i ≠ a ∧ i ≠ b := fun i hi => by
    obtain ⟨q1, q2⟩ := List.nodup_cons.1 hnd
    obtain ⟨q3, _⟩ := List.nodup_cons.1 q2
    exact ⟨fun e => q1 (by rw [← e]; simp [hi]), fun e => q3 (by rw [← e]; exact hi)⟩
  have sw := opt f (fun i => if i = a then once f b else if i = b then once f a else once f i) M (fun i hi => by
      split
      · exact ⟨once_pos hb, hm b hb⟩
      · split
        · exact ⟨once_pos ha, hm a ha⟩
        · exact ⟨once_pos hi, hm i hi⟩) (by
      have hf := full h2 hm
      rw [sm_perm _ hp] at hf ⊢
      simp only [sm, if_true, if_neg (Ne.symm hab)] at hf ⊢
      rw [sm_congr (h := fun i => 2 ^ (M - once f i)) fun i hi => by rw [if_neg (na i hi).1, if_neg (na i hi).2]]
      omega)
  rw [sm_perm _ hp, sm_perm _ hp] at sw
  simp only [sm, if_true, if_neg (Ne.symm hab)] at sw
  rw [sm_congr (g := fun i => f.getD i 0 * (if i = a then once f b else if i = b then once f a else once f i)) (h := fun i => f.getD i 0 * once f i) fun i hi => by rw [if_neg (na i hi).1, if_neg (na i hi).2]] at sw
  obtain ⟨d, hd⟩ : ∃ d, f.getD a 0 = f.getD b 0 + (d + 1) := ⟨f.getD a 0 - f.getD b 0 - 1, by omega⟩
  obtain ⟨e, he⟩ : ∃ e, once f a = once f b + (e + 1) := ⟨once f a - once f b - 1, by omega⟩
  rw [hd, he] at sw
  simp only [Nat.mul_add, Nat.add_mul, Nat.mul_one, Nat.one_mul] at sw
  omega
theorem sm_eq {α : Type} {g h : α → Nat} {l : List α} (e : ∀ x ∈ l, g x ≤ h x) (hs : sm h l ≤ sm g l) : ∀ x ∈ l, g x = h x := by
  induction l with
  | nil => simp
  | cons y l ih =>
    simp only [sm] at hs
    have h1 := e y (by simp)
    have h2 : sm g l ≤ sm h l := sm_le fun x hx => e x (by simp [hx])
    intro x hx
    rcases List.mem_cons.1 hx with rfl | hx
    · omega
    · exact ih (fun x hx => e x (by simp [hx])) (by omega) x hx
theorem pow_more : ∀ m : Nat, m + 1 ≤ 2 ^ m ∧ (2 ≤ m → m + 1 < 2 ^ m)
  | 0 => by simp
  | 1 => by simp
  | m + 2 => by
    have := (pow_more (m + 1)).1
    rw [Nat.pow_succ]
    refine ⟨by omega, fun _ => by omega⟩
/-- as many symbols as a power of two, of lengths that fill all there is and are no more together than that many times the power: all of them are it -/
theorem all_same {S : List Nat} {d : Nat → Nat} {k M : Nat} (hk : k ≤ M) (hl : S.length = 2 ^ k) (hf : sm (fun i => 2 ^ (M - d i)) S = 2 ^ M) (hs : sm d S ≤ S.length * k) : ∀ i ∈ S, d i = k := by
  obtain ⟨q, hq⟩ : ∃ q, q = 2 ^ (M - k) := ⟨_, rfl⟩
  have hqp : 0 < q := by rw [hq]; exact Nat.two_pow_pos _
  have hqM : 2 ^ M = q * 2 ^ k := by rw [hq, ← Nat.pow_add]; congr 1; omega
  have item : ∀ i ∈ S, q * (k + 1) ≤ 2 ^ (M - d i) + q * d i ∧ (q * (k + 1) = 2 ^ (M - d i) + q * d i → d i ≤ k) := fun i hi => by
    by_cases hle : d i ≤ k
    · obtain ⟨m, hm⟩ : ∃ m, k = d i + m := ⟨k - d i, by omega⟩
      have e1 : 2 ^ (M - d i) = q * 2 ^ m := by rw [hq, ← Nat.pow_add]; congr 1; omega
      have := (pow_more m).1
      refine ⟨?_, fun _ => hle⟩
      rw [e1, ← Nat.mul_add]
      exact Nat.mul_le_mul_left _ (by omega)
    · have h1 : q * (k + 1) ≤ q * d i := Nat.mul_le_mul_left _ (by omega)
      have h2 : 0 < 2 ^ (M - d i) := Nat.two_pow_pos _
      exact ⟨by omega, fun e => by omega⟩
  have tot : sm (fun i => 2 ^ (M - d i) + q * d i) S ≤ sm (fun _ => q * (k + 1)) S := by
    rw [sm_add, sm_mul, hf, sm_const, hqM, hl]
    have h1 : q * sm d S ≤ q * (2 ^ k * k) := Nat.mul_le_mul_left _ (by rw [← hl]; exact hs)
    have h2 : 2 ^ k * (q * (k + 1)) = q * 2 ^ k + q * (2 ^ k * k) := by
      rw [Nat.mul_left_comm, Nat.mul_add, Nat.mul_one, Nat.mul_add]; omega
    omega
  have each := sm_eq (fun i hi => (item i hi).1) tot
  have hle : ∀ i ∈ S, d i ≤ k := fun i hi => (item i hi).2 (each i hi)
  refine sm_eq hle ?_
  have e2 : q * sm d S + q * 2 ^ k = q * (2 ^ k * k) + q * 2 ^ k := by
    have h1 := sm_congr each
    rw [sm_const, sm_add, sm_mul, hf, hqM, hl] at h1
    have h2 : 2 ^ k * (q * (k + 1)) = q * 2 ^ k + q * (2 ^ k * k) := by
      rw [Nat.mul_left_comm, Nat.mul_add, Nat.mul_one, Nat.mul_add]; omega
    omega
  rw [sm_const, hl]
  have e3 : q * sm d S = q * (2 ^ k * k) := by omega
  exact Nat.le_of_eq (Nat.eq_of_mul_eq_mul_left hqp e3).symm
/-- symbols that are all there as often, and are a power of two many -/
theorem even (c k : Nat) (hc : 1 ≤ c) (hk : 1 ≤ k) : ∀ i, i < 2 ^ k → once (List.replicate (2 ^ k) c) i = k := by
  have hS : S0 (List.replicate (2 ^ k) c) = List.range (2 ^ k) := by
    unfold S0
    rw [List.length_replicate, List.filter_eq_self.2]
    intro i hi
    have := List.mem_range.1 hi
    simp [this]; omega
  have hlen : (S0 (List.replicate (2 ^ k) c)).length = 2 ^ k := by rw [hS, List.length_range]
  have h2 : 2 ≤ (S0 (List.replicate (2 ^ k) c)).length := by
    rw [hlen]; exact Nat.le_trans (by decide : 2 ≤ 2 ^ 1) (Nat.pow_le_pow_right (by decide) hk)
  have hget : ∀ i ∈ S0 (List.replicate (2 ^ k) c), (List.replicate (2 ^ k) c).getD i 0 = c := fun i hi => by
    rw [hS] at hi; have := List.mem_range.1 hi; simp [this]
  obtain ⟨M, hM⟩ : ∃ M, M = sm (once (List.replicate (2 ^ k) c)) (S0 (List.replicate (2 ^ k) c)) + k := ⟨_, rfl⟩
  have hm : ∀ i ∈ S0 (List.replicate (2 ^ k) c), once (List.replicate (2 ^ k) c) i ≤ M := fun i hi => by
    have := sm_mem (g := once (List.replicate (2 ^ k) c)) hi; omega
  have ho := opt (List.replicate (2 ^ k) c) (fun _ => k) M (fun i _ => ⟨hk, by omega⟩) (by
    rw [sm_const, hlen, ← Nat.pow_add, show k + (M - k) = M by omega]; exact Nat.le_refl _)
  rw [sm_congr (h := fun i => c * once (List.replicate (2 ^ k) c) i) (fun i hi => by rw [hget i hi]), sm_congr (g := fun i => (List.replicate (2 ^ k) c).getD i 0 * k) (h := fun _ => c * k) (fun i hi => by rw [hget i hi]), sm_mul, sm_const] at ho
  have hs : sm (once (List.replicate (2 ^ k) c)) (S0 (List.replicate (2 ^ k) c)) ≤ (S0 (List.replicate (2 ^ k) c)).length * k := by
    refine Nat.le_of_mul_le_mul_left ?_ (show 0 < c by omega)
    rw [Nat.mul_left_comm c] ; exact ho
  intro i hi
  exact all_same (by omega) hlen (full h2 hm) hs i (by rw [hS]; exact List.mem_range.2 hi)
theorem sm_filter {p : Nat → Bool} {g : Nat → Nat} : ∀ (l : List Nat), sm g (l.filter p) ≤ sm g l
  | [] => Nat.le_refl _
  | x :: l => by
    have := sm_filter (p := p) (g := g) l
    rw [List.filter_cons]
    split <;> simp only [sm] <;> omega
/-- if symbols are there more often, the codes together do not cost less -/
theorem steps {f g : List Nat} (hl : f.length = g.length) (h : ∀ i, f.getD i 0 ≤ g.getD i 0) : sm (fun i => f.getD i 0 * once f i) (S0 f) ≤ sm (fun i => g.getD i 0 * once g i) (S0 g) := by
  have hS : S0 f = (S0 g).filter fun i => decide (0 < f.getD i 0) := by
    unfold S0
    rw [List.filter_filter, hl]
    refine List.filter_congr fun i _ => ?_
    have := h i
    by_cases hf : 0 < f.getD i 0
    · have hg : 0 < g.getD i 0 := by omega
      simp only [decide_eq_true hf, decide_eq_true hg, Bool.and_self]
    · simp only [decide_eq_false hf, Bool.false_and]
  have sub : ∀ i ∈ S0 f, i ∈ S0 g := fun i hi => by rw [hS] at hi; exact (List.mem_filter.1 hi).1
  obtain ⟨M, hM⟩ : ∃ M, M = sm (once g) (S0 g) := ⟨_, rfl⟩
  have hm : ∀ i ∈ S0 g, once g i ≤ M := fun i hi => by rw [hM]; exact sm_mem hi
  have ho := opt f (once g) M (fun i hi => ⟨once_pos (sub i hi), hm i (sub i hi)⟩) (by
    refine Nat.le_trans ?_ (full_le hm)
    rw [hS]; exact sm_filter _)
  refine Nat.le_trans ho (Nat.le_trans (sm_le (h := fun i => g.getD i 0 * once g i) fun i _ => Nat.mul_le_mul_right _ (h i)) ?_)
  rw [hS]; exact sm_filter _
/-- what is not there changes nothing -/
theorem more (f : List Nat) : once (f ++ [0]) = once f := by
  have hg : ∀ i, (f ++ [0]).getD i 0 = f.getD i 0 := fun i => by
    rw [List.getD_eq_getElem?_getD, List.getD_eq_getElem?_getD]
    by_cases h : i < f.length
    · rw [List.getElem?_append_left h]
    · rw [List.getElem?_append_right (by omega), List.getElem?_eq_none (by omega : f.length ≤ i)]
      cases h2 : i - f.length with
      | zero => rfl
      | succ n => rfl
  have hS : S0 (f ++ [0]) = S0 f := by
    unfold S0
    rw [List.length_append, List.length_singleton, List.range_succ, List.filter_append]
    rw [List.filter_congr (q := fun i => decide (0 < f.getD i 0)) (fun i _ => by rw [hg])]
    simp
  funext i
  unfold once F0 leaves
  simp only [hS, hg]
/-! ### halves -/
def half (f : List Nat) : List Nat := f.map fun x => (x + 1) / 2
theorem half_get (f : List Nat) (i : Nat) : (half f).getD i 0 = (f.getD i 0 + 1) / 2 := by
  unfold half
  rw [List.getD_eq_getElem?_getD, List.getD_eq_getElem?_getD, List.getElem?_map]
  cases f[i]? <;> rfl
theorem half_length (f : List Nat) : (half f).length = f.length := by unfold half; rw [List.length_map]
theorem half_S0 (f : List Nat) : S0 (half f) = S0 f := by
  unfold S0
  rw [half_length]
  refine List.filter_congr fun i _ => ?_
  rw [half_get]
  by_cases h : 0 < f.getD i 0
  · rw [decide_eq_true h, decide_eq_true (by omega)]
  · rw [decide_eq_false h, decide_eq_false (by omega)]
def deep (f : List Nat) : Bool := (List.range f.length).any fun i => decide (15 < once f i)
def tot (f : List Nat) : Nat := sm (fun i => f.getD i 0) (S0 f)
theorem deep_tot {f : List Nat} (h : deep f = true) : 2584 ≤ tot f := by
  unfold deep at h
  obtain ⟨i, _, hi⟩ := List.any_eq_true.1 h
  have hi : 15 < once f i := of_decide_eq_true hi
  have h2 : 2 ≤ (S0 f).length := by
    by_cases h1 : (S0 f).length = 1
    · unfold once at hi; rw [if_pos h1] at hi; split at hi <;> omega
    · by_cases h0 : (S0 f).length = 0
      · have : i ∉ S0 f := by rw [List.length_eq_zero_iff.1 h0]; simp
        rw [once_none this] at hi; omega
      · omega
  obtain ⟨t, _, hp, hn, hok, hfi, ho⟩ := once_tree h2
  have e1 : tot f = t.w := by unfold tot; rw [weight_is t hok, sm_perm _ hp]
  have e2 := dep_h t hn i
  rw [← ho] at e2
  have e3 := (fine_fb t hfi).1
  have e4 := fb_mono (show 16 ≤ t.h by omega)
  have e5 : fb 16 = 2584 := by decide
  omega
theorem deep_half {f : List Nat} (hl : f.length ≤ 300) (h : deep f = true) : tot (half f) < tot f := by
  have h1 := deep_tot h
  refine Nat.lt_of_not_le fun hle => ?_
  unfold tot at hle
  rw [half_S0] at hle
  have each := sm_eq (g := fun i => (half f).getD i 0) (h := fun i => f.getD i 0) (l := S0 f) (fun i hi => by
    have := (S0_mem.1 hi).2
    rw [half_get]; omega) hle
  have : tot f ≤ sm (fun _ => 1) (S0 f) := sm_le fun i hi => by
    have e := each i hi
    simp only [half_get] at e
    omega
  rw [sm_const] at this
  have h3 : (S0 f).length ≤ f.length := by
    unfold S0; refine Nat.le_trans (List.length_filter_le _ _) ?_; rw [List.length_range]; exact Nat.le_refl _
  omega
def fin : Nat → List Nat → List Nat
  | 0, f => f
  | k + 1, f => if deep f then fin k (half f) else f
/-- how often each symbol counts, when no code is too long any more -/
def lastF (f : List Nat) : List Nat := fin (tot f) f
theorem fin_more : ∀ (k : Nat) (f : List Nat), f.length ≤ 300 → tot f ≤ k → fin k f = fin (tot f) f ∧ deep (fin k f) = false
  | 0, f, _, hk => by
    have h0 : tot f = 0 := by omega
    refine ⟨by rw [h0], ?_⟩
    cases hd : deep f with
    | false => exact hd
    | true => have := deep_tot hd; omega
  | k + 1, f, hl, hk => by
    cases hd : deep f with
    | false =>
      have e : ∀ j, fin j f = f := fun j => by cases j with
        | zero => rfl
        | succ j => show (if deep f then _ else f) = f; rw [hd]; rfl
      rw [e, e]; exact ⟨rfl, hd⟩
    | true =>
      have h1 := deep_half hl hd
      have h2 := deep_tot hd
      obtain ⟨j, hj⟩ : ∃ j, tot f = j + 1 := ⟨tot f - 1, by omega⟩
      obtain ⟨a1, a2⟩ := fin_more k (half f) (by rw [half_length]; exact hl) (by omega)
      have e1 : fin (k + 1) f = fin k (half f) := by show (if deep f then _ else f) = _; rw [hd]; rfl
      have e2 : fin (j + 1) f = fin j (half f) := by show (if deep f then _ else f) = _; rw [hd]; rfl
      have hb : j ≤ k := by omega
      have e3 : fin j (half f) = fin (tot (half f)) (half f) := by
        clear e1 e2 a1 a2
        exact (fin_more j (half f) (by rw [half_length]; exact hl) (by omega)).1
      rw [e1, hj, e2, e3]
      exact ⟨a1, a2⟩
  termination_by k => k
  decreasing_by all_goals omega
theorem last_step {f : List Nat} (hl : f.length ≤ 300) (h : deep f = true) : lastF f = lastF (half f) := by
  have h1 := deep_half hl h
  have h2 := deep_tot h
  obtain ⟨j, hj⟩ : ∃ j, tot f = j + 1 := ⟨tot f - 1, by omega⟩
  unfold lastF
  rw [hj]
  show (if deep f then _ else f) = _
  rw [h]
  exact (fin_more j (half f) (by rw [half_length]; exact hl) (by omega)).1
theorem last_same {f : List Nat} (h : deep f = false) : lastF f = f := by
  unfold lastF
  cases tot f with
  | zero => rfl
  | succ j => show (if deep f then _ else f) = f; rw [h]; rfl
theorem last_not {f : List Nat} (hl : f.length ≤ 300) : deep (lastF f) = false := (fin_more (tot f) f hl (Nat.le_refl _)).2
theorem fin_keeps : ∀ (k : Nat) (f : List Nat), (fin k f).length = f.length ∧ S0 (fin k f) = S0 f
  | 0, f => ⟨rfl, rfl⟩
  | k + 1, f => by
    unfold fin
    split
    · obtain ⟨h1, h2⟩ := fin_keeps k (half f)
      exact ⟨h1.trans (half_length f), h2.trans (half_S0 f)⟩
    · exact ⟨rfl, rfl⟩
theorem last_length (f : List Nat) : (lastF f).length = f.length := (fin_keeps _ f).1
theorem last_S0 (f : List Nat) : S0 (lastF f) = S0 f := (fin_keeps _ f).2
theorem not_deep {f : List Nat} (h : deep f = false) (i : Nat) : once f i ≤ 15 := by
  by_cases hi : i < f.length
  · unfold deep at h
    have := List.any_eq_false.1 h i (List.mem_range.2 hi)
    simp at this
    exact this
  · rw [once_none fun k => hi (S0_mem.1 k).1]; omega
/-- how many bits each symbol's code has -/
def lens (f : List Nat) : List Nat := (List.range f.length).map (once (lastF f))
end Go.Proofs.Ytbkehlppngejnaa.Hf
