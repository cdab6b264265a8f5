/-
  Maths of Huffman's trees: what is built by putting the two least together costs no more than any lengths whose sum is not more than there is. No condition.
-/
import Derived.Test.YthehjhckcblbdaaRows
namespace Go.Proofs.Ythehjhckcblbdaa.Hf
set_option maxRecDepth 100000
/-! ### sums over lists -/
def sm {α : Type} (g : α → Nat) : List α → Nat
  | [] => 0
  | x :: l => g x + sm g l
section
variable {α β : Type}
theorem sm_append (g : α → Nat) (l r : List α) : sm g (l ++ r) = sm g l + sm g r := by
  induction l with
  | nil => simp [sm]
  | cons x l ih => simp only [List.cons_append, sm, ih]; omega
theorem sm_perm (g : α → Nat) {l r : List α} (h : l.Perm r) : sm g l = sm g r := by
  induction h with
  | nil => rfl
  | cons x _ ih => simp only [sm, ih]
  | swap x y l => simp only [sm]; omega
  | trans _ _ h1 h2 => exact h1.trans h2
theorem sm_map (g : β → Nat) (h : α → β) (l : List α) : sm g (l.map h) = sm (fun x => g (h x)) l := by
  induction l with
  | nil => rfl
  | cons x l ih => simp only [List.map_cons, sm, ih]
theorem sm_congr {g h : α → Nat} {l : List α} (e : ∀ x ∈ l, g x = h x) : sm g l = sm h l := by
  induction l with
  | nil => rfl
  | cons x l ih => simp only [sm]; rw [e x (by simp), ih fun y hy => e y (by simp [hy])]
theorem sm_le {g h : α → Nat} {l : List α} (e : ∀ x ∈ l, g x ≤ h x) : sm g l ≤ sm h l := by
  induction l with
  | nil => exact Nat.le_refl _
  | cons x l ih => simp only [sm]; have := e x (by simp); have := ih fun y hy => e y (by simp [hy]); omega
theorem sm_add (g h : α → Nat) (l : List α) : sm (fun x => g x + h x) l = sm g l + sm h l := by
  induction l with
  | nil => rfl
  | cons x l ih => simp only [sm, ih]; omega
theorem sm_mul (c : Nat) (g : α → Nat) (l : List α) : sm (fun x => c * g x) l = c * sm g l := by
  induction l with
  | nil => rfl
  | cons x l ih => simp only [sm, ih, Nat.mul_add]
theorem sm_const (c : Nat) (l : List α) : sm (fun _ => c) l = l.length * c := by
  induction l with
  | nil => simp [sm]
  | cons x l ih => simp only [sm, ih, List.length_cons, Nat.add_mul]; omega
theorem sm_mem {g : α → Nat} {l : List α} {x : α} (h : x ∈ l) : g x ≤ sm g l := by
  induction l with
  | nil => simp at h
  | cons y l ih =>
    simp only [sm]
    rcases List.mem_cons.1 h with rfl | h
    · omega
    · have := ih h; omega
/-- a list that is, sorted otherwise and mapped, another one -/
theorem perm_pick [DecidableEq α] (h : α → β) : ∀ (r : List β) (l : List α), (l.map h).Perm r → ∃ l' : List α, l'.Perm l ∧ l'.map h = r
  | [], l, hp => by
    have := hp.length_eq
    simp at this
    subst this
    exact ⟨[], .refl _, rfl⟩
  | y :: r, l, hp => by
    have hy : y ∈ l.map h := hp.mem_iff.2 (by simp)
    obtain ⟨x, hx, rfl⟩ := List.mem_map.1 hy
    have h1 : l.Perm (x :: l.erase x) := List.perm_cons_erase hx
    have h2 : ((l.erase x).map h).Perm r := List.Perm.cons_inv ((h1.map h).symm.trans hp)
    obtain ⟨l', h3, h4⟩ := perm_pick h r (l.erase x) h2
    exact ⟨x :: l', (h3.cons x).trans h1.symm, by rw [List.map_cons, h4]⟩
end
/-! ### lengths of codes: what they cost, and their sum -/
def cost (l : List (Nat × Nat)) : Nat := sm (fun p => p.1 * p.2) l
def kr (M : Nat) (l : List (Nat × Nat)) : Nat := sm (fun p => 2 ^ (M - p.2)) l
theorem swap_le {a w x y : Nat} (h : a ≤ w) (hx : x ≤ y) : a * y + w * x ≤ a * x + w * y := by
  obtain ⟨d, rfl⟩ : ∃ d, w = a + d := ⟨w - a, by omega⟩
  obtain ⟨e, rfl⟩ : ∃ e, y = x + e := ⟨y - x, by omega⟩
  simp only [Nat.mul_add, Nat.add_mul]
  omega
/-- the two least weights may have the two greatest lengths -/
theorem sift (a b : Nat) (hab : a ≤ b) : ∀ (rest : List (Nat × Nat)) (la lb : Nat), (∀ p ∈ rest, b ≤ p.1) →
    ∃ (la' lb' : Nat) (rest' : List (Nat × Nat)), rest'.map Prod.fst = rest.map Prod.fst ∧ lb' ≤ la' ∧ (∀ p ∈ rest', p.2 ≤ lb') ∧
      a * la' + b * lb' + cost rest' ≤ a * la + b * lb + cost rest ∧ (la' :: lb' :: rest'.map Prod.snd).Perm (la :: lb :: rest.map Prod.snd)
  | [], la, lb, _ => by
    by_cases h : lb ≤ la
    · exact ⟨la, lb, [], rfl, h, by simp, Nat.le_refl _, .refl _⟩
    · refine ⟨lb, la, [], rfl, by omega, by simp, ?_, .swap _ _ _⟩
      have := swap_le hab (show la ≤ lb by omega)
      omega
  | (w, l) :: rest, la, lb, hr => by
    obtain ⟨x, y, r, h1, h2, h3, h4, h5⟩ := sift a b hab rest la lb (fun p hp => hr p (by simp [hp]))
    have hw : b ≤ w := hr (w, l) (by simp)
    have perm0 : (x :: y :: l :: r.map Prod.snd).Perm (la :: lb :: l :: rest.map Prod.snd) := by
      have e1 : (x :: y :: l :: r.map Prod.snd).Perm (l :: x :: y :: r.map Prod.snd) := ((List.Perm.swap l y _).cons x).trans (List.Perm.swap l x _)
      have e2 : (la :: lb :: l :: rest.map Prod.snd).Perm (l :: la :: lb :: rest.map Prod.snd) := ((List.Perm.swap l lb _).cons la).trans (List.Perm.swap l la _)
      exact e1.trans ((h5.cons l).trans e2.symm)
    have hc : ∀ (q : List (Nat × Nat)) (u v : Nat), cost ((u, v) :: q) = u * v + cost q := fun q u v => rfl
    by_cases k1 : l ≤ y
    · refine ⟨x, y, (w, l) :: r, by simp [h1], h2, ?_, ?_, perm0⟩
      · intro p hp
        rcases List.mem_cons.1 hp with rfl | hp
        · exact k1
        · exact h3 p hp
      · rw [hc, hc]; omega
    · by_cases k2 : l ≤ x
      · refine ⟨x, l, (w, y) :: r, by simp [h1], k2, ?_, ?_, ?_⟩
        · intro p hp
          rcases List.mem_cons.1 hp with rfl | hp
          · simp; omega
          · have := h3 p hp; omega
        · rw [hc, hc]
          have := swap_le hw (show y ≤ l by omega)
          omega
        · exact ((List.Perm.swap y l _).cons x).trans perm0
      · refine ⟨l, x, (w, y) :: r, by simp [h1], by omega, ?_, ?_, ?_⟩
        · intro p hp
          rcases List.mem_cons.1 hp with rfl | hp
          · exact h2
          · have := h3 p hp; omega
        · rw [hc, hc]
          have e1 := swap_le (show a ≤ w by omega) (show x ≤ l by omega)
          have e2 := swap_le hw (show y ≤ x from h2)
          omega
        · have e1 : (l :: x :: y :: r.map Prod.snd).Perm (x :: y :: l :: r.map Prod.snd) := ((List.Perm.swap x l _)).trans ((List.Perm.swap y l _).cons x)
          exact e1.trans perm0
theorem kr_lens (M : Nat) (l : List (Nat × Nat)) : kr M l = sm (fun n => 2 ^ (M - n)) (l.map Prod.snd) := by
  unfold kr; rw [sm_map]
theorem kr_dvd {M b : Nat} (hb : b ≤ M) : ∀ (l : List (Nat × Nat)), (∀ p ∈ l, p.2 ≤ b) → ∃ o, kr M l = 2 ^ (M - b) * o
  | [], _ => ⟨0, rfl⟩
  | p :: l, h => by
    obtain ⟨o, ho⟩ := kr_dvd hb l fun q hq => h q (by simp [hq])
    have hp := h p (by simp)
    refine ⟨2 ^ (b - p.2) + o, ?_⟩
    show 2 ^ (M - p.2) + kr M l = _
    rw [ho, Nat.mul_add, ← Nat.pow_add, show M - b + (b - p.2) = M - p.2 by omega]
/-- the two greatest lengths may be put together to one that is shorter by one -/
theorem together {M la lb : Nat} {rest : List (Nat × Nat)} (h1 : lb ≤ la) (h2 : la ≤ M) (h3 : ∀ p ∈ rest, p.2 ≤ lb) (h : 2 ^ (M - la) + (2 ^ (M - lb) + kr M rest) ≤ 2 ^ M) :
    1 ≤ lb ∧ 2 ^ (M - (lb - 1)) + kr M rest ≤ 2 ^ M := by
  obtain ⟨o, ho⟩ := kr_dvd (by omega : lb ≤ M) rest h3
  have hp : 0 < 2 ^ (M - la) := Nat.two_pow_pos _
  have hlb : 1 ≤ lb := by
    refine Nat.one_le_iff_ne_zero.2 fun e => ?_
    subst e
    rw [Nat.sub_zero] at h
    omega
  refine ⟨hlb, ?_⟩
  have e1 : 2 ^ M = 2 ^ (M - lb) * 2 ^ lb := by rw [← Nat.pow_add]; congr 1; omega
  have e2 : 2 ^ (M - (lb - 1)) = 2 ^ (M - lb) * 2 := by rw [← Nat.pow_succ]; congr 1; omega
  rw [ho] at h ⊢
  rw [e1] at h ⊢
  rw [e2, ← Nat.mul_add]
  refine Nat.mul_le_mul_left _ ?_
  have h5 : 2 ^ (M - lb) * (1 + o) < 2 ^ (M - lb) * 2 ^ lb := by rw [Nat.mul_add, Nat.mul_one]; omega
  have := Nat.lt_of_mul_lt_mul_left h5
  omega
/-! ### trees -/
inductive T where
  | leaf (i w : Nat)
  | node (a b : T)

def T.w : T → Nat
  | .leaf _ w => w
  | .node a b => a.w + b.w
def T.n : T → Nat
  | .leaf i _ => i
  | .node a b => min a.n b.n
def T.inner : T → Nat
  | .leaf _ _ => 0
  | .node a b => a.inner + b.inner + (a.w + b.w)
/-- which of two trees is taken first -/
def T.lt (x y : T) : Prop := x.w < y.w ∨ x.w = y.w ∧ x.n < y.n
instance (x y : T) : Decidable (T.lt x y) := by unfold T.lt; infer_instance
def ins (t : T) : List T → List T
  | [] => [t]
  | x :: l => if T.lt t x then t :: x :: l else x :: ins t l
theorem ins_perm (t : T) : ∀ l, (ins t l).Perm (t :: l)
  | [] => .refl _
  | x :: l => by
    unfold ins
    split
    · exact .refl _
    · exact ((ins_perm t l).cons x).trans (.swap _ _ _)
def stepT : List T → List T
  | a :: b :: r => ins (.node a b) r
  | l => l
def build : Nat → List T → List T
  | 0, l => l
  | k + 1, l => build k (stepT l)
theorem build_one (k : Nat) (t : T) : build k [t] = [t] := by
  induction k with
  | zero => rfl
  | succ k ih => exact ih
theorem build_nil (k : Nat) : build k [] = [] := by
  induction k with
  | zero => rfl
  | succ k ih => exact ih
theorem ins_length (t : T) (l : List T) : (ins t l).length = l.length + 1 := by have := (ins_perm t l).length_eq; simpa using this
/-- sorted by weights -/
def Rise (l : List T) : Prop := l.Pairwise fun x y => x.w ≤ y.w
theorem ins_rise (t : T) : ∀ l, Rise l → Rise (ins t l)
  | [], _ => by unfold ins Rise; simp
  | x :: l, h => by
    obtain ⟨h1, h2⟩ := List.pairwise_cons.1 h
    unfold ins
    split
    · rename_i hlt
      have htx : t.w ≤ x.w := by rcases hlt with k | k <;> omega
      refine List.pairwise_cons.2 ⟨fun y hy => ?_, h⟩
      rcases List.mem_cons.1 hy with rfl | hy
      · exact htx
      · have := h1 y hy; omega
    · rename_i hlt
      have htx : x.w ≤ t.w := by unfold T.lt at hlt; omega
      refine List.pairwise_cons.2 ⟨fun y hy => ?_, ins_rise t l h2⟩
      rcases List.mem_cons.1 ((ins_perm t l).mem_iff.1 hy) with rfl | hy
      · exact htx
      · exact h1 y hy
theorem step_rise {l : List T} (h : Rise l) : Rise (stepT l) := by
  unfold stepT
  split
  · exact ins_rise _ _ (List.pairwise_cons.1 (List.pairwise_cons.1 h).2).2
  · exact h
/-- no lengths cost less -/
theorem least : ∀ (k : Nat) (F : List T), Rise F → ∀ (L : List (Nat × Nat)) (M : Nat), (L.map Prod.fst).Perm (F.map T.w) → (∀ p ∈ L, p.2 ≤ M) → kr M L ≤ 2 ^ M →
    sm T.inner (build k F) ≤ cost L + sm T.inner F
  | 0, F, _, L, M, _, _, _ => by unfold build; omega
  | k + 1, [], _, L, M, _, _, _ => by rw [build_nil]; simp [sm]
  | k + 1, [t], _, L, M, _, _, _ => by rw [build_one]; omega
  | k + 1, a :: b :: r, hs, L, M, hp, hm, hk => by
    obtain ⟨h1, h2⟩ := List.pairwise_cons.1 hs
    obtain ⟨h3, h4⟩ := List.pairwise_cons.1 h2
    obtain ⟨L1, hL1, hL2⟩ := perm_pick Prod.fst _ L hp
    obtain ⟨la, lb, rest, rfl, hrest⟩ : ∃ la lb rest, L1 = (a.w, la) :: (b.w, lb) :: rest ∧ rest.map Prod.fst = r.map T.w := by
      match L1, hL2 with
      | [], h => simp at h
      | [_], h => simp at h
      | (p1, p2) :: (q1, q2) :: rest, h =>
        simp only [List.map_cons, List.cons.injEq] at h
        obtain ⟨rfl, rfl, h⟩ := h
        exact ⟨p2, q2, rest, rfl, h⟩
    have hbr : ∀ p ∈ rest, b.w ≤ p.1 := fun p hp => by
      have : p.1 ∈ r.map T.w := by rw [← hrest]; exact List.mem_map.2 ⟨p, hp, rfl⟩
      obtain ⟨x, hx, e⟩ := List.mem_map.1 this
      rw [← e]; exact h3 x hx
    obtain ⟨x, y, rest', e1, e2, e3, e4, e5⟩ := sift a.w b.w (h1 b (by simp)) rest la lb hbr
    have hcost : cost L = a.w * la + b.w * lb + cost rest := by
      unfold cost; rw [← sm_perm _ hL1]; simp only [sm]; omega
    have hmx : ∀ n ∈ x :: y :: rest'.map Prod.snd, n ≤ M := fun n hn => by
      have hn2 := e5.mem_iff.1 hn
      have : n ∈ (((a.w, la) :: (b.w, lb) :: rest).map Prod.snd) := hn2
      obtain ⟨p, hp, rfl⟩ := List.mem_map.1 this
      exact hm p (hL1.mem_iff.1 hp)
    have hkr : 2 ^ (M - x) + (2 ^ (M - y) + kr M rest') ≤ 2 ^ M := by
      have q1 : kr M L = sm (fun n => 2 ^ (M - n)) (la :: lb :: rest.map Prod.snd) := by
        unfold kr; rw [← sm_perm _ hL1, ← kr, kr_lens]; rfl
      rw [q1, ← sm_perm _ e5] at hk
      simp only [sm] at hk
      rw [kr_lens]; exact hk
    obtain ⟨y1, hk2⟩ := together e2 (hmx x (by simp)) e3 hkr
    have ih := least k (ins (.node a b) r) (ins_rise _ _ h4) ((a.w + b.w, y - 1) :: rest') M (by
        rw [List.map_cons, e1, hrest]
        exact ((ins_perm (.node a b) r).map T.w).symm) (fun p hp => by
        rcases List.mem_cons.1 hp with rfl | hp
        · have := hmx y (by simp); simp; omega
        · exact hmx p.2 (by simp; exact .inr (.inr ⟨p.1, hp⟩))) (by
        show 2 ^ (M - (y - 1)) + kr M rest' ≤ _
        exact hk2)
    have hin : sm T.inner (ins (.node a b) r) = sm T.inner (a :: b :: r) + (a.w + b.w) := by
      rw [sm_perm _ (ins_perm _ _)]; simp only [sm, T.inner]; omega
    have hc2 : cost ((a.w + b.w, y - 1) :: rest') + (a.w + b.w) ≤ a.w * x + b.w * y + cost rest' := by
      show (a.w + b.w) * (y - 1) + cost rest' + (a.w + b.w) ≤ _
      have e6 : (a.w + b.w) * (y - 1) + (a.w + b.w) = (a.w + b.w) * y := by
        rw [← Nat.mul_succ]; congr 1; omega
      have e7 : a.w * y ≤ a.w * x := Nat.mul_le_mul_left _ e2
      have e8 : (a.w + b.w) * y = a.w * y + b.w * y := Nat.add_mul _ _ _
      omega
    show sm T.inner (build k (ins (.node a b) r)) ≤ _
    omega
end Go.Proofs.Ythehjhckcblbdaa.Hf
/-
  Maths of Huffman's trees, further: how deep symbols are, what fills all there is, what is the least, and how deep a tree can be.
-/
namespace Go.Proofs.Ythehjhckcblbdaa.Hf
set_option maxRecDepth 100000
/-! ### symbols of a tree -/
def T.syms : T → List Nat
  | .leaf i _ => [i]
  | .node a b => a.syms ++ b.syms
/-- how often a symbol was put together -/
def T.dep : T → Nat → Nat
  | .leaf _ _, _ => 0
  | .node a b, i => a.dep i + b.dep i + (if i ∈ a.syms ++ b.syms then 1 else 0)
def T.ok (f : Nat → Nat) : T → Prop
  | .leaf i w => w = f i
  | .node a b => a.ok f ∧ b.ok f
theorem dep_none : ∀ (t : T) (i : Nat), i ∉ t.syms → t.dep i = 0
  | .leaf _ _, _, _ => rfl
  | .node a b, i, h => by
    have h1 : i ∉ a.syms := fun k => h (by simp [T.syms, k])
    have h2 : i ∉ b.syms := fun k => h (by simp [T.syms, k])
    show a.dep i + b.dep i + (if i ∈ a.syms ++ b.syms then 1 else 0) = 0
    rw [dep_none a i h1, dep_none b i h2, if_neg (show ¬ i ∈ a.syms ++ b.syms from h)]
theorem syms_some : ∀ (t : T), ∃ i, i ∈ t.syms
  | .leaf i _ => ⟨i, by simp [T.syms]⟩
  | .node a b => by obtain ⟨i, h⟩ := syms_some a; exact ⟨i, by simp [T.syms, h]⟩
theorem dep_left {a b : T} (hn : (a.syms ++ b.syms).Nodup) {i : Nat} (h : i ∈ a.syms) : (T.node a b).dep i = a.dep i + 1 := by
  show a.dep i + b.dep i + (if i ∈ a.syms ++ b.syms then 1 else 0) = _
  rw [dep_none b i (fun k => (List.nodup_append.1 hn).2.2 i h i k rfl), if_pos (by simp [h])]
theorem dep_right {a b : T} (hn : (a.syms ++ b.syms).Nodup) {i : Nat} (h : i ∈ b.syms) : (T.node a b).dep i = b.dep i + 1 := by
  show a.dep i + b.dep i + (if i ∈ a.syms ++ b.syms then 1 else 0) = _
  rw [dep_none a i (fun k => (List.nodup_append.1 hn).2.2 i k i h rfl), if_pos (by simp [h])]
  omega
/-- the codes of a tree fill all there is -/
theorem fills : ∀ (t : T) (M : Nat), t.syms.Nodup → (∀ i ∈ t.syms, t.dep i ≤ M) → sm (fun i => 2 ^ (M - t.dep i)) t.syms = 2 ^ M
  | .leaf i w, M, _, _ => by simp [T.syms, sm, T.dep]
  | .node a b, M, hn, hd => by
    have hn' : (a.syms ++ b.syms).Nodup := hn
    have n1 := (List.nodup_append.1 hn').1
    have n2 := (List.nodup_append.1 hn').2.1
    obtain ⟨j, hj⟩ := syms_some a
    have h1 : 1 ≤ M := by have := hd j (by simp [T.syms, hj]); rw [dep_left hn' hj] at this; omega
    have e1 : sm (fun i => 2 ^ (M - (T.node a b).dep i)) a.syms = sm (fun i => 2 ^ (M - 1 - a.dep i)) a.syms := sm_congr fun i hi => by
      rw [dep_left hn' hi]; congr 1; omega
    have e2 : sm (fun i => 2 ^ (M - (T.node a b).dep i)) b.syms = sm (fun i => 2 ^ (M - 1 - b.dep i)) b.syms := sm_congr fun i hi => by
      rw [dep_right hn' hi]; congr 1; omega
    show sm _ (a.syms ++ b.syms) = _
    rw [sm_append, e1, e2, fills a (M - 1) n1 (fun i hi => by have := hd i (by simp [T.syms, hi]); rw [dep_left hn' hi] at this; omega),
      fills b (M - 1) n2 (fun i hi => by have := hd i (by simp [T.syms, hi]); rw [dep_right hn' hi] at this; omega), ← Nat.two_mul, ← Nat.pow_succ']
    congr 1; omega
theorem weight_is {f : Nat → Nat} : ∀ (t : T), t.ok f → t.w = sm f t.syms
  | .leaf i w, h => by show w = f i + 0; rw [show w = f i from h]; rfl
  | .node a b, h => by show a.w + b.w = sm f (a.syms ++ b.syms); rw [sm_append, weight_is a h.1, weight_is b h.2]
theorem inner_is {f : Nat → Nat} : ∀ (t : T), t.ok f → t.syms.Nodup → t.inner = sm (fun i => f i * t.dep i) t.syms
  | .leaf i w, _, _ => by simp [T.syms, sm, T.dep, T.inner]
  | .node a b, h, hn => by
    have hn' : (a.syms ++ b.syms).Nodup := hn
    have e1 : sm (fun i => f i * (T.node a b).dep i) a.syms = sm (fun i => f i * a.dep i) a.syms + sm f a.syms := by
      rw [← sm_add]; exact sm_congr fun i hi => by rw [dep_left hn' hi, Nat.mul_succ]
    have e2 : sm (fun i => f i * (T.node a b).dep i) b.syms = sm (fun i => f i * b.dep i) b.syms + sm f b.syms := by
      rw [← sm_add]; exact sm_congr fun i hi => by rw [dep_right hn' hi, Nat.mul_succ]
    show a.inner + b.inner + (a.w + b.w) = sm _ (a.syms ++ b.syms)
    rw [sm_append, e1, e2, inner_is a h.1 (List.nodup_append.1 hn').1, inner_is b h.2 (List.nodup_append.1 hn').2.1, weight_is a h.1, weight_is b h.2]
    omega
/-! ### how deep a tree can be -/
def T.top : T → Nat
  | .leaf _ _ => 0
  | .node a b => max a.w b.w
def T.fine : T → Prop
  | .leaf _ w => 1 ≤ w
  | .node a b => a.fine ∧ b.fine ∧ a.top ≤ b.w ∧ b.top ≤ a.w
def T.h : T → Nat
  | .leaf _ _ => 0
  | .node a b => max a.h b.h + 1
def fb : Nat → Nat
  | 0 => 1
  | 1 => 2
  | n + 2 => fb n + fb (n + 1)
theorem fb_step (n : Nat) : fb (n + 1) ≤ fb (n + 2) := by
  show _ ≤ fb n + fb (n + 1); omega
theorem fb_mono {m n : Nat} (h : m ≤ n) : fb m ≤ fb n := by
  induction h with
  | refl => exact Nat.le_refl _
  | step _ ih =>
    rename_i k _
    refine Nat.le_trans ih ?_
    cases k with
    | zero => decide
    | succ k => exact fb_step k
theorem fine_w : ∀ (t : T), t.fine → 1 ≤ t.w
  | .leaf _ _, h => h
  | .node a b, h => by have := fine_w a h.1; show 1 ≤ a.w + b.w; omega
theorem fine_fb : ∀ (t : T), t.fine → fb t.h ≤ t.w ∧ (1 ≤ t.h → fb (t.h - 1) ≤ t.top)
  | .leaf _ w, h => ⟨h, fun k => absurd k (by simp [T.h])⟩
  | .node a b, hf => by
    obtain ⟨h1, h2, h3, h4⟩ := hf
    obtain ⟨a1, a2⟩ := fine_fb a h1
    obtain ⟨b1, b2⟩ := fine_fb b h2
    have wa := fine_w a h1
    have wb := fine_w b h2
    show fb (max a.h b.h + 1) ≤ a.w + b.w ∧ (_ → fb (max a.h b.h + 1 - 1) ≤ max a.w b.w)
    by_cases hab : b.h ≤ a.h
    · rw [Nat.max_eq_left hab]
      refine ⟨?_, fun _ => by rw [Nat.add_sub_cancel]; omega⟩
      cases hh : a.h with
      | zero => show 2 ≤ _; omega
      | succ k =>
        have := a2 (by omega)
        rw [hh] at this a1
        show fb k + fb (k + 1) ≤ _
        rw [Nat.add_sub_cancel] at this
        omega
    · rw [Nat.max_eq_right (by omega)]
      refine ⟨?_, fun _ => by rw [Nat.add_sub_cancel]; omega⟩
      cases hh : b.h with
      | zero => show 2 ≤ _; omega
      | succ k =>
        have := b2 (by omega)
        rw [hh] at this b1
        show fb k + fb (k + 1) ≤ _
        rw [Nat.add_sub_cancel] at this
        omega
theorem dep_h : ∀ (t : T), t.syms.Nodup → ∀ i, t.dep i ≤ t.h
  | .leaf _ _, _, _ => Nat.le_refl _
  | .node a b, hn, i => by
    have hn' : (a.syms ++ b.syms).Nodup := hn
    show _ ≤ max a.h b.h + 1
    by_cases ha : i ∈ a.syms
    · rw [dep_left hn' ha]; have := dep_h a (List.nodup_append.1 hn').1 i; omega
    · by_cases hb : i ∈ b.syms
      · rw [dep_right hn' hb]; have := dep_h b (List.nodup_append.1 hn').2.1 i; omega
      · rw [dep_none _ i (by simp [T.syms, ha, hb])]; omega
/-- of a forest on its way: each tree is fine, and none weighs less than a part of another one -/
def Fine (F : List T) : Prop := (∀ x ∈ F, x.fine) ∧ ∀ x ∈ F, ∀ y ∈ F, x.top ≤ y.w
theorem step_fine {F : List T} (h : Fine F) (hr : Rise F) : Fine (stepT F) := by
  unfold stepT
  split
  · rename_i a b r
    obtain ⟨h1, h2⟩ := List.pairwise_cons.1 hr
    obtain ⟨h3, h4⟩ := List.pairwise_cons.1 h2
    have hab := h1 b (by simp)
    have mem : ∀ x, x ∈ ins (.node a b) r → x = .node a b ∨ x ∈ r := fun x hx => List.mem_cons.1 ((ins_perm _ _).mem_iff.1 hx)
    refine ⟨fun x hx => ?_, fun x hx y hy => ?_⟩
    · rcases mem x hx with rfl | hx
      · exact ⟨h.1 a (by simp), h.1 b (by simp), h.2 a (by simp) b (by simp), h.2 b (by simp) a (by simp)⟩
      · exact h.1 x (by simp [hx])
    · rcases mem x hx with rfl | hx <;> rcases mem y hy with rfl | hy
      · show max a.w b.w ≤ a.w + b.w; omega
      · have := h3 y hy
        show max a.w b.w ≤ y.w; omega
      · have := h.2 x (by simp [hx]) a (by simp)
        show x.top ≤ a.w + b.w; omega
      · exact h.2 x (by simp [hx]) y (by simp [hy])
  · exact h
/-! ### forests -/
def syms (F : List T) : List Nat := F.flatMap T.syms
def dep (F : List T) (i : Nat) : Nat := sm (fun t => t.dep i) F
theorem syms_perm {F F' : List T} (h : F.Perm F') : (syms F).Perm (syms F') := h.flatMap_right _
theorem dep_perm {F F' : List T} (h : F.Perm F') (i : Nat) : dep F i = dep F' i := sm_perm _ h
theorem step_syms (F : List T) : (syms (stepT F)).Perm (syms F) := by
  unfold stepT
  split
  · rename_i a b r
    refine (syms_perm (ins_perm _ _)).trans ?_
    unfold syms
    simp [List.flatMap_cons, T.syms]
  · exact .refl _
theorem step_dep (a b : T) (r : List T) (i : Nat) : dep (stepT (a :: b :: r)) i = dep (a :: b :: r) i + (if i ∈ a.syms ++ b.syms then 1 else 0) := by
  show dep (ins (.node a b) r) i = _
  rw [dep_perm (ins_perm _ _)]
  simp only [dep, sm, T.dep]
  omega
theorem step_length (F : List T) : (stepT F).length = if 2 ≤ F.length then F.length - 1 else F.length := by
  match F with
  | [] => rfl
  | [_] => rfl
  | a :: b :: r => show (ins _ r).length = _; rw [ins_length]; simp
structure Grove (f : Nat → Nat) (F : List T) : Prop where
  rise : Rise F
  fine : Fine F
  ok : ∀ t ∈ F, t.ok f
  nodup : (syms F).Nodup
theorem Grove.step {f : Nat → Nat} {F : List T} (h : Grove f F) : Grove f (stepT F) := by
  refine ⟨step_rise h.rise, step_fine h.fine h.rise, ?_, (step_syms F).nodup_iff.2 h.nodup⟩
  unfold stepT
  split
  · rename_i a b r
    intro t ht
    rcases List.mem_cons.1 ((ins_perm _ _).mem_iff.1 ht) with rfl | ht
    · exact ⟨h.ok a (by simp), h.ok b (by simp)⟩
    · exact h.ok t (by simp [ht])
  · exact h.ok
theorem build_grove {f : Nat → Nat} : ∀ (k : Nat) (F : List T), Grove f F → Grove f (build k F) ∧ (syms (build k F)).Perm (syms F)
  | 0, F, h => ⟨h, .refl _⟩
  | k + 1, F, h => by
    obtain ⟨h1, h2⟩ := build_grove k (stepT F) h.step
    exact ⟨h1, h2.trans (step_syms F)⟩
theorem build_end : ∀ (k : Nat) (F : List T), F ≠ [] → F.length ≤ k + 1 → ∃ t, build k F = [t]
  | 0, F, h, hl => by
    match F, h, hl with
    | [t], _, _ => exact ⟨t, rfl⟩
  | k + 1, F, h, hl => by
    refine build_end k (stepT F) (fun e => ?_) ?_
    · have h1 := step_length F
      rw [e] at h1
      have h2 : 0 < F.length := List.length_pos_iff.2 h
      simp at h1
      split at h1 <;> omega
    · rw [step_length]; split <;> omega
end Go.Proofs.Ythehjhckcblbdaa.Hf
/-
  Maths of Huffman's lengths over a list of how often each symbol is there: they fill all there is, cost the least, and what follows.
-/
namespace Go.Proofs.Ythehjhckcblbdaa.Hf
set_option maxRecDepth 100000
def S0 (f : List Nat) : List Nat := (List.range f.length).filter fun i => decide (0 < f.getD i 0)
def leaves (f : List Nat) : List T := (S0 f).map fun i => T.leaf i (f.getD i 0)
def sortT (l : List T) : List T := l.foldr ins []
def F0 (f : List Nat) : List T := sortT (leaves f)
/-- how many bits each symbol has, if nothing is halved -/
def once (f : List Nat) (i : Nat) : Nat := if (S0 f).length = 1 then (if i ∈ S0 f then 1 else 0) else dep (build (S0 f).length (F0 f)) i
theorem S0_mem {f : List Nat} {i : Nat} : i ∈ S0 f ↔ i < f.length ∧ 0 < f.getD i 0 := by
  unfold S0; simp
theorem S0_nodup (f : List Nat) : (S0 f).Nodup := List.Pairwise.filter _ List.nodup_range
theorem sortT_perm : ∀ l, (sortT l).Perm l
  | [] => .refl _
  | t :: l => (ins_perm t _).trans ((sortT_perm l).cons t)
theorem sortT_rise : ∀ l, Rise (sortT l)
  | [] => by unfold sortT Rise; simp
  | t :: l => ins_rise t _ (sortT_rise l)
theorem leaves_syms (f : List Nat) : syms (leaves f) = S0 f := by
  unfold leaves syms
  induction S0 f with
  | nil => rfl
  | cons i l ih => rw [List.map_cons, List.flatMap_cons, ih]; rfl
theorem F0_mem {f : List Nat} {t : T} : t ∈ F0 f ↔ ∃ i ∈ S0 f, t = T.leaf i (f.getD i 0) := by
  unfold F0; rw [(sortT_perm _).mem_iff]; unfold leaves; rw [List.mem_map]
  constructor <;> rintro ⟨i, h1, h2⟩ <;> exact ⟨i, h1, h2.symm⟩
theorem F0_length (f : List Nat) : (F0 f).length = (S0 f).length := by
  rw [show (F0 f).length = (leaves f).length from (sortT_perm _).length_eq]; unfold leaves; rw [List.length_map]
theorem F0_syms (f : List Nat) : (syms (F0 f)).Perm (S0 f) := by
  have := syms_perm (sortT_perm (leaves f)); rw [leaves_syms] at this; exact this
theorem F0_grove (f : List Nat) : Grove (fun i => f.getD i 0) (F0 f) := by
  refine ⟨sortT_rise _, ⟨fun x hx => ?_, fun x hx y _ => ?_⟩, fun t ht => ?_, (F0_syms f).nodup_iff.2 (S0_nodup f)⟩
  · obtain ⟨i, hi, rfl⟩ := F0_mem.1 hx; exact (S0_mem.1 hi).2
  · obtain ⟨i, _, rfl⟩ := F0_mem.1 hx; exact Nat.zero_le _
  · obtain ⟨i, _, rfl⟩ := F0_mem.1 ht; exact rfl
theorem F0_inner (f : List Nat) : sm T.inner (F0 f) = 0 := by
  have : sm T.inner (F0 f) = sm (fun _ => 0) (F0 f) := sm_congr fun t ht => by obtain ⟨i, _, rfl⟩ := F0_mem.1 ht; rfl
  rw [this, sm_const]; rfl
/-- if two symbols or more are there: the tree -/
theorem once_tree {f : List Nat} (h : 2 ≤ (S0 f).length) : ∃ t, build (S0 f).length (F0 f) = [t] ∧ t.syms.Perm (S0 f) ∧ t.syms.Nodup ∧ t.ok (fun i => f.getD i 0) ∧ t.fine ∧ ∀ i, once f i = t.dep i := by
  obtain ⟨t, ht⟩ := build_end (S0 f).length (F0 f) (fun e => by have := F0_length f; rw [e] at this; simp at this; omega) (by rw [F0_length]; omega)
  obtain ⟨g, hp⟩ := build_grove (S0 f).length (F0 f) (F0_grove f)
  rw [ht] at g hp
  have hs : syms [t] = t.syms := by simp [syms]
  have hn := g.nodup
  rw [hs] at hp hn
  refine ⟨t, ht, hp.trans (F0_syms f), hn, g.ok t (by simp), g.fine.1 t (by simp), fun i => ?_⟩
  unfold once
  rw [if_neg (by omega), ht]
  simp [dep, sm]
theorem once_none {f : List Nat} {i : Nat} (h : i ∉ S0 f) : once f i = 0 := by
  by_cases h1 : (S0 f).length = 1
  · unfold once; rw [if_pos h1, if_neg h]
  · by_cases h2 : 2 ≤ (S0 f).length
    · obtain ⟨t, _, hp, _, _, _, ho⟩ := once_tree h2
      rw [ho]; exact dep_none t i (fun k => h (hp.mem_iff.1 k))
    · have h0 : (S0 f).length = 0 := by omega
      have : F0 f = [] := List.length_eq_zero_iff.1 (by rw [F0_length]; exact h0)
      unfold once; rw [if_neg h1, this, build_nil]; rfl
theorem once_pos {f : List Nat} {i : Nat} (h : i ∈ S0 f) : 1 ≤ once f i := by
  by_cases h1 : (S0 f).length = 1
  · unfold once; rw [if_pos h1, if_pos h]; exact Nat.le_refl _
  · have h2 : 2 ≤ (S0 f).length := by have := List.length_pos_of_mem h; omega
    obtain ⟨t, _, hp, hn, _, _, ho⟩ := once_tree h2
    rw [ho]
    match t, hp, hn with
    | .leaf j w, hp, _ => have := hp.length_eq; simp [T.syms] at this; omega
    | .node a b, hp, hn =>
      have hi : i ∈ a.syms ++ b.syms := hp.mem_iff.2 h
      rcases List.mem_append.1 hi with k | k
      · rw [dep_left hn k]; omega
      · rw [dep_right hn k]; omega
/-- the codes fill all there is -/
theorem full {f : List Nat} (h : 2 ≤ (S0 f).length) {M : Nat} (hm : ∀ i ∈ S0 f, once f i ≤ M) : sm (fun i => 2 ^ (M - once f i)) (S0 f) = 2 ^ M := by
  obtain ⟨t, _, hp, hn, _, _, ho⟩ := once_tree h
  rw [← sm_perm _ hp, ← fills t M hn (fun i hi => by rw [← ho]; exact hm i (hp.mem_iff.1 hi))]
  exact sm_congr fun i _ => by rw [ho]
theorem full_one {f : List Nat} (h : (S0 f).length = 1) (M : Nat) : sm (fun i => 2 ^ (M - once f i)) (S0 f) = 2 ^ (M - 1) := by
  obtain ⟨j, hj⟩ := List.length_eq_one_iff.1 h
  unfold once
  rw [hj]
  simp [sm]
theorem full_le {f : List Nat} {M : Nat} (hm : ∀ i ∈ S0 f, once f i ≤ M) : sm (fun i => 2 ^ (M - once f i)) (S0 f) ≤ 2 ^ M := by
  by_cases h2 : 2 ≤ (S0 f).length
  · rw [full h2 hm]; exact Nat.le_refl _
  · by_cases h1 : (S0 f).length = 1
    · rw [full_one h1]; exact Nat.pow_le_pow_right (by decide) (by omega)
    · have : S0 f = [] := List.length_eq_zero_iff.1 (by omega)
      rw [this]; exact Nat.zero_le _
/-- no lengths cost less -/
theorem opt (f : List Nat) (g : Nat → Nat) (M : Nat) (hg : ∀ i ∈ S0 f, 1 ≤ g i ∧ g i ≤ M) (hk : sm (fun i => 2 ^ (M - g i)) (S0 f) ≤ 2 ^ M) :
    sm (fun i => f.getD i 0 * once f i) (S0 f) ≤ sm (fun i => f.getD i 0 * g i) (S0 f) := by
  by_cases h2 : 2 ≤ (S0 f).length
  · obtain ⟨t, ht, hp, hn, hok, _, ho⟩ := once_tree h2
    have e1 : sm (fun i => f.getD i 0 * once f i) (S0 f) = t.inner := by
      rw [inner_is t hok hn, ← sm_perm _ hp]
      exact sm_congr fun i _ => by rw [ho]
    have hl := least (S0 f).length (F0 f) (F0_grove f).rise ((S0 f).map fun i => (f.getD i 0, g i)) M (by
        have := ((sortT_perm (leaves f)).map T.w).symm
        refine List.Perm.trans (.of_eq ?_) this
        unfold leaves
        rw [List.map_map, List.map_map]; rfl) (fun p hp => by
        obtain ⟨i, hi, rfl⟩ := List.mem_map.1 hp; exact (hg i hi).2) (by unfold kr; rw [sm_map]; exact hk)
    rw [ht, F0_inner] at hl
    unfold cost at hl
    rw [sm_map] at hl
    rw [e1]
    simpa [sm] using hl
  · refine sm_le fun i hi => Nat.mul_le_mul_left _ ?_
    have h1 : (S0 f).length = 1 := by have := List.length_pos_of_mem hi; omega
    unfold once; rw [if_pos h1, if_pos hi]; exact (hg i hi).1
/-! ### what follows -/
theorem top_of (g : Nat → Nat) (S : List Nat) : ∀ i ∈ S, g i ≤ sm g S := fun _ hi => sm_mem hi
theorem pick_two {S : List Nat} {a b : Nat} (ha : a ∈ S) (hb : b ∈ S) (hab : a ≠ b) : ∃ S', S.Perm (a :: b :: S') := by
  have h1 := List.perm_cons_erase ha
  have hb' : b ∈ S.erase a := (List.mem_erase_of_ne (Ne.symm hab)).2 hb
  exact ⟨(S.erase a).erase b, h1.trans ((List.perm_cons_erase hb').cons a)⟩
/-- what is there more often has no longer code -/
theorem rare {f : List Nat} {a b : Nat} (ha : a ∈ S0 f) (hb : b ∈ S0 f) (h : f.getD b 0 < f.getD a 0) : once f a ≤ once f b := by
  refine Nat.le_of_not_lt fun hlt => ?_
  have hab : a ≠ b := fun e => by subst e; omega
  obtain ⟨S', hp⟩ := pick_two ha hb hab
  have h2 : 2 ≤ (S0 f).length := by rw [hp.length_eq]; simp
  obtain ⟨M, hM⟩ : ∃ M, M = sm (once f) (S0 f) := ⟨_, rfl⟩
  have hm : ∀ i ∈ S0 f, once f i ≤ M := fun i hi => by rw [hM]; exact sm_mem hi
  have hnd : (a :: b :: S').Nodup := hp.nodup_iff.1 (S0_nodup f)
  have na : ∀ i ∈ S', i ≠ a ∧ i ≠ b := fun i hi => by
    obtain ⟨q1, q2⟩ := List.nodup_cons.1 hnd
    obtain ⟨q3, _⟩ := List.nodup_cons.1 q2
    exact ⟨fun e => q1 (by rw [← e]; simp [hi]), fun e => q3 (by rw [← e]; exact hi)⟩
  have sw := opt f (fun i => if i = a then once f b else if i = b then once f a else once f i) M (fun i hi => by
      split
      · exact ⟨once_pos hb, hm b hb⟩
      · split
        · exact ⟨once_pos ha, hm a ha⟩
        · exact ⟨once_pos hi, hm i hi⟩) (by
      have hf := full h2 hm
      rw [sm_perm _ hp] at hf ⊢
      simp only [sm, if_true, if_neg (Ne.symm hab)] at hf ⊢
      rw [sm_congr (h := fun i => 2 ^ (M - once f i)) fun i hi => by rw [if_neg (na i hi).1, if_neg (na i hi).2]]
      omega)
  rw [sm_perm _ hp, sm_perm _ hp] at sw
  simp only [sm, if_true, if_neg (Ne.symm hab)] at sw
  rw [sm_congr (g := fun i => f.getD i 0 * (if i = a then once f b else if i = b then once f a else once f i)) (h := fun i => f.getD i 0 * once f i) fun i hi => by rw [if_neg (na i hi).1, if_neg (na i hi).2]] at sw
  obtain ⟨d, hd⟩ : ∃ d, f.getD a 0 = f.getD b 0 + (d + 1) := ⟨f.getD a 0 - f.getD b 0 - 1, by omega⟩
  obtain ⟨e, he⟩ : ∃ e, once f a = once f b + (e + 1) := ⟨once f a - once f b - 1, by omega⟩
  rw [hd, he] at sw
  simp only [Nat.mul_add, Nat.add_mul, Nat.mul_one, Nat.one_mul] at sw
  omega
theorem sm_eq {α : Type} {g h : α → Nat} {l : List α} (e : ∀ x ∈ l, g x ≤ h x) (hs : sm h l ≤ sm g l) : ∀ x ∈ l, g x = h x := by
  induction l with
  | nil => simp
  | cons y l ih =>
    simp only [sm] at hs
    have h1 := e y (by simp)
    have h2 : sm g l ≤ sm h l := sm_le fun x hx => e x (by simp [hx])
    intro x hx
    rcases List.mem_cons.1 hx with rfl | hx
    · omega
    · exact ih (fun x hx => e x (by simp [hx])) (by omega) x hx
theorem pow_more : ∀ m : Nat, m + 1 ≤ 2 ^ m ∧ (2 ≤ m → m + 1 < 2 ^ m)
  | 0 => by simp
  | 1 => by simp
  | m + 2 => by
    have := (pow_more (m + 1)).1
    rw [Nat.pow_succ]
    refine ⟨by omega, fun _ => by omega⟩
/-- as many symbols as a power of two, of lengths that fill all there is and are no more together than that many times the power: all of them are it -/
theorem all_same {S : List Nat} {d : Nat → Nat} {k M : Nat} (hk : k ≤ M) (hl : S.length = 2 ^ k) (hf : sm (fun i => 2 ^ (M - d i)) S = 2 ^ M) (hs : sm d S ≤ S.length * k) : ∀ i ∈ S, d i = k := by
  obtain ⟨q, hq⟩ : ∃ q, q = 2 ^ (M - k) := ⟨_, rfl⟩
  have hqp : 0 < q := by rw [hq]; exact Nat.two_pow_pos _
  have hqM : 2 ^ M = q * 2 ^ k := by rw [hq, ← Nat.pow_add]; congr 1; omega
  have item : ∀ i ∈ S, q * (k + 1) ≤ 2 ^ (M - d i) + q * d i ∧ (q * (k + 1) = 2 ^ (M - d i) + q * d i → d i ≤ k) := fun i hi => by
    by_cases hle : d i ≤ k
    · obtain ⟨m, hm⟩ : ∃ m, k = d i + m := ⟨k - d i, by omega⟩
      have e1 : 2 ^ (M - d i) = q * 2 ^ m := by rw [hq, ← Nat.pow_add]; congr 1; omega
      have := (pow_more m).1
      refine ⟨?_, fun _ => hle⟩
      rw [e1, ← Nat.mul_add]
      exact Nat.mul_le_mul_left _ (by omega)
    · have h1 : q * (k + 1) ≤ q * d i := Nat.mul_le_mul_left _ (by omega)
      have h2 : 0 < 2 ^ (M - d i) := Nat.two_pow_pos _
      exact ⟨by omega, fun e => by omega⟩
  have tot : sm (fun i => 2 ^ (M - d i) + q * d i) S ≤ sm (fun _ => q * (k + 1)) S := by
    rw [sm_add, sm_mul, hf, sm_const, hqM, hl]
    have h1 : q * sm d S ≤ q * (2 ^ k * k) := Nat.mul_le_mul_left _ (by rw [← hl]; exact hs)
    have h2 : 2 ^ k * (q * (k + 1)) = q * 2 ^ k + q * (2 ^ k * k) := by
      rw [Nat.mul_left_comm, Nat.mul_add, Nat.mul_one, Nat.mul_add]; omega
    omega
  have each := sm_eq (fun i hi => (item i hi).1) tot
  have hle : ∀ i ∈ S, d i ≤ k := fun i hi => (item i hi).2 (each i hi)
  refine sm_eq hle ?_
  have e2 : q * sm d S + q * 2 ^ k = q * (2 ^ k * k) + q * 2 ^ k := by
    have h1 := sm_congr each
    rw [sm_const, sm_add, sm_mul, hf, hqM, hl] at h1
    have h2 : 2 ^ k * (q * (k + 1)) = q * 2 ^ k + q * (2 ^ k * k) := by
      rw [Nat.mul_left_comm, Nat.mul_add, Nat.mul_one, Nat.mul_add]; omega
    omega
  rw [sm_const, hl]
  have e3 : q * sm d S = q * (2 ^ k * k) := by omega
  exact Nat.le_of_eq (Nat.eq_of_mul_eq_mul_left hqp e3).symm
/-- symbols that are all there as often, and are a power of two many -/
theorem even (c k : Nat) (hc : 1 ≤ c) (hk : 1 ≤ k) : ∀ i, i < 2 ^ k → once (List.replicate (2 ^ k) c) i = k := by
  have hS : S0 (List.replicate (2 ^ k) c) = List.range (2 ^ k) := by
    unfold S0
    rw [List.length_replicate, List.filter_eq_self.2]
    intro i hi
    have := List.mem_range.1 hi
    simp [this]; omega
  have hlen : (S0 (List.replicate (2 ^ k) c)).length = 2 ^ k := by rw [hS, List.length_range]
  have h2 : 2 ≤ (S0 (List.replicate (2 ^ k) c)).length := by
    rw [hlen]; exact Nat.le_trans (by decide : 2 ≤ 2 ^ 1) (Nat.pow_le_pow_right (by decide) hk)
  have hget : ∀ i ∈ S0 (List.replicate (2 ^ k) c), (List.replicate (2 ^ k) c).getD i 0 = c := fun i hi => by
    rw [hS] at hi; have := List.mem_range.1 hi; simp [this]
  obtain ⟨M, hM⟩ : ∃ M, M = sm (once (List.replicate (2 ^ k) c)) (S0 (List.replicate (2 ^ k) c)) + k := ⟨_, rfl⟩
  have hm : ∀ i ∈ S0 (List.replicate (2 ^ k) c), once (List.replicate (2 ^ k) c) i ≤ M := fun i hi => by
    have := sm_mem (g := once (List.replicate (2 ^ k) c)) hi; omega
  have ho := opt (List.replicate (2 ^ k) c) (fun _ => k) M (fun i _ => ⟨hk, by omega⟩) (by
    rw [sm_const, hlen, ← Nat.pow_add, show k + (M - k) = M by omega]; exact Nat.le_refl _)
  rw [sm_congr (h := fun i => c * once (List.replicate (2 ^ k) c) i) (fun i hi => by rw [hget i hi]), sm_congr (g := fun i => (List.replicate (2 ^ k) c).getD i 0 * k) (h := fun _ => c * k) (fun i hi => by rw [hget i hi]), sm_mul, sm_const] at ho
  have hs : sm (once (List.replicate (2 ^ k) c)) (S0 (List.replicate (2 ^ k) c)) ≤ (S0 (List.replicate (2 ^ k) c)).length * k := by
    refine Nat.le_of_mul_le_mul_left ?_ (show 0 < c by omega)
    rw [Nat.mul_left_comm c] ; exact ho
  intro i hi
  exact all_same (by omega) hlen (full h2 hm) hs i (by rw [hS]; exact List.mem_range.2 hi)
theorem sm_filter {p : Nat → Bool} {g : Nat → Nat} : ∀ (l : List Nat), sm g (l.filter p) ≤ sm g l
  | [] => Nat.le_refl _
  | x :: l => by
    have := sm_filter (p := p) (g := g) l
    rw [List.filter_cons]
    split <;> simp only [sm] <;> omega
/-- if symbols are there more often, the codes together do not cost less -/
theorem steps {f g : List Nat} (hl : f.length = g.length) (h : ∀ i, f.getD i 0 ≤ g.getD i 0) : sm (fun i => f.getD i 0 * once f i) (S0 f) ≤ sm (fun i => g.getD i 0 * once g i) (S0 g) := by
  have hS : S0 f = (S0 g).filter fun i => decide (0 < f.getD i 0) := by
    unfold S0
    rw [List.filter_filter, hl]
    refine List.filter_congr fun i _ => ?_
    have := h i
    by_cases hf : 0 < f.getD i 0
    · have hg : 0 < g.getD i 0 := by omega
      simp only [decide_eq_true hf, decide_eq_true hg, Bool.and_self]
    · simp only [decide_eq_false hf, Bool.false_and]
  have sub : ∀ i ∈ S0 f, i ∈ S0 g := fun i hi => by rw [hS] at hi; exact (List.mem_filter.1 hi).1
  obtain ⟨M, hM⟩ : ∃ M, M = sm (once g) (S0 g) := ⟨_, rfl⟩
  have hm : ∀ i ∈ S0 g, once g i ≤ M := fun i hi => by rw [hM]; exact sm_mem hi
  have ho := opt f (once g) M (fun i hi => ⟨once_pos (sub i hi), hm i (sub i hi)⟩) (by
    refine Nat.le_trans ?_ (full_le hm)
    rw [hS]; exact sm_filter _)
  refine Nat.le_trans ho (Nat.le_trans (sm_le (h := fun i => g.getD i 0 * once g i) fun i _ => Nat.mul_le_mul_right _ (h i)) ?_)
  rw [hS]; exact sm_filter _
/-- what is not there changes nothing -/
theorem more (f : List Nat) : once (f ++ [0]) = once f := by
  have hg : ∀ i, (f ++ [0]).getD i 0 = f.getD i 0 := fun i => by
    rw [List.getD_eq_getElem?_getD, List.getD_eq_getElem?_getD]
    by_cases h : i < f.length
    · rw [List.getElem?_append_left h]
    · rw [List.getElem?_append_right (by omega), List.getElem?_eq_none (by omega : f.length ≤ i)]
      cases h2 : i - f.length with
      | zero => rfl
      | succ n => rfl
  have hS : S0 (f ++ [0]) = S0 f := by
    unfold S0
    rw [List.length_append, List.length_singleton, List.range_succ, List.filter_append]
    rw [List.filter_congr (q := fun i => decide (0 < f.getD i 0)) (fun i _ => by rw [hg])]
    simp
  funext i
  unfold once F0 leaves
  simp only [hS, hg]
/-! ### halves -/
def half (f : List Nat) : List Nat := f.map fun x => (x + 1) / 2
theorem half_get (f : List Nat) (i : Nat) : (half f).getD i 0 = (f.getD i 0 + 1) / 2 := by
  unfold half
  rw [List.getD_eq_getElem?_getD, List.getD_eq_getElem?_getD, List.getElem?_map]
  cases f[i]? <;> rfl
theorem half_length (f : List Nat) : (half f).length = f.length := by unfold half; rw [List.length_map]
theorem half_S0 (f : List Nat) : S0 (half f) = S0 f := by
  unfold S0
  rw [half_length]
  refine List.filter_congr fun i _ => ?_
  rw [half_get]
  by_cases h : 0 < f.getD i 0
  · rw [decide_eq_true h, decide_eq_true (by omega)]
  · rw [decide_eq_false h, decide_eq_false (by omega)]
def deep (f : List Nat) : Bool := (List.range f.length).any fun i => decide (15 < once f i)
def tot (f : List Nat) : Nat := sm (fun i => f.getD i 0) (S0 f)
theorem deep_tot {f : List Nat} (h : deep f = true) : 2584 ≤ tot f := by
  unfold deep at h
  obtain ⟨i, _, hi⟩ := List.any_eq_true.1 h
  have hi : 15 < once f i := of_decide_eq_true hi
  have h2 : 2 ≤ (S0 f).length := by
    by_cases h1 : (S0 f).length = 1
    · unfold once at hi; rw [if_pos h1] at hi; split at hi <;> omega
    · by_cases h0 : (S0 f).length = 0
      · have : i ∉ S0 f := by rw [List.length_eq_zero_iff.1 h0]; simp
        rw [once_none this] at hi; omega
      · omega
  obtain ⟨t, _, hp, hn, hok, hfi, ho⟩ := once_tree h2
  have e1 : tot f = t.w := by unfold tot; rw [weight_is t hok, sm_perm _ hp]
  have e2 := dep_h t hn i
  rw [← ho] at e2
  have e3 := (fine_fb t hfi).1
  have e4 := fb_mono (show 16 ≤ t.h by omega)
  have e5 : fb 16 = 2584 := by decide
  omega
theorem deep_half {f : List Nat} (hl : f.length ≤ 300) (h : deep f = true) : tot (half f) < tot f := by
  have h1 := deep_tot h
  refine Nat.lt_of_not_le fun hle => ?_
  unfold tot at hle
  rw [half_S0] at hle
  have each := sm_eq (g := fun i => (half f).getD i 0) (h := fun i => f.getD i 0) (l := S0 f) (fun i hi => by
    have := (S0_mem.1 hi).2
    rw [half_get]; omega) hle
  have : tot f ≤ sm (fun _ => 1) (S0 f) := sm_le fun i hi => by
    have e := each i hi
    simp only [half_get] at e
    omega
  rw [sm_const] at this
  have h3 : (S0 f).length ≤ f.length := by
    unfold S0; refine Nat.le_trans (List.length_filter_le _ _) ?_; rw [List.length_range]; exact Nat.le_refl _
  omega
def fin : Nat → List Nat → List Nat
  | 0, f => f
  | k + 1, f => if deep f then fin k (half f) else f
/-- how often each symbol counts, when no code is too long any more -/
def lastF (f : List Nat) : List Nat := fin (tot f) f
theorem fin_more : ∀ (k : Nat) (f : List Nat), f.length ≤ 300 → tot f ≤ k → fin k f = fin (tot f) f ∧ deep (fin k f) = false
  | 0, f, _, hk => by
    have h0 : tot f = 0 := by omega
    refine ⟨by rw [h0], ?_⟩
    cases hd : deep f with
    | false => exact hd
    | true => have := deep_tot hd; omega
  | k + 1, f, hl, hk => by
    cases hd : deep f with
    | false =>
      have e : ∀ j, fin j f = f := fun j => by cases j with
        | zero => rfl
        | succ j => show (if deep f then _ else f) = f; rw [hd]; rfl
      rw [e, e]; exact ⟨rfl, hd⟩
    | true =>
      have h1 := deep_half hl hd
      have h2 := deep_tot hd
      obtain ⟨j, hj⟩ : ∃ j, tot f = j + 1 := ⟨tot f - 1, by omega⟩
      obtain ⟨a1, a2⟩ := fin_more k (half f) (by rw [half_length]; exact hl) (by omega)
      have e1 : fin (k + 1) f = fin k (half f) := by show (if deep f then _ else f) = _; rw [hd]; rfl
      have e2 : fin (j + 1) f = fin j (half f) := by show (if deep f then _ else f) = _; rw [hd]; rfl
      have hb : j ≤ k := by omega
      have e3 : fin j (half f) = fin (tot (half f)) (half f) := by
        clear e1 e2 a1 a2
        exact (fin_more j (half f) (by rw [half_length]; exact hl) (by omega)).1
      rw [e1, hj, e2, e3]
      exact ⟨a1, a2⟩
  termination_by k => k
  decreasing_by all_goals omega
theorem last_step {f : List Nat} (hl : f.length ≤ 300) (h : deep f = true) : lastF f = lastF (half f) := by
  have h1 := deep_half hl h
  have h2 := deep_tot h
  obtain ⟨j, hj⟩ : ∃ j, tot f = j + 1 := ⟨tot f - 1, by omega⟩
  unfold lastF
  rw [hj]
  show (if deep f then _ else f) = _
  rw [h]
  exact (fin_more j (half f) (by rw [half_length]; exact hl) (by omega)).1
theorem last_same {f : List Nat} (h : deep f = false) : lastF f = f := by
  unfold lastF
  cases tot f with
  | zero => rfl
  | succ j => show (if deep f then _ else f) = f; rw [h]; rfl
theorem last_not {f : List Nat} (hl : f.length ≤ 300) : deep (lastF f) = false := (fin_more (tot f) f hl (Nat.le_refl _)).2
theorem fin_keeps : ∀ (k : Nat) (f : List Nat), (fin k f).length = f.length ∧ S0 (fin k f) = S0 f
  | 0, f => ⟨rfl, rfl⟩
  | k + 1, f => by
    unfold fin
    split
    · obtain ⟨h1, h2⟩ := fin_keeps k (half f)
      exact ⟨h1.trans (half_length f), h2.trans (half_S0 f)⟩
    · exact ⟨rfl, rfl⟩
theorem last_length (f : List Nat) : (lastF f).length = f.length := (fin_keeps _ f).1
theorem last_S0 (f : List Nat) : S0 (lastF f) = S0 f := (fin_keeps _ f).2
theorem not_deep {f : List Nat} (h : deep f = false) (i : Nat) : once f i ≤ 15 := by
  by_cases hi : i < f.length
  · unfold deep at h
    have := List.any_eq_false.1 h i (List.mem_range.2 hi)
    simp at this
    exact this
  · rw [once_none fun k => hi (S0_mem.1 k).1]; omega
/-- how many bits each symbol's code has -/
def lens (f : List Nat) : List Nat := (List.range f.length).map (once (lastF f))
end Go.Proofs.Ythehjhckcblbdaa.Hf
/-
  Maths of forests on their way: each tree has its place, the two least are the sorted forest's first two, and what one round does to depths and weights. No condition.
-/
namespace Go.Proofs.Ythehjhckcblbdaa.Hf
set_option maxRecDepth 100000
/-- sorted, and no two trees of one number -/
structure Strict (F : List T) : Prop where
  sorted : F.Pairwise T.lt
  nums : (F.map T.n).Nodup
theorem ins_sorted (t : T) : ∀ l : List T, (∀ x ∈ l, t.n ≠ x.n) → l.Pairwise T.lt → (ins t l).Pairwise T.lt
  | [], _, _ => by unfold ins; simp
  | x :: l, hn, h => by
    obtain ⟨h1, h2⟩ := List.pairwise_cons.1 h
    have hx := hn x (by simp)
    unfold ins
    split
    · rename_i hlt
      refine List.pairwise_cons.2 ⟨fun y hy => ?_, h⟩
      rcases List.mem_cons.1 hy with rfl | hy
      · exact hlt
      · have := h1 y hy; unfold T.lt at *; omega
    · rename_i hlt
      have htx : T.lt x t := by unfold T.lt at *; omega
      refine List.pairwise_cons.2 ⟨fun y hy => ?_, ins_sorted t l (fun y hy => hn y (by simp [hy])) h2⟩
      rcases List.mem_cons.1 ((ins_perm t l).mem_iff.1 hy) with rfl | hy
      · exact htx
      · exact h1 y hy
theorem ins_strict (t : T) {l : List T} (hn : ∀ x ∈ l, t.n ≠ x.n) (h : Strict l) : Strict (ins t l) := by
  refine ⟨ins_sorted t l hn h.sorted, ((ins_perm t l).map T.n).nodup_iff.2 ?_⟩
  rw [List.map_cons, List.nodup_cons]
  exact ⟨fun k => by obtain ⟨x, hx, e⟩ := List.mem_map.1 k; exact hn x hx e.symm, h.nums⟩
theorem step_strict {F : List T} (h : Strict F) : Strict (stepT F) := by
  unfold stepT
  split
  · rename_i a b r
    obtain ⟨h1, h2⟩ := List.pairwise_cons.1 h.sorted
    obtain ⟨h3, h4⟩ := List.pairwise_cons.1 h2
    have hn := h.nums
    rw [List.map_cons, List.map_cons] at hn
    obtain ⟨n1, n2⟩ := List.nodup_cons.1 hn
    obtain ⟨n3, n4⟩ := List.nodup_cons.1 n2
    refine ins_strict _ (fun x hx e => ?_) ⟨h4, n4⟩
    have hx' : x.n ∈ r.map T.n := List.mem_map.2 ⟨x, hx, rfl⟩
    have e2 : min a.n b.n = x.n := e
    by_cases hab : a.n ≤ b.n
    · rw [Nat.min_eq_left hab] at e2
      exact n1 (by rw [e2]; simp only [List.mem_cons]; exact .inr hx')
    · rw [Nat.min_eq_right (by omega)] at e2
      exact n3 (by rw [e2]; exact hx')
  · exact h
theorem sortT_strict : ∀ l : List T, (l.map T.n).Nodup → Strict (sortT l)
  | [], _ => ⟨by unfold sortT; simp, by unfold sortT; simp⟩
  | t :: l, h => by
    rw [List.map_cons, List.nodup_cons] at h
    refine ins_strict t (fun x hx e => ?_) (sortT_strict l h.2)
    exact h.1 (by rw [e]; exact List.mem_map.2 ⟨x, (sortT_perm l).mem_iff.1 hx, rfl⟩)
theorem F0_strict (f : List Nat) : Strict (F0 f) := by
  refine sortT_strict _ ?_
  unfold leaves
  rw [List.map_map]
  have : (T.n ∘ fun i => T.leaf i (f.getD i 0)) = id := rfl
  rw [this, List.map_id]
  exact S0_nodup f
/-- the least tree is the sorted forest's first -/
theorem first_is {l rest : List T} {a x : T} (hp : l.Perm (a :: rest)) (hs : (a :: rest).Pairwise T.lt) (hx : x ∈ l) (hm : ∀ y ∈ l, ¬ T.lt y x) : x = a := by
  rcases List.mem_cons.1 (hp.mem_iff.1 hx) with h | h
  · exact h
  · exact absurd ((List.pairwise_cons.1 hs).1 x h) (hm a (hp.mem_iff.2 (by simp)))
theorem erase_perm {α : Type} (l : List α) (k : Nat) (h : k < l.length) : l.Perm (l[k] :: l.eraseIdx k) := by
  have e1 : l = l.take k ++ l[k] :: l.drop (k + 1) := by rw [← List.drop_eq_getElem_cons h, List.take_append_drop]
  have e2 : l.eraseIdx k = l.take k ++ l.drop (k + 1) := List.eraseIdx_eq_take_drop_succ ..
  rw [e2]
  conv => lhs; rw [e1]
  exact List.perm_middle
theorem step_weight (F : List T) : sm T.w (stepT F) = sm T.w F := by
  unfold stepT
  split
  · rename_i a b r
    rw [sm_perm _ (ins_perm _ _)]
    simp only [sm, T.w]; omega
  · rfl
theorem build_len {a b : T} {r : List T} : build (a :: b :: r).length (a :: b :: r) = build (stepT (a :: b :: r)).length (stepT (a :: b :: r)) := by
  rw [step_length, if_pos (by simp)]
  rfl
theorem build_short {F : List T} (h : F.length ≤ 1) : build F.length F = F := by
  match F, h with
  | [], _ => rfl
  | [t], _ => rfl
/-- a forest on the way from f's leaves -/
structure Way (f : List Nat) (F : List T) : Prop where
  grove : Grove (fun i => f.getD i 0) F
  strict : Strict F
  syms : (syms F).Perm (S0 f)
  weight : sm T.w F = tot f
  goal : build F.length F = build (S0 f).length (F0 f)
theorem F0_weight (f : List Nat) : sm T.w (F0 f) = tot f := by
  unfold F0 tot
  rw [sm_perm _ (sortT_perm _)]
  unfold leaves
  rw [sm_map]; rfl
theorem way_start (f : List Nat) : Way f (F0 f) := ⟨F0_grove f, F0_strict f, F0_syms f, F0_weight f, by rw [F0_length]⟩
theorem way_step {f : List Nat} {a b : T} {r : List T} (h : Way f (a :: b :: r)) : Way f (ins (.node a b) r) :=
  ⟨h.grove.step, step_strict h.strict, (step_syms (a :: b :: r)).trans h.syms, (step_weight (a :: b :: r)).trans h.weight, build_len.symm.trans h.goal⟩
theorem way_end {f : List Nat} {F : List T} (h : Way f F) (hl : F.length ≤ 1) (h1 : (S0 f).length ≠ 1) (i : Nat) : dep F i = once f i := by
  have := h.goal
  rw [build_short hl] at this
  unfold once
  rw [if_neg h1, ← this]
theorem tot_le {f : List Nat} (hm : ∀ i, f.getD i 0 ≤ 100000) (hn : f.length ≤ 300) : tot f ≤ 30000000 := by
  have h1 : tot f ≤ sm (fun _ => 100000) (S0 f) := sm_le fun i _ => hm i
  rw [sm_const] at h1
  have h3 : (S0 f).length ≤ f.length := by
    unfold S0; refine Nat.le_trans (List.length_filter_le _ _) ?_; rw [List.length_range]; exact Nat.le_refl _
  have : (S0 f).length * 100000 ≤ 300 * 100000 := Nat.mul_le_mul_right _ (by omega)
  omega
/-- one more at each of these places -/
def plus (D : List Nat) : List Nat → List Nat
  | [] => D
  | i :: l => plus (D.set i (D.getD i 0 + 1)) l
theorem plus_length : ∀ (l D : List Nat), (plus D l).length = D.length
  | [], _ => rfl
  | i :: l, D => by unfold plus; rw [plus_length l, List.length_set]
theorem plus_snoc : ∀ (l D : List Nat) (i : Nat), plus D (l ++ [i]) = (plus D l).set i ((plus D l).getD i 0 + 1)
  | [], _, _ => rfl
  | j :: l, D, i => by rw [List.cons_append, plus, plus, plus_snoc l]
theorem plus_get : ∀ (l D : List Nat) (i : Nat), l.Nodup → i < D.length → (plus D l).getD i 0 = D.getD i 0 + (if i ∈ l then 1 else 0)
  | [], D, i, _, _ => by simp [plus]
  | j :: l, D, i, hn, hi => by
    obtain ⟨h1, h2⟩ := List.nodup_cons.1 hn
    unfold plus
    rw [plus_get l _ i h2 (by rw [List.length_set]; exact hi)]
    have hs : (D.set j (D.getD j 0 + 1)).getD i 0 = if j = i then D.getD j 0 + 1 else D.getD i 0 := by
      rw [List.getD_eq_getElem?_getD, List.getElem?_set]
      split
      · rename_i e; subst e; rw [if_pos hi]; rfl
      · rw [List.getD_eq_getElem?_getD]
    rw [hs]
    by_cases e : j = i
    · subst e
      rw [if_pos rfl, if_neg h1, if_pos (by simp)]
    · rw [if_neg e]
      by_cases hm : i ∈ l
      · rw [if_pos hm, if_pos (by simp [hm])]
      · rw [if_neg hm, if_neg (by simp [hm, Ne.symm e])]
theorem depths_step {n : Nat} {a b : T} {r : List T} (hn : (a.syms ++ b.syms).Nodup) : plus ((List.range n).map (dep (a :: b :: r))) (a.syms ++ b.syms) = (List.range n).map (dep (ins (.node a b) r)) := by
  refine List.ext_getElem (by rw [plus_length, List.length_map, List.length_map]) fun i h1 h2 => ?_
  have hi : i < n := by simpa using h2
  have e := plus_get (a.syms ++ b.syms) ((List.range n).map (dep (a :: b :: r))) i hn (by simpa using hi)
  have e2 : dep (ins (.node a b) r) i = dep (a :: b :: r) i + (if i ∈ a.syms ++ b.syms then 1 else 0) := step_dep a b r i
  rw [List.getD_eq_getElem?_getD, List.getElem?_eq_getElem h1] at e
  simp only [Option.getD_some] at e
  rw [e]
  simp [hi, e2]
end Go.Proofs.Ythehjhckcblbdaa.Hf
/-
  Maths of the laws on lengths: what is full, what costs the least, what is rare, even, and once more often. No condition.
-/
namespace Go.Proofs.Ythehjhckcblbdaa.Hf
set_option maxRecDepth 100000
def costN (f l : List Nat) : Nat := sm (fun i => f.getD i 0 * l.getD i 0) (List.range f.length)
def kraftN (l : List Nat) : Nat := sm (fun i => if 1 ≤ l.getD i 0 then 2 ^ (15 - l.getD i 0) else 0) (List.range l.length)
theorem lens_length (f : List Nat) : (lens f).length = f.length := by unfold lens; simp
theorem lens_get (f : List Nat) (i : Nat) : (lens f).getD i 0 = once (lastF f) i := by
  rw [List.getD_eq_getElem?_getD]
  by_cases h : i < f.length
  · rw [List.getElem?_eq_getElem (by rw [lens_length]; exact h)]
    unfold lens
    simp
  · rw [List.getElem?_eq_none (by rw [lens_length]; omega), once_none (fun k => by
      have := (S0_mem.1 k).1; rw [last_length] at this; exact h this)]
    rfl
theorem lens_there {f : List Nat} {i : Nat} : 1 ≤ (lens f).getD i 0 ↔ i ∈ S0 f := by
  rw [lens_get, ← last_S0]
  constructor
  · intro h
    refine Classical.byContradiction fun k => ?_
    rw [once_none k] at h; omega
  · exact once_pos
theorem lens_le {f : List Nat} (hn : f.length ≤ 300) (i : Nat) : (lens f).getD i 0 ≤ 15 := by rw [lens_get]; exact not_deep (last_not hn) i
theorem sm_part {g : Nat → Nat} {p : Nat → Bool} : ∀ (l : List Nat), (∀ i ∈ l, p i = false → g i = 0) → sm g l = sm g (l.filter p)
  | [], _ => rfl
  | x :: l, h => by
    have ih := sm_part l fun i hi => h i (by simp [hi])
    rw [List.filter_cons]
    cases hp : p x with
    | true => rw [if_pos rfl]; simp only [sm, ih]
    | false => rw [if_neg (by simp)]; simp only [sm]; rw [h x (by simp) hp, ih, Nat.zero_add]
theorem sm_S0 {f : List Nat} {g : Nat → Nat} (h : ∀ i, i < f.length → i ∉ S0 f → g i = 0) : sm g (List.range f.length) = sm g (S0 f) := by
  unfold S0
  refine sm_part _ fun i hi hp => ?_
  refine h i (List.mem_range.1 hi) fun k => ?_
  have := (S0_mem.1 k).2
  simp at hp
  rw [List.getD_eq_getElem?_getD] at this
  omega
theorem cost_S0 (f l : List Nat) : costN f l = sm (fun i => f.getD i 0 * l.getD i 0) (S0 f) := by
  unfold costN
  refine sm_S0 fun i hi hk => ?_
  have : f.getD i 0 = 0 := by
    refine Nat.eq_zero_of_not_pos fun h => hk (S0_mem.2 ⟨hi, h⟩)
  rw [this, Nat.zero_mul]
/-- the codes fill all there is -/
theorem kraft_lens {f : List Nat} (hn : f.length ≤ 300) : kraftN (lens f) = if 2 ≤ (S0 f).length then 32768 else 16384 * (S0 f).length := by
  unfold kraftN
  rw [lens_length, sm_S0 (f := f) fun i _ hk => if_neg fun k => hk (lens_there.1 k)]
  rw [sm_congr (h := fun i => 2 ^ (15 - once (lastF f) i)) fun i hi => by rw [if_pos (lens_there.2 hi), lens_get], ← last_S0]
  split
  · rename_i h
    rw [full h (M := 15) fun i _ => not_deep (last_not hn) i]
  · rename_i h
    by_cases h1 : (S0 (lastF f)).length = 1
    · rw [full_one h1, h1]
    · have h0 : S0 (lastF f) = [] := List.length_eq_zero_iff.1 (by omega)
      rw [h0]; rfl
/-- none cost less -/
theorem least_cost {f l : List Nat} (hd : deep f = false) (hl : l.length = f.length) (h1 : ∀ i, i < f.length → l.getD i 0 ≤ 15) (h2 : ∀ i, i < f.length → 0 < f.getD i 0 → 1 ≤ l.getD i 0) (hk : kraftN l ≤ 32768) : costN f (lens f) ≤ costN f l := by
  rw [cost_S0, cost_S0, sm_congr (h := fun i => f.getD i 0 * once f i) fun i _ => by rw [lens_get, last_same hd]]
  refine opt f (fun i => l.getD i 0) 15 (fun i hi => ⟨h2 i (S0_mem.1 hi).1 (S0_mem.1 hi).2, h1 i (S0_mem.1 hi).1⟩) (Nat.le_trans ?_ hk)
  rw [sm_congr (h := fun i => if 1 ≤ l.getD i 0 then 2 ^ (15 - l.getD i 0) else 0) fun i hi => by rw [if_pos (h2 i (S0_mem.1 hi).1 (S0_mem.1 hi).2)]]
  unfold kraftN S0
  rw [hl]
  exact sm_filter _
theorem rare_lens {f : List Nat} (hd : deep f = false) {a b : Nat} (ha : a < f.length) (hb : b < f.length) (h : f.getD b 0 < f.getD a 0) (h0 : 0 < f.getD b 0) : (lens f).getD a 0 ≤ (lens f).getD b 0 := by
  rw [lens_get, lens_get, last_same hd]
  exact rare (S0_mem.2 ⟨ha, by omega⟩) (S0_mem.2 ⟨hb, h0⟩) h
theorem deep_more (f : List Nat) : deep (f ++ [0]) = deep f := by
  unfold deep
  rw [more, List.length_append, List.length_singleton, List.range_succ, List.any_append]
  have : once f f.length = 0 := once_none fun k => by have := (S0_mem.1 k).1; omega
  simp [this]
theorem half_more (f : List Nat) : half (f ++ [0]) = half f ++ [0] := by unfold half; simp
theorem S0_more (f : List Nat) : S0 (f ++ [0]) = S0 f ∧ ∀ i, (f ++ [0]).getD i 0 = f.getD i 0 := by
  have hg : ∀ i, (f ++ [0]).getD i 0 = f.getD i 0 := fun i => by
    rw [List.getD_eq_getElem?_getD, List.getD_eq_getElem?_getD]
    by_cases h : i < f.length
    · rw [List.getElem?_append_left h]
    · rw [List.getElem?_append_right (by omega), List.getElem?_eq_none (by omega : f.length ≤ i)]
      cases h2 : i - f.length with
      | zero => rfl
      | succ n => rfl
  refine ⟨?_, hg⟩
  unfold S0
  rw [List.length_append, List.length_singleton, List.range_succ, List.filter_append]
  rw [List.filter_congr (q := fun i => decide (0 < f.getD i 0)) (fun i _ => by rw [hg])]
  simp
theorem tot_more (f : List Nat) : tot (f ++ [0]) = tot f := by
  unfold tot
  rw [(S0_more f).1]
  exact sm_congr fun i _ => (S0_more f).2 i
theorem fin_cons : ∀ (k : Nat) (f : List Nat), fin k (f ++ [0]) = fin k f ++ [0]
  | 0, _ => rfl
  | k + 1, f => by
    unfold fin
    rw [deep_more]
    split
    · rw [half_more]; exact fin_cons k (half f)
    · rfl
/-- what is not there changes nothing -/
theorem lens_more (f : List Nat) : lens (f ++ [0]) = lens f ++ [0] := by
  have h : lastF (f ++ [0]) = lastF f ++ [0] := by unfold lastF; rw [tot_more, fin_cons]
  have h0 : once (lastF f) f.length = 0 := once_none fun k => by have := (S0_mem.1 k).1; rw [last_length] at this; omega
  unfold lens
  rw [h, more, List.length_append, List.length_singleton, List.range_succ, List.map_append, List.map_singleton, h0]
theorem even_not {c k : Nat} (hc : 1 ≤ c) (hk : 1 ≤ k) (h8 : k ≤ 8) : deep (List.replicate (2 ^ k) c) = false := by
  unfold deep
  refine List.any_eq_false.2 fun i hi => ?_
  have := even c k hc hk i (by have := List.mem_range.1 hi; rwa [List.length_replicate] at this)
  rw [this]
  simp; omega
theorem even_lens {c k : Nat} (hc : 1 ≤ c) (hk : 1 ≤ k) (h8 : k ≤ 8) : lens (List.replicate (2 ^ k) c) = List.replicate (2 ^ k) k := by
  unfold lens
  rw [last_same (even_not hc hk h8), List.length_replicate]
  refine List.ext_getElem (by simp) fun i h1 h2 => ?_
  rw [List.getElem_map, List.getElem_replicate, List.getElem_range]
  exact even c k hc hk i (by simpa using h1)
theorem even_cost {c k : Nat} : costN (List.replicate (2 ^ k) c) (List.replicate (2 ^ k) k) = 2 ^ k * k * c := by
  unfold costN
  rw [List.length_replicate, sm_congr (h := fun _ => c * k) fun i hi => by
    have := List.mem_range.1 hi
    simp [this]]
  rw [sm_const, List.length_range, Nat.mul_assoc, Nat.mul_comm c k]
/-- once more often: not less -/
theorem steps_cost {f : List Nat} {i : Nat} (hd : deep f = false) (hd2 : deep (f.set i (f.getD i 0 + 1)) = false) : costN f (lens f) ≤ costN (f.set i (f.getD i 0 + 1)) (lens (f.set i (f.getD i 0 + 1))) := by
  rw [cost_S0, cost_S0, sm_congr (h := fun j => f.getD j 0 * once f j) fun j _ => by rw [lens_get, last_same hd],
    sm_congr (g := fun j => (f.set i (f.getD i 0 + 1)).getD j 0 * (lens (f.set i (f.getD i 0 + 1))).getD j 0) (h := fun j => (f.set i (f.getD i 0 + 1)).getD j 0 * once (f.set i (f.getD i 0 + 1)) j) fun j _ => by rw [lens_get, last_same hd2]]
  refine steps (by rw [List.length_set]) fun j => ?_
  rw [List.getD_eq_getElem?_getD, List.getD_eq_getElem?_getD, List.getElem?_set]
  split
  · rename_i e
    subst e
    split
    · show _ ≤ f.getD i 0 + 1
      rw [List.getD_eq_getElem?_getD]; omega
    · rename_i h; rw [List.getElem?_eq_none (by omega)]; exact Nat.le_refl _
  · exact Nat.le_refl _
theorem cost_le {f l : List Nat} (hn : f.length ≤ 300) (h1 : ∀ i, f.getD i 0 ≤ 100000) (h2 : ∀ i, l.getD i 0 ≤ 15) : costN f l ≤ 450000000 := by
  have : costN f l ≤ sm (fun _ => 100000 * 15) (List.range f.length) := sm_le fun i _ => Nat.mul_le_mul (h1 i) (h2 i)
  rw [sm_const, List.length_range] at this
  have := Nat.mul_le_mul_right (100000 * 15) hn
  omega
theorem kraft_le {l : List Nat} (hn : l.length ≤ 300) : kraftN l ≤ 4915200 := by
  have : kraftN l ≤ sm (fun _ => 16384) (List.range l.length) := sm_le fun i _ => by
    split
    · exact Nat.le_trans (Nat.pow_le_pow_right (by decide) (by omega : 15 - l.getD i 0 ≤ 14)) (by decide)
    · exact Nat.zero_le _
  rw [sm_const, List.length_range] at this
  have := Nat.mul_le_mul_right 16384 hn
  omega
theorem fx1 : lens [3, 1, 1, 0] = [1, 2, 2, 0] := by decide +kernel
theorem fx2 : lens [0, 5] = [0, 1] := by decide +kernel
theorem fx3 : costN [3, 1, 1] [1, 2, 2] = 7 := by decide +kernel
theorem fx4 : kraftN [1, 2, 2, 0] = 32768 := by decide +kernel
end Go.Proofs.Ythehjhckcblbdaa.Hf
