import PyProof.Rows.All
import Wide.All
import OpenK.AllK
import Wide.FinOn
import HandS.ForMost
import HandS.Codes
import HandS.More
import HandS.IsInst
import HandS.CallLocal
import HandS.DictComp
import HandS.Conv
import HandS.SortInts
import HandS.Zip
import HandS.Walk
import HandS.Rev
import HandS.Ends
import PySem.Challenge.RW_leasttiles_k42_moves_at_once
set_option linter.all false
namespace K0
abbrev Pr := List (Nat × Nat)
def ks (l : Pr) : List Nat := l.map (·.1)
def sr (l : Pr) : List Nat := l.map (·.2)
def cnt (l : Pr) (x : Nat) : Nat := (sr l).count x
def step (W : Nat → Int) (p : Nat × Nat) : Nat → Int := fun r => if r = p.1 then W p.2 else W r
def runM (W : Nat → Int) (l : Pr) : Nat → Int := l.foldl step W
/-- no move reads what an earlier one gave -/
def OrdR (l : Pr) : Prop := ∀ a b p q, l = a ++ p :: b → q ∈ a → q.1 ≠ p.2
theorem mem_ks {l : Pr} {x : Nat} : x ∈ ks l ↔ ∃ y, (x, y) ∈ l := by
  unfold ks
  constructor
  · intro h
    obtain ⟨p, hp, rfl⟩ := List.mem_map.mp h
    exact ⟨p.2, hp⟩
  · rintro ⟨y, h⟩
    exact List.mem_map.mpr ⟨(x, y), h, rfl⟩
theorem mem_sr {l : Pr} {y : Nat} : y ∈ sr l ↔ ∃ x, (x, y) ∈ l := by
  unfold sr
  constructor
  · intro h
    obtain ⟨p, hp, rfl⟩ := List.mem_map.mp h
    exact ⟨p.1, hp⟩
  · rintro ⟨y, h⟩
    exact List.mem_map.mpr ⟨(y, _), h, rfl⟩
theorem ks_app (a b : Pr) : ks (a ++ b) = ks a ++ ks b := List.map_append
theorem sr_app (a b : Pr) : sr (a ++ b) = sr a ++ sr b := List.map_append
theorem fn {l : Pr} (nd : (ks l).Nodup) {x y z : Nat} (h1 : (x, y) ∈ l) (h2 : (x, z) ∈ l) : y = z := by
  induction l with
  | nil => cases h1
  | cons p r ih =>
    have nd' : (p.1 :: ks r).Nodup := nd
    obtain ⟨n1, n2⟩ := List.nodup_cons.mp nd'
    rcases List.mem_cons.mp h1 with e1 | m1
    · rcases List.mem_cons.mp h2 with e2 | m2
      · rw [← e1] at e2
        exact (Prod.mk.inj e2).2.symm
      · rw [← e1] at n1
        exact absurd (mem_ks.mpr ⟨z, m2⟩) n1
    · rcases List.mem_cons.mp h2 with e2 | m2
      · rw [← e2] at n1
        exact absurd (mem_ks.mpr ⟨y, m1⟩) n1
      · exact ih n2 m1 m2
theorem runM_app (W : Nat → Int) (a b : Pr) : runM W (a ++ b) = runM (runM W a) b := List.foldl_append
theorem OrdR.left {a b : Pr} (h : OrdR (a ++ b)) : OrdR a := fun c d p q e hq => h c (d ++ b) p q (by rw [e, List.append_assoc]; rfl) hq
/-- what moves in such an order do -/
theorem runM_ord (W : Nat → Int) : ∀ (n : Nat) (l : Pr), l.length = n → OrdR l → (ks l).Nodup → (∀ x y, (x, y) ∈ l → runM W l x = W y) ∧ ∀ x, x ∉ ks l → runM W l x = W x := by
  intro n
  induction n with
  | zero =>
    intro l hl _ _
    cases l with
    | nil => exact ⟨fun x y h => (by cases h), fun x _ => rfl⟩
    | cons p r => simp at hl
  | succ n ih =>
    intro l hl o nd
    have hne : l ≠ [] := by intro e; rw [e] at hl; simp at hl
    have el := (List.dropLast_concat_getLast hne).symm
    generalize l.dropLast = a at el
    generalize l.getLast hne = p at el
    subst el
    have la : a.length = n := by rw [List.length_append] at hl; simp at hl; exact hl
    rw [ks_app] at nd
    obtain ⟨nda, _, dis⟩ := List.nodup_append.mp nd
    obtain ⟨i1, i2⟩ := ih a la o.left nda
    have e : runM W (a ++ [p]) = step (runM W a) p := by rw [runM_app]; rfl
    have hs : p.2 ∉ ks a := by
      intro h
      obtain ⟨y, hy⟩ := mem_ks.mp h
      exact o a [] p (p.2, y) rfl hy rfl
    constructor
    · intro x y h
      rw [e]
      unfold step
      rcases List.mem_append.mp h with h | h
      · have hx : x ≠ p.1 := fun z => dis x (mem_ks.mpr ⟨y, h⟩) p.1 (by simp [ks]) z
        rw [if_neg hx]
        exact i1 x y h
      · have ep : (x, y) = p := List.mem_singleton.mp h
        rw [← ep]
        rw [← ep] at hs
        rw [if_pos rfl]
        exact i2 y hs
    · intro x hx
      rw [ks_app] at hx
      have h1 : x ∉ ks a := fun z => hx (List.mem_append_left _ z)
      have h2 : x ≠ p.1 := fun z => hx (List.mem_append_right _ (by simp [ks, z]))
      rw [e]
      unfold step
      rw [if_neg h2]
      exact i2 x h1
/-- links from a to b -/
def Chn : Pr → Nat → Nat → Prop
  | [], a, b => a = b
  | p :: t, a, b => p.1 = a ∧ Chn t p.2 b
def IsRing (r : Pr) : Prop := ∃ a, r ≠ [] ∧ Chn r a a
theorem Chn.app : ∀ {l m : Pr} {a b c : Nat}, Chn l a b → Chn m b c → Chn (l ++ m) a c
  | [], m, a, b, c, e, h => by
    have e : a = b := e
    subst e
    exact h
  | p :: t, m, a, b, c, ⟨e, h⟩, h2 => ⟨e, Chn.app h h2⟩
theorem Chn.split : ∀ {l m : Pr} {a c : Nat}, Chn (l ++ m) a c → ∃ b, Chn l a b ∧ Chn m b c
  | [], m, a, c, h => ⟨a, rfl, h⟩
  | p :: t, m, a, c, ⟨e, h⟩ => by
    obtain ⟨b, h1, h2⟩ := Chn.split h
    exact ⟨b, ⟨e, h1⟩, h2⟩
theorem Chn.src : ∀ {l : Pr} {a b : Nat}, Chn l a b → ∀ c d p, l = c ++ p :: d → p.2 ∈ ks d ∨ p.2 = b
  | l, a, b, h, c, d, p, e => by
    subst e
    obtain ⟨m, h1, h2⟩ := Chn.split h
    obtain ⟨_, h3⟩ := h2
    cases d with
    | nil => exact .inr h3
    | cons q r => exact .inl (by rw [show p.2 = q.1 from h3.1.symm]; exact List.mem_cons_self)
/-- a ring by its moves over a spare register -/
def ringMv (spare : Nat) (r : Pr) : Pr := (spare, (r.headD (0, 0)).1) :: r.dropLast ++ [((r.getLastD (0, 0)).1, spare)]
theorem ring_run {r : Pr} {spare : Nat} (W : Nat → Int) (hr : IsRing r) (nd : (ks r).Nodup) (hs : spare ∉ ks r) :
    (∀ x y, (x, y) ∈ r → runM W (ringMv spare r) x = W y) ∧ ∀ x, x ∉ ks r → x ≠ spare → runM W (ringMv spare r) x = W x := by
  obtain ⟨a, hne, ch⟩ := hr
  have el := (List.dropLast_concat_getLast hne).symm
  have e1 : (r.headD (0, 0)).1 = a := by
    cases r with
    | nil => exact absurd rfl hne
    | cons p t => exact ch.1
  have e2 : r.getLastD (0, 0) = r.getLast hne := by
    cases r with
    | nil => exact absurd rfl hne
    | cons p t => simp [List.getLastD]
  unfold ringMv
  rw [e1, e2]
  generalize r.dropLast = i at el
  generalize r.getLast hne = p at el
  subst el
  obtain ⟨z, c1, c2⟩ := Chn.split ch
  obtain ⟨e3, e4⟩ := c2
  have e4 : p.2 = a := e4
  rw [ks_app] at nd hs
  obtain ⟨nd1, _, dis⟩ := List.nodup_append.mp nd
  have hp : p.1 ∉ ks i := fun h => dis _ h _ (by simp [ks]) rfl
  have sp1 : spare ∉ ks i := fun h => hs (List.mem_append_left _ h)
  have sp2 : spare ≠ p.1 := fun h => hs (List.mem_append_right _ (by simp [ks, h]))
  have sp3 : a ≠ spare := by
    intro e
    cases i with
    | nil =>
      have : a = z := c1
      exact sp2 (by rw [← e, this, e3])
    | cons q t => exact sp1 (by rw [← e, ← c1.1]; exact List.mem_cons_self)
  have o : OrdR i := by
    intro c d p' q e hq eq
    rcases Chn.src c1 c d p' e with h | h
    · rw [e, ks_app] at nd1
      obtain ⟨_, _, dd⟩ := List.nodup_append.mp nd1
      have : p'.2 ∈ ks (p' :: d) := List.mem_cons_of_mem _ h
      exact dd q.1 (mem_ks.mpr ⟨q.2, hq⟩) _ this eq
    · rw [h, ← e3] at eq
      exact hp (by rw [← eq, e, ks_app]; exact List.mem_append_left _ (mem_ks.mpr ⟨q.2, hq⟩))
  obtain ⟨r1, r2⟩ := runM_ord (step W (spare, a)) _ i rfl o nd1
  have e : runM W ((spare, a) :: i ++ [(p.1, spare)]) = step (runM (step W (spare, a)) i) (p.1, spare) := by
    rw [runM_app]
    rfl
  have rs : runM (step W (spare, a)) i spare = W a := by
    rw [r2 _ sp1]
    show (if spare = spare then _ else _) = _
    rw [if_pos rfl]
  have nsp : ∀ x y, (x, y) ∈ i → y ≠ spare := by
    intro x y h e'
    obtain ⟨c, d, ecd⟩ := List.append_of_mem h
    rcases Chn.src c1 c d _ ecd with h | h
    · exact sp1 (by rw [ecd, ks_app]; exact List.mem_append_right _ (List.mem_cons_of_mem _ (by rw [← e']; exact h)))
    · exact sp2 (by rw [← e', show y = z from h, e3])
  constructor
  · intro x y h
    rw [e]
    show (if x = p.1 then runM (step W (spare, a)) i spare else _) = _
    rcases List.mem_append.mp h with h | h
    · rw [if_neg (fun ex => hp (by rw [← ex]; exact mem_ks.mpr ⟨y, h⟩)), r1 x y h]
      show (if y = spare then _ else _) = _
      rw [if_neg (nsp x y h)]
    · have ep : (x, y) = p := List.mem_singleton.mp h
      have : x = p.1 := by rw [← ep]
      have hy : y = a := by rw [← e4, ← ep]
      rw [if_pos this, rs, hy]
  · intro x hx hxs
    rw [ks_app] at hx
    have h1 : x ∉ ks i := fun z => hx (List.mem_append_left _ z)
    have h2 : x ≠ p.1 := fun z => hx (List.mem_append_right _ (by simp [ks, z]))
    rw [e]
    show (if x = p.1 then runM (step W (spare, a)) i spare else _) = _
    rw [if_neg h2, r2 _ h1]
    show (if x = spare then _ else _) = _
    rw [if_neg hxs]
/-- rings one after the other -/
def ringsMv (spare : Nat) (R : List Pr) : Pr := R.flatMap (ringMv spare)
theorem rings_run {spare : Nat} : ∀ {R : List Pr} (W : Nat → Int), (∀ r ∈ R, IsRing r) → (ks R.flatten).Nodup → spare ∉ ks R.flatten → spare ∉ sr R.flatten →
    (∀ x y, (x, y) ∈ R.flatten → y ∈ ks R.flatten → runM W (ringsMv spare R) x = W y) ∧ ∀ x, x ∉ ks R.flatten → x ≠ spare → runM W (ringsMv spare R) x = W x
  | [], W, _, _, _, _ => ⟨fun x y h => (by cases h), fun x _ _ => rfl⟩
  | r :: R, W, h, nd, hs, ht => by
    have ef : (r :: R).flatten = r ++ R.flatten := rfl
    rw [ef, ks_app] at nd hs
    rw [ef, sr_app] at ht
    obtain ⟨nd1, nd2, dis⟩ := List.nodup_append.mp nd
    obtain ⟨a1, a2⟩ := ring_run W (h r List.mem_cons_self) nd1 (fun z => hs (List.mem_append_left _ z))
    obtain ⟨b1, b2⟩ := rings_run (R := R) (runM W (ringMv spare r)) (fun q hq => h q (List.mem_cons_of_mem _ hq)) nd2 (fun z => hs (List.mem_append_right _ z)) (fun z => ht (List.mem_append_right _ z))
    have e : runM W (ringsMv spare (r :: R)) = runM (runM W (ringMv spare r)) (ringsMv spare R) := by
      show runM W (ringMv spare r ++ ringsMv spare R) = _
      exact runM_app _ _ _
    rw [e, ef]
    constructor
    · intro x y hxy hy
      rcases List.mem_append.mp hxy with hx | hx
      · have hk := mem_ks.mpr ⟨y, hx⟩
        rw [b2 x (fun z => dis x hk x z rfl) (fun z => hs (List.mem_append_left _ (by rw [← z]; exact hk)))]
        exact a1 x y hx
      · have hk := mem_ks.mpr ⟨y, hx⟩
        obtain ⟨r', hr', hxr⟩ := List.mem_flatten.mp hx
        -- the source stands in the same ring
        have hyR : y ∈ ks R.flatten := by
          obtain ⟨a, hne, ch⟩ := h r' (List.mem_cons_of_mem _ hr')
          obtain ⟨c, d, ecd⟩ := List.append_of_mem hxr
          have : y ∈ ks r' := by
            rcases Chn.src ch c d _ ecd with h | h
            · rw [ecd, ks_app]
              exact List.mem_append_right _ (List.mem_cons_of_mem _ h)
            · rw [show y = a from h]
              cases r' with
              | nil => exact absurd rfl hne
              | cons q t => rw [← ch.1]; exact List.mem_cons_self
          obtain ⟨w, hw⟩ := mem_ks.mp this
          exact mem_ks.mpr ⟨w, List.mem_flatten.mpr ⟨r', hr', hw⟩⟩
        rw [b1 x y hx hyR]
        refine a2 y (fun z => dis y z y hyR rfl) (fun z => ht ?_)
        rw [← z]
        exact List.mem_append_right _ (mem_sr.mpr ⟨x, hx⟩)
    · intro x hx hxs
      rw [ks_app] at hx
      rw [b2 x (fun z => hx (List.mem_append_right _ z)) hxs]
      exact a2 x (fun z => hx (List.mem_append_left _ z)) hxs
theorem ring_len {spare : Nat} {r : Pr} (h : IsRing r) : (ringMv spare r).length = r.length + 1 := by
  obtain ⟨a, hne, _⟩ := h
  unfold ringMv
  cases r with
  | nil => exact absurd rfl hne
  | cons p t => simp
theorem rings_len {spare : Nat} : ∀ {R : List Pr}, (∀ r ∈ R, IsRing r) → (ringsMv spare R).length = R.flatten.length + R.length
  | [], _ => rfl
  | r :: R, h => by
    show (ringMv spare r ++ ringsMv spare R).length = (r ++ R.flatten).length + _
    rw [List.length_append, List.length_append, ring_len (h r List.mem_cons_self), rings_len fun q hq => h q (List.mem_cons_of_mem _ hq), List.length_cons]
    omega
theorem ring_in {r : Pr} (h : IsRing r) {x y : Nat} (hx : (x, y) ∈ r) : y ∈ ks r := by
  obtain ⟨a, hne, ch⟩ := h
  obtain ⟨c, d, ecd⟩ := List.append_of_mem hx
  rcases Chn.src ch c d _ ecd with h | h
  · rw [ecd, ks_app]
    exact List.mem_append_right _ (List.mem_cons_of_mem _ h)
  · rw [show y = a from h]
    cases r with
    | nil => exact absurd rfl hne
    | cons q t => rw [← ch.1]; exact List.mem_cons_self
/-- a set that goes along with the links has the whole ring -/
theorem chn_all {l : Pr} (Z : Nat → Prop) (hz : ∀ x y, (x, y) ∈ l → Z x → Z y) : ∀ {r : Pr} {a b : Nat}, Chn r a b → (∀ p ∈ r, p ∈ l) → Z a → (∀ x ∈ ks r, Z x) ∧ Z b
  | [], a, b, h, _, za => by
    have h : a = b := h
    subst h
    exact ⟨fun x hx => (by cases hx), za⟩
  | p :: t, a, b, ⟨e, h⟩, hl, za => by
    have z1 : Z p.2 := hz p.1 p.2 (hl p List.mem_cons_self) (by rw [e]; exact za)
    obtain ⟨i1, i2⟩ := chn_all Z hz h (fun q hq => hl q (List.mem_cons_of_mem _ hq)) z1
    refine ⟨fun x hx => ?_, i2⟩
    rcases List.mem_cons.mp (show x ∈ p.1 :: ks t from hx) with rfl | hx
    · rw [e]; exact za
    · exact i1 x hx
theorem ring_all {l r : Pr} (Z : Nat → Prop) (hz : ∀ x y, (x, y) ∈ l → Z x → Z y) (hr : IsRing r) (hl : ∀ p ∈ r, p ∈ l) {x : Nat} (hx : x ∈ ks r) (zx : Z x) : ∀ y ∈ ks r, Z y := by
  obtain ⟨a, hne, ch⟩ := hr
  obtain ⟨y, hy⟩ := mem_ks.mp hx
  obtain ⟨c, d, e⟩ := List.append_of_mem hy
  subst e
  obtain ⟨m, c1, c2⟩ := Chn.split ch
  have em : x = m := c2.1
  subst em
  have za := (chn_all Z hz c2 (fun q hq => hl q (List.mem_append_right _ hq)) zx).2
  exact (chn_all Z hz ch hl za).1
/-! the number of rings -/
theorem filt_one {α : Type} (p q : α → Bool) (r0 : α) : ∀ {R : List α}, R.Nodup → (∀ r ∈ R, p r = true → q r = true) → r0 ∈ R → q r0 = true → p r0 = false → (∀ r ∈ R, q r = true → p r = false → r = r0) → (R.filter q).length = (R.filter p).length + 1
  | [], _, _, h, _, _, _ => by cases h
  | r :: R, nd, h1, h2, h3, h4, h5 => by
    obtain ⟨n1, n2⟩ := List.nodup_cons.mp nd
    by_cases e : r = r0
    · subst e
      have same : R.filter q = R.filter p := List.filter_congr fun x hx => by
        cases hp : p x with
        | true => exact h1 x (List.mem_cons_of_mem _ hx) hp
        | false =>
          cases hq : q x with
          | false => rfl
          | true =>
            have := h5 x (List.mem_cons_of_mem _ hx) hq hp
            rw [this] at hx
            exact absurd hx n1
      rw [List.filter_cons, List.filter_cons, h3, h4, same]
      rfl
    · have ih := filt_one p q r0 n2 (fun x hx => h1 x (List.mem_cons_of_mem _ hx)) ((List.mem_cons.mp h2).resolve_left fun z => e z.symm) h3 h4 fun x hx => h5 x (List.mem_cons_of_mem _ hx)
      rw [List.filter_cons, List.filter_cons]
      cases hp : p r with
      | true =>
        rw [h1 r List.mem_cons_self hp]
        simp [ih]
      | false =>
        cases hq : q r with
        | false => simpa using ih
        | true => exact absurd (h5 r List.mem_cons_self hq hp) e
/-- rings that hold all that goes round -/
structure Rings (l : Pr) (R : List Pr) : Prop where
  ring : ∀ r ∈ R, IsRing r
  sub : ∀ p ∈ R.flatten, p ∈ l
  nd : (ks R.flatten).Nodup
  all : ∀ Z : Nat → Prop, (∀ z, Z z → z ∈ ks l ∧ ∃ y, Z y ∧ (y, z) ∈ l) → ∀ z, Z z → z ∈ ks R.flatten
theorem Rings.one {l : Pr} {R : List Pr} (h : Rings l R) {r s : Pr} {x : Nat} (hr : r ∈ R) (hs : s ∈ R) (h1 : x ∈ ks r) (h2 : x ∈ ks s) : r = s := by
  have nd := h.nd
  clear h
  induction R with
  | nil => cases hr
  | cons t R ih =>
    have nd' : (ks (t ++ R.flatten)).Nodup := nd
    rw [ks_app] at nd'
    obtain ⟨_, n2, dis⟩ := List.nodup_append.mp nd'
    have inF : ∀ {u : Pr}, u ∈ R → x ∈ ks u → x ∈ ks R.flatten := fun {u} hu hx => by
      obtain ⟨y, hy⟩ := mem_ks.mp hx
      exact mem_ks.mpr ⟨y, List.mem_flatten.mpr ⟨u, hu, hy⟩⟩
    rcases List.mem_cons.mp hr with e1 | m1
    · rcases List.mem_cons.mp hs with e2 | m2
      · rw [e1, e2]
      · rw [e1] at h1
        exact absurd rfl (dis x h1 x (inF m2 h2))
    · rcases List.mem_cons.mp hs with e2 | m2
      · rw [e2] at h2
        exact absurd rfl (dis x h2 x (inF m1 h1))
      · exact ih m1 m2 n2
theorem Rings.nodup {l : Pr} {R : List Pr} (h : Rings l R) : R.Nodup := by
  have ring := h.ring
  have nd := h.nd
  clear h
  induction R with
  | nil => exact List.nodup_nil
  | cons t R ih =>
    have nd' : (ks (t ++ R.flatten)).Nodup := nd
    rw [ks_app] at nd'
    obtain ⟨_, n2, dis⟩ := List.nodup_append.mp nd'
    refine List.nodup_cons.mpr ⟨fun ht => ?_, ih (fun r hr => ring r (List.mem_cons_of_mem _ hr)) n2⟩
    obtain ⟨a, hne, _⟩ := ring t List.mem_cons_self
    cases t with
    | nil => exact absurd rfl hne
    | cons p u => exact dis p.1 List.mem_cons_self p.1 (mem_ks.mpr ⟨p.2, List.mem_flatten.mpr ⟨_, ht, List.mem_cons_self⟩⟩) rfl
def seenIn (S : List Nat) (r : Pr) : Bool := (ks r).all fun x => decide (x ∈ S)
theorem seenIn_iff {S : List Nat} {r : Pr} : seenIn S r = true ↔ ∀ x ∈ ks r, x ∈ S := by
  unfold seenIn
  rw [List.all_eq_true]
  exact ⟨fun h x hx => of_decide_eq_true (h x hx), fun h x hx => decide_eq_true (h x hx)⟩
def Closed (l : Pr) (S : List Nat) : Prop := ∀ x y, (x, y) ∈ l → y ∈ ks l → x ∈ S → y ∈ S
/-- the way as it is gone: each node to the next one, the last one to here -/
def Way (l : Pr) : List Nat → Nat → Prop
  | [], _ => True
  | [x], h => (x, h) ∈ l
  | x :: y :: t, h => (x, y) ∈ l ∧ Way l (y :: t) h
theorem Way.snoc {l : Pr} : ∀ {w : List Nat} {h z : Nat}, Way l w h → (h, z) ∈ l → Way l (w ++ [h]) z
  | [], h, z, _, e => e
  | [x], h, z, a, e => ⟨a, e⟩
  | x :: y :: t, h, z, ⟨a, b⟩, e => ⟨a, Way.snoc (w := y :: t) b e⟩
/-- who stands in the way is followed by who stands in it, or by here -/
theorem Way.next {l : Pr} : ∀ {w : List Nat} {h x : Nat}, Way l w h → x ∈ w → ∃ y, (x, y) ∈ l ∧ (y ∈ w ∨ y = h)
  | [], h, x, _, hx => by cases hx
  | [x], h, z, a, hz => by
    rw [List.mem_singleton.mp hz]
    exact ⟨h, a, .inr rfl⟩
  | x :: y :: t, h, z, ⟨a, b⟩, hz => by
    rcases List.mem_cons.mp hz with rfl | hz
    · exact ⟨y, a, .inl (List.mem_cons_of_mem _ List.mem_cons_self)⟩
    · obtain ⟨u, h1, h2⟩ := Way.next (w := y :: t) b hz
      exact ⟨u, h1, h2.imp (List.mem_cons_of_mem _) id⟩
/-- whoever goes along comes to here -/
theorem Way.end {l : Pr} (Z : Nat → Prop) (hz : ∀ x y, (x, y) ∈ l → Z x → Z y) : ∀ {w : List Nat} {h x : Nat}, Way l w h → x ∈ w → Z x → Z h
  | [], h, x, _, hx, _ => by cases hx
  | [x], h, z, a, hx, zx => by
    rw [List.mem_singleton.mp hx] at zx
    exact hz _ _ a zx
  | x :: y :: t, h, z, ⟨a, b⟩, hx, zx => by
    rcases List.mem_cons.mp hx with rfl | hx
    · exact Way.end Z hz (w := y :: t) b List.mem_cons_self (hz _ _ a zx)
    · exact Way.end Z hz (w := y :: t) b hx zx
/-- from a node of the way on, all but the first have one ahead of them -/
theorem Way.drop {l : Pr} : ∀ {w : List Nat} {h x : Nat}, Way l w h → x ∈ w → ∃ u, Way l (x :: u) h ∧ ∀ y ∈ x :: u, y ∈ w
  | [], h, x, _, hx => by cases hx
  | [x], h, z, a, hz => by
    rw [List.mem_singleton.mp hz]
    exact ⟨[], a, fun y hy => hy⟩
  | x :: y :: t, h, z, ⟨a, b⟩, hz => by
    rcases List.mem_cons.mp hz with rfl | hz
    · exact ⟨y :: t, ⟨a, b⟩, fun y hy => hy⟩
    · obtain ⟨u, h1, h2⟩ := Way.drop (w := y :: t) b hz
      exact ⟨u, h1, fun q hq => List.mem_cons_of_mem _ (h2 q hq)⟩
theorem Way.pred {l : Pr} : ∀ {w : List Nat} {h x : Nat}, Way l (x :: w) h → (∀ z ∈ w, ∃ y ∈ x :: w, (y, z) ∈ l) ∧ ∃ y ∈ x :: w, (y, h) ∈ l
  | [], h, x, a => ⟨fun z hz => (by cases hz), x, List.mem_cons_self, a⟩
  | y :: t, h, x, ⟨a, b⟩ => by
    obtain ⟨h1, q, h2, h3⟩ := Way.pred (w := t) b
    refine ⟨fun z hz => ?_, q, List.mem_cons_of_mem _ h2, h3⟩
    rcases List.mem_cons.mp hz with rfl | hz
    · exact ⟨x, List.mem_cons_self, a⟩
    · obtain ⟨u, h4, h5⟩ := h1 z hz
      exact ⟨u, List.mem_cons_of_mem _ h4, h5⟩
/-- what one turn of the law's count does -/
theorem turn_count {l : Pr} {R : List Pr} (hR : Rings l R) (nd : (ks l).Nodup) {S w : List Nat} {h : Nat} (cl : Closed l S) (way : Way l w h) (hw : ∀ x ∈ w, x ∈ ks l ∧ x ∉ S) (stop : ¬ (h ∈ ks l ∧ h ∉ w ∧ h ∉ S)) {S' : List Nat} (hS : ∀ x, x ∈ S' ↔ x ∈ S ∨ x ∈ w) :
    Closed l S' ∧ (R.filter (seenIn S')).length = (R.filter (seenIn S)).length + if h ∈ w then 1 else 0 := by
  have ringl : ∀ r ∈ R, ∀ p ∈ r, p ∈ l := fun r hr p hp => hR.sub p (List.mem_flatten.mpr ⟨r, hr, hp⟩)
  have ksl : ∀ r ∈ R, ∀ x ∈ ks r, x ∈ ks l := fun r hr x hx => by
    obtain ⟨y, hy⟩ := mem_ks.mp hx
    exact mem_ks.mpr ⟨y, ringl r hr _ hy⟩
  refine ⟨fun x y hxy hy hx => ?_, ?_⟩
  · rw [hS] at hx ⊢
    rcases hx with hx | hx
    · exact .inl (cl x y hxy hy hx)
    · obtain ⟨z, h1, h2⟩ := way.next hx
      have := fn nd hxy h1
      subst this
      rcases h2 with h2 | rfl
      · exact .inr h2
      · by_cases a : y ∈ w
        · exact .inr a
        · by_cases b : y ∈ S
          · exact .inl b
          · exact absurd ⟨hy, a, b⟩ stop
  · -- a ring that becomes seen has here in it
    have key : ∀ r ∈ R, seenIn S' r = true → seenIn S r = false → h ∈ ks r ∧ h ∈ w := by
      intro r hr h1 h2
      have h1 := seenIn_iff.mp h1
      have nS : ∀ x ∈ ks r, x ∉ S := by
        intro x hx hxS
        have : seenIn S r = true := seenIn_iff.mpr fun y hy => by
          have := ring_all (fun z => z ∈ S ∧ z ∈ ks r) (l := r) (fun a b hab ⟨s1, s2⟩ => by
            have hb := ring_in (hR.ring r hr) hab
            exact ⟨cl a b (ringl r hr _ hab) (ksl r hr b hb) s1, hb⟩) (hR.ring r hr) (fun p hp => hp) hx ⟨hxS, hx⟩ y hy
          exact this.1
        rw [this] at h2
        cases h2
      obtain ⟨a, hne, _⟩ := hR.ring r hr
      obtain ⟨x, hx⟩ : ∃ x, x ∈ ks r := by
        cases r with
        | nil => exact absurd rfl hne
        | cons p t => exact ⟨p.1, List.mem_cons_self⟩
      have hxw : x ∈ w := ((hS x).mp (h1 x hx)).resolve_left (nS x hx)
      have hh : h ∈ ks r := Way.end (fun z => z ∈ ks r) (fun a b hab ha => by
        obtain ⟨y, hy⟩ := mem_ks.mp ha
        have := fn nd hab (ringl r hr _ hy)
        subst this
        exact ring_in (hR.ring r hr) hy) way hxw hx
      exact ⟨hh, ((hS h).mp (h1 h hh)).resolve_left (nS h hh)⟩
    have mono : ∀ r ∈ R, seenIn S r = true → seenIn S' r = true := fun r _ h => seenIn_iff.mpr fun x hx => (hS x).mpr (.inl (seenIn_iff.mp h x hx))
    by_cases hin : h ∈ w
    · rw [if_pos hin]
      obtain ⟨u, wu, hu⟩ := way.drop hin
      obtain ⟨p1, p2⟩ := wu.pred
      have hz : ∀ z ∈ h :: u, z ∈ ks R.flatten := hR.all (fun z => z ∈ h :: u) fun z hz => by
        refine ⟨(hw z (hu z hz)).1, ?_⟩
        rcases List.mem_cons.mp hz with rfl | hz
        · obtain ⟨y, a, b⟩ := p2
          exact ⟨y, a, b⟩
        · obtain ⟨y, a, b⟩ := p1 z hz
          exact ⟨y, a, b⟩
      obtain ⟨v, hv⟩ := mem_ks.mp (hz h List.mem_cons_self)
      obtain ⟨r0, hr0, hv0⟩ := List.mem_flatten.mp hv
      have hk : h ∈ ks r0 := mem_ks.mpr ⟨v, hv0⟩
      refine filt_one (seenIn S) (seenIn S') r0 hR.nodup mono hr0 (seenIn_iff.mpr fun x hx => (hS x).mpr (.inr ?_)) ?_ fun r hr h1 h2 => hR.one hr hr0 (key r hr h1 h2).1 hk
      · refine hu x (ring_all (fun z => z ∈ h :: u) (l := l) (fun a b hab ha => ?_) (hR.ring r0 hr0) (ringl r0 hr0) hk List.mem_cons_self x hx)
        obtain ⟨z, h1, h2⟩ := wu.next ha
        have := fn nd hab h1
        subst this
        rcases h2 with h2 | rfl
        · exact h2
        · exact List.mem_cons_self
      · cases e : seenIn S r0 with
        | false => rfl
        | true => exact absurd (seenIn_iff.mp e h hk) (hw h hin).2
    · rw [if_neg hin, Nat.add_zero]
      congr 1
      refine List.filter_congr fun r hr => ?_
      cases e1 : seenIn S r with
      | true => exact mono r hr e1
      | false =>
        cases e2 : seenIn S' r with
        | false => rfl
        | true => exact absurd (key r hr e2 e1).2 hin
theorem all_seen {l : Pr} {R : List Pr} (hR : Rings l R) {S : List Nat} (h : ∀ x ∈ ks l, x ∈ S) : (R.filter (seenIn S)).length = R.length := by
  rw [List.filter_eq_self.mpr]
  intro r hr
  refine seenIn_iff.mpr fun x hx => h x ?_
  obtain ⟨y, hy⟩ := mem_ks.mp hx
  exact mem_ks.mpr ⟨y, hR.sub _ (List.mem_flatten.mpr ⟨r, hr, hy⟩)⟩
theorem none_seen {l : Pr} {R : List Pr} (hR : Rings l R) : (R.filter (seenIn [])).length = 0 := by
  rw [List.length_eq_zero_iff, List.filter_eq_nil_iff]
  intro r hr h
  obtain ⟨a, hne, _⟩ := hR.ring r hr
  cases r with
  | nil => exact hne rfl
  | cons p t => exact absurd (seenIn_iff.mp h p.1 List.mem_cons_self) (by simp)
end K0

set_option linter.all false
namespace K0
def drop (l : Pr) (d : Nat) : Pr := l.filter fun p => decide (p.1 ≠ d)
theorem ks_drop {l : Pr} {d x : Nat} : x ∈ ks (drop l d) ↔ x ∈ ks l ∧ x ≠ d := by
  rw [mem_ks, mem_ks]
  unfold drop
  constructor
  · rintro ⟨y, h⟩
    obtain ⟨h1, h2⟩ := List.mem_filter.mp h
    exact ⟨⟨y, h1⟩, of_decide_eq_true h2⟩
  · rintro ⟨⟨y, h1⟩, h2⟩
    exact ⟨y, List.mem_filter.mpr ⟨h1, decide_eq_true h2⟩⟩
theorem drop_no {l : Pr} {d : Nat} (h : d ∉ ks l) : drop l d = l := List.filter_eq_self.mpr fun p hp => decide_eq_true fun e => h (mem_ks.mpr ⟨p.2, by rw [← e]; exact hp⟩)
theorem drop_perm {l : Pr} {d s : Nat} (nd : (ks l).Nodup) (h : (d, s) ∈ l) : ((d, s) :: drop l d).Perm l := by
  induction l with
  | nil => cases h
  | cons p r ih =>
    have nd' : (p.1 :: ks r).Nodup := nd
    obtain ⟨n1, n2⟩ := List.nodup_cons.mp nd'
    by_cases e : p.1 = d
    · have e1 : drop (p :: r) d = r := by
        unfold drop
        rw [List.filter_cons, if_neg (by simp [e])]
        exact drop_no (by rw [← e]; exact n1)
      have e2 : (d, s) = p := by
        rcases List.mem_cons.mp h with h | h
        · exact h
        · rw [e] at n1
          exact absurd (mem_ks.mpr ⟨s, h⟩) n1
      rw [e1, e2]
    · have h' : (d, s) ∈ r := (List.mem_cons.mp h).resolve_left fun z => e (by rw [← z])
      have e1 : drop (p :: r) d = p :: drop r d := by
        unfold drop
        rw [List.filter_cons, if_pos (by simp [e])]
      rw [e1]
      exact (List.Perm.swap p (d, s) (drop r d)).trans ((ih n2 h').cons p)
theorem ks_perm {a b : Pr} (h : a.Perm b) : (ks a).Perm (ks b) := h.map _
theorem sr_perm {a b : Pr} (h : a.Perm b) : (sr a).Perm (sr b) := h.map _
theorem cnt_drop {l : Pr} {d s : Nat} (nd : (ks l).Nodup) (h : (d, s) ∈ l) (x : Nat) : cnt l x = cnt (drop l d) x + if s = x then 1 else 0 := by
  have p := sr_perm (drop_perm nd h)
  unfold cnt
  rw [← p.count_eq x]
  show (s :: sr (drop l d)).count x = _
  rw [List.count_cons]
  simp
structure WI (l0 l row : Pr) (free : List Nat) : Prop where
  perm : (row ++ l).Perm l0
  ord : OrdR row
  src : ∀ p ∈ l, p.2 ∉ ks row
  fnd : free.Nodup
  fz : ∀ d ∈ free, d ∈ ks l ∧ cnt l d = 0
  fc : ∀ d ∈ ks l, cnt l d = 0 → d ∈ free
  all : ∀ Z : Nat → Prop, (∀ z, Z z → z ∈ ks l0 ∧ ∃ y, Z y ∧ (y, z) ∈ l0) → ∀ z, Z z → z ∈ ks l
theorem WI.ndl {l0 l row : Pr} {free : List Nat} (h : WI l0 l row free) (nd : (ks l0).Nodup) : (ks l).Nodup := by
  have := (ks_perm h.perm).nodup_iff.mpr nd
  rw [ks_app] at this
  exact (List.nodup_append.mp this).2.1
theorem cnt_pos {l : Pr} {x : Nat} : cnt l x ≠ 0 ↔ x ∈ sr l := by
  unfold cnt
  rw [← Nat.pos_iff_ne_zero, List.count_pos_iff]
theorem WI.step {l0 l row : Pr} {free : List Nat} {d s : Nat} (nd0 : (ks l0).Nodup) (h : WI l0 l row (free ++ [d])) (hs : (d, s) ∈ l) :
    WI l0 (drop l d) (row ++ [(d, s)]) (if cnt (drop l d) s = 0 ∧ s ∈ ks (drop l d) then free ++ [s] else free) := by
  have nd := h.ndl nd0
  obtain ⟨f1, _, f3⟩ := List.nodup_append.mp h.fnd
  have hd : d ∉ free := fun z => f3 d z d (by simp) rfl
  have hz : cnt l d = 0 := (h.fz d (by simp)).2
  have sub : ∀ p, p ∈ drop l d → p ∈ l := fun p hp => (List.mem_filter.mp hp).1
  have zr : ∀ p ∈ l, p.2 ≠ d := fun p hp e => by
    have : d ∈ sr l := mem_sr.mpr ⟨p.1, by rw [← e]; exact hp⟩
    exact cnt_pos.mpr this hz
  have cs := cnt_drop nd hs
  constructor
  · refine List.Perm.trans ?_ h.perm
    rw [List.append_assoc]
    exact (drop_perm nd hs).append_left row
  · intro a b p q e hq
    rcases List.eq_nil_or_concat b with rfl | ⟨b', z, rfl⟩
    · have e' : row ++ [(d, s)] = a ++ [p] := e
      obtain ⟨e1, e2⟩ := List.append_inj' e' rfl
      have : p = (d, s) := (List.cons.inj e2).1.symm
      subst this
      subst e1
      exact fun z => h.src _ hs (mem_ks.mpr ⟨q.2, by rw [← z]; exact hq⟩)
    · have e' : row ++ [(d, s)] = (a ++ p :: b') ++ [z] := by
        rw [e]
        simp
      obtain ⟨e1, _⟩ := List.append_inj' e' rfl
      exact h.ord a b' p q e1 hq
  · intro p hp hk
    rw [ks_app] at hk
    rcases List.mem_append.mp hk with hk | hk
    · exact h.src p (sub p hp) hk
    · exact zr p (sub p hp) (by simpa [ks] using hk)
  · split
    · refine List.nodup_append.mpr ⟨f1, by simp, fun a ha b hb e => ?_⟩
      have hb' : b = s := by simpa using hb
      subst hb'
      subst e
      have c0 := (h.fz a (List.mem_append_left _ ha)).2
      exact cnt_pos.mpr (mem_sr.mpr ⟨d, hs⟩) c0
    · exact f1
  · have old : ∀ x ∈ free, x ∈ ks (drop l d) ∧ cnt (drop l d) x = 0 := fun x hx => by
      obtain ⟨a, b⟩ := h.fz x (List.mem_append_left _ hx)
      refine ⟨ks_drop.mpr ⟨a, fun e => hd (by rw [← e]; exact hx)⟩, ?_⟩
      have := cs x
      omega
    intro x hx
    split at hx
    · rename_i hc
      rcases List.mem_append.mp hx with hx | hx
      · exact old x hx
      · have : x = s := by simpa using hx
        subst this
        exact ⟨hc.2, hc.1⟩
    · exact old x hx
  · intro x hx h0
    have hxl := ks_drop.mp hx
    by_cases e : s = x
    · subst e
      rw [if_pos ⟨h0, hx⟩]
      exact List.mem_append_right _ (by simp)
    · have c := cs x
      rw [if_neg e] at c
      have := h.fc x hxl.1 (by omega)
      have hf : x ∈ free := (List.mem_append.mp this).resolve_right (by simpa using hxl.2)
      split
      · exact List.mem_append_left _ hf
      · exact hf
  · intro Z hZ z hz'
    refine ks_drop.mpr ⟨h.all Z hZ z hz', fun e => ?_⟩
    subst e
    obtain ⟨y, hy, hyz⟩ := (hZ z hz').2
    obtain ⟨v, hv⟩ := mem_ks.mp (h.all Z hZ y hy)
    have : v = z := fn nd0 (h.perm.mem_iff.mp (List.mem_append_right _ hv)) hyz
    subst this
    exact zr _ hv rfl
theorem WI.start {l0 : Pr} (nd : (ks l0).Nodup) : WI l0 l0 [] ((ks l0).filter fun d => decide (d ∉ sr l0)) := by
  refine ⟨List.Perm.refl _, fun a b p q e => ?_, fun p _ h => (by cases h), List.Nodup.sublist List.filter_sublist nd, fun d hd => ?_, fun d hd hc => ?_, fun Z hZ z hz => (hZ z hz).1⟩
  · cases a <;> cases e
  · obtain ⟨h1, h2⟩ := List.mem_filter.mp hd
    refine ⟨h1, ?_⟩
    have := of_decide_eq_true h2
    exact Classical.byContradiction fun z => this (cnt_pos.mp z)
  · exact List.mem_filter.mpr ⟨hd, decide_eq_true fun z => cnt_pos.mpr z hc⟩
/-- all that is left goes round -/
theorem perm_of {a b : List Nat} (na : a.Nodup) (h : ∀ x ∈ a, x ∈ b) (hl : b.length ≤ a.length) : a.Perm b := by
  induction a generalizing b with
  | nil =>
    cases b with
    | nil => exact List.Perm.refl _
    | cons x r => simp at hl
  | cons x r ih =>
    obtain ⟨n1, n2⟩ := List.nodup_cons.mp na
    have hx := h x List.mem_cons_self
    have p := List.perm_cons_erase hx
    have le := List.length_erase_of_mem hx
    have lp := List.length_pos_of_mem hx
    refine ((ih n2 (b := b.erase x) (fun y hy => ?_) ?_).cons x).trans p.symm
    · exact (List.mem_erase_of_ne (fun e => n1 (by rw [← e]; exact hy))).mpr (h y (List.mem_cons_of_mem _ hy))
    · rw [le]
      simp at hl
      omega
/-- a part of the pairs that goes round -/
def Bal (m : Pr) (d first : Nat) : Prop := (d :: sr m).Perm (first :: ks m)
theorem Bal.step {m : Pr} {d s first : Nat} (nd : (ks m).Nodup) (h : Bal m d first) (hs : (d, s) ∈ m) : Bal (drop m d) s first := by
  have p := drop_perm nd hs
  have p1 : (s :: sr (drop m d)).Perm (sr m) := sr_perm p
  have p2 : (d :: ks (drop m d)).Perm (ks m) := ks_perm p
  have h1 : (d :: s :: sr (drop m d)).Perm (first :: d :: ks (drop m d)) := ((p1.cons d).trans h).trans (p2.symm.cons first)
  exact (List.perm_cons d).mp (h1.trans (List.Perm.swap d first _))
theorem Bal.end {m : Pr} {d first : Nat} (h : Bal m d first) (hd : d ∉ ks m) : d = first ∧ (sr m).Perm (ks m) := by
  have hm : d ∈ first :: ks m := h.mem_iff.mp List.mem_cons_self
  have e : d = first := (List.mem_cons.mp hm).resolve_right hd
  subst e
  exact ⟨rfl, (List.perm_cons d).mp h⟩
structure RI (l m : Pr) (R : List Pr) : Prop where
  perm : (R.flatten ++ m).Perm l
  bal : (sr m).Perm (ks m)
  ring : ∀ r ∈ R, IsRing r
theorem WI.done {l0 l row : Pr} (nd : (ks l0).Nodup) (h : WI l0 l row []) : RI l l [] := by
  refine ⟨List.Perm.refl _, ?_, fun r hr => by cases hr⟩
  refine (perm_of (h.ndl nd) (fun x hx => ?_) ?_).symm
  · refine cnt_pos.mp fun z => ?_
    have := h.fc x hx z
    cases this
  · simp [ks, sr]
end K0

set_option Elab.async false
set_option linter.all false
set_option maxRecDepth 100000
set_option maxHeartbeats 4000000
namespace K0
open PySem L2
def tp (i : Nat) : Stmt := PySem.Challenge.pw_leasttiles_k42_moves_at_once.main.body.getD i (.Pass ⟨0, 0, 0, 0⟩)
abbrev sWR : Stmt := tp 1
abbrev sRO : Stmt := tp 2
abbrev sSeq : Stmt := tp 3
abbrev sDraw : Stmt := tp 5
abbrev sTake : Stmt := tp 6
abbrev sLR : Stmt := tp 7
abbrev sLaw : Stmt := tp 8
theorem gName_go {i : Nat} {v : V} {σ : St} {H : Hp} {Q : St → Hp → Prop} (h : Q (σ.set i (some v)) H) : gName i v σ H Q := h
theorem nx_go {t : St → Hp → Prop} {r : VK} {b c : St → Hp → Prop} {σ : St} {H : Hp} (h : t σ H) : ({ nx := t, rt := r, bk := b, ct := c } : Ends).nx σ H := h
theorem tIfS_val {c : TT} {t u : TS} {D : Ends} {σ : St} {H : Hp} {b : Bool} (hc : ∀ Q : Bool → Hp → Prop, Q b H → c σ H Q) (h : if b = true then t D σ H else u D σ H) : tIfS c t u D σ H := hc _ h
theorem tSeq_go {t u : TS} {D : Ends} {σ : St} {H : Hp} (h : t { D with nx := u D } σ H) : tSeq t u D σ H := h
theorem and_val {A B : TT} {σ : St} {H : Hp} {cA cB : Bool} (hA : ∀ Q : Bool → Hp → Prop, Q cA H → A σ H Q) (hB : ∀ Q : Bool → Hp → Prop, Q cB H → B σ H Q) : ∀ Q : Bool → Hp → Prop, Q (cA && cB) H → tAnd A B σ H Q := by
  intro Q q
  refine hA _ ?_
  cases cA with
  | true => exact iteT (hB _ q)
  | false => exact iteF q
theorem or_val {A B : TT} {σ : St} {H : Hp} {cA cB : Bool} (hA : ∀ Q : Bool → Hp → Prop, Q cA H → A σ H Q) (hB : ∀ Q : Bool → Hp → Prop, Q cB H → B σ H Q) : ∀ Q : Bool → Hp → Prop, Q (cA || cB) H → tOr A B σ H Q := by
  intro Q q
  refine hA _ ?_
  cases cA with
  | true => exact iteT q
  | false => exact iteF (hB _ q)
theorem iteNb {b : Bool} {A B : Prop} (h : b = true) (x : B) : if (!b) = true then A else B := by
  subst h
  exact iteF x
end K0

set_option Elab.async false
set_option linter.all false
set_option maxRecDepth 100000
set_option maxHeartbeats 1000000
namespace K0
open PySem L2
/-- all but what stands at d is as it was -/
def Keep (d : Addr) (H H' : Hp) : Prop := ∀ b o, H b = some o → b ≠ d → H' b = some o
theorem Keep.refl (d : Addr) (H : Hp) : Keep d H H := fun _ _ e _ => e
theorem Keep.trans {d : Addr} {H H1 H2 : Hp} (a : Keep d H H1) (b : Keep d H1 H2) : Keep d H H2 := fun c o e n => b c o (a c o e n) n
theorem Keep.of {d : Addr} {H H1 : Hp} (s : Same H H1) : Keep d H H1 := fun c o e _ => s c o e
theorem Keep.put {d : Addr} {H : Hp} {o : HO} : Keep d H (upd H d o) := fun b u e n => by
  rw [upd_ne n]
  exact e
theorem same_new {H : Hp} {p : Addr} {o : HO} (h : H p = none) : Same H (upd H p o) := fun b x e => by
  rw [upd_ne (ne_of_none e h)]
  exact e
/-- the row of draws -/
structure Drw (H : Hp) (d c : Addr) (ns : List Int) (k l s : Int) : Prop where
  at_ : H d = some (.lst [.ref c, .int k, .int l, .int s])
  cells : H c = some (.lst (ns.map V.int))
  ne : c ≠ d
  k0 : -1 ≤ k
  l0 : 0 ≤ l
  s0 : 0 ≤ s
  s1 : s < 2147483648
  pos : ∀ n ∈ ns, 0 ≤ n
theorem Drw.store {H : Hp} {d c : Addr} {ns : List Int} {k l s k' l' s' : Int} (D : Drw H d c ns k l s) (hk : -1 ≤ k') (hl : 0 ≤ l') (h0 : 0 ≤ s') (h1 : s' < 2147483648) : Drw (upd H d (.lst [.ref c, .int k', .int l', .int s'])) d c ns k' l' s' :=
  ⟨upd_same, by rw [upd_ne D.ne]; exact D.cells, D.ne, hk, hl, h0, h1, D.pos⟩
theorem Drw.same {H H' : Hp} {d c : Addr} {ns : List Int} {k l s : Int} (D : Drw H d c ns k l s) (e : Same H H') : Drw H' d c ns k l s := ⟨e _ _ D.at_, e _ _ D.cells, D.ne, D.k0, D.l0, D.s0, D.s1, D.pos⟩
def Drd (H : Hp) (d c : Addr) (ns : List Int) : Prop := ∃ k l s, Drw H d c ns k l s
theorem Drd.same {H H' : Hp} {d c : Addr} {ns : List Int} (D : Drd H d c ns) (e : Same H H') : Drd H' d c ns := by
  obtain ⟨k, l, s, D⟩ := D
  exact ⟨k, l, s, D.same e⟩
def spTake : Sp := fun vs H Q _ => ∃ (d c : Addr) (ns : List Int) (m : Int), vs = [.ref d, .int m] ∧ Drd H d c ns ∧ 1 ≤ m ∧ m ≤ 65536 ∧ ∀ (z : Nat) H', (z : Int) < m → Drd H' d c ns → Keep d H H' → Q (.int z) H'
section
variable {P : Program} {w : World} {K : PySem.W.Frag} {mg : Str → Option Value} {base : Heap}
theorem scTake : FnScope ["draw", "many", "found"] ["draw", "many"] (defScope sTake) := ⟨rfl, rfl, rfl, by decide +kernel, rfl, by decide +kernel, by decide +kernel⟩
theorem ok_take {f : Addr} {fd : FuncData} (F : Fun K "_law_take" "_law_take" sTake f fd) (ml : mg "len" = none) (mi : mg "int" = none) : FnOk P w K mg base CX0 1 f fd ["draw", "many"] spTake := by
  refine F.ok scTake (fun vs H Q E h => ?_) (fun cdv A outer s H vs Q E hr h => ?_)
  · obtain ⟨d, c, ns, m, rfl, _⟩ := h
    rfl
  · obtain ⟨d, c, ns, m, rfl, D, m1, m2, q⟩ := h
    have nd := scTake.nd
    refine ⟨_, C8.pss_cut (ps_if (pt_cmpR op_eq (pe_ix ix_list (pv 0) pe_int (fun _ _ => rfl)) pe_int (nomark _))
        (pss_cons (ps_asg (pe_op op_add (pe_ix ix_list (pv 0) pe_int (fun _ _ => rfl)) pe_int) (pg_sub (pv 0) pe_int set_list))
        (C8.pss_cut (ps_if (pt_cmpR op_lt (pe_ix ix_list (pv 0) pe_int (fun _ _ => rfl)) (pe_callB call_len_seq (by rfl) ml PySem.boot_len (pa_cons (pe_ix ix_list (pv 0) pe_int (fun _ _ => rfl)) pa_nil)) (nomark _))
            (pss_one (ps_asg (pe_ix ix_list (pe_ix ix_list (pv 0) pe_int (fun _ _ => rfl)) (pe_ix ix_list (pv 0) pe_int (fun _ _ => rfl)) (fun _ _ => rfl)) (pg_sub (pv 0) pe_int set_list))) pss_nil)
        (pss_one (ps_if (pt_cmpR op_eq (pe_ix ix_list (pv 0) pe_int (fun _ _ => rfl)) pe_int (nomark _))
            (pss_cons (ps_asg (pe_op op_mod (pe_callTy call_int1 (by rfl) mi (by decide +kernel) (pa_cons (pe_op op_add (pe_op op_mul (pe_ix ix_list (pv 0) pe_int (fun _ _ => rfl)) pe_int) pe_int) pa_nil)) pe_int) (pg_sub (pv 0) pe_int set_list))
            (pss_one (ps_asg (pe_ix ix_list (pv 0) pe_int (fun _ _ => rfl)) (pg_sub (pv 0) pe_int set_list)))) pss_nil)))) pss_nil)
      (pss_cons (ps_set (i := 2) nd rfl (.inl rfl) (pe_op op_mod (pe_callTy call_int1 (by rfl) mi (by decide +kernel) (pa_cons (pe_ix ix_list (pv 0) pe_int (fun _ _ => rfl)) pa_nil)) (pv 1)))
      (pss_cons (ps_asg (pe_op op_fdiv (pe_ix ix_list (pv 0) pe_int (fun _ _ => rfl)) (pv 1)) (pg_sub (pv 0) pe_int set_list))
      (pss_one (ps_ret (pv 2))))), ?_⟩
    refine ⟨fun σ' H' => σ' = [some (.ref d), some (.int m), none] ∧ Drd H' d c ns ∧ Keep d H H', ?_, ?_⟩
    · obtain ⟨k, l, s, D⟩ := D
      refine ⟨_, rfl, d, _, 2, _, rfl, rfl, .of D.at_, atI_nat (j := 2) rfl, rfl, _, rfl, ite2 (fun e => ?_) (fun e => ?_)⟩
      · -- draw[1] = draw[1] + 1
        have D1 : Drw (upd H d (.lst [.ref c, .int (k + 1), .int l, .int s])) d c ns (k + 1) l s := D.store (by have := D.k0; omega) D.l0 D.s0 D.s1
        refine ⟨_, rfl, d, _, 1, _, rfl, rfl, .of D.at_, atI_nat (j := 1) rfl, _, _, rfl, rfl, _, rfl, d, _, 1, 1, rfl, rfl, D.at_, rfl, ?_⟩
        refine ⟨fun σ' H' => σ' = [some (.ref d), some (.int m), none] ∧ Drd H' d c ns ∧ Keep d H H', ?_, ?_⟩
        · refine ⟨_, rfl, d, _, 1, _, rfl, rfl, .of D1.at_, atI_nat (j := 1) rfl, _, rfl, d, _, 0, _, rfl, rfl, .of D1.at_, atI_nat (j := 0) rfl, c, _, rfl, .inl (.of D1.cells), _, _, rfl, rfl, _, rfl, ite2 (fun e => ?_) (fun e => ?_)⟩
          · have hlt := of_decide_eq_true e
            rw [List.length_map] at hlt
            have hk := D1.k0
            have hk0 := D.k0
            obtain ⟨j, hj⟩ : ∃ j : Nat, k + 1 = (j : Int) := ⟨(k + 1).toNat, by omega⟩
            have hjl : j < ns.length := by omega
            have g : (ns.map V.int)[j]? = some (.int ns[j]) := by
              rw [List.getElem?_map, List.getElem?_eq_getElem hjl]
              rfl
            refine ⟨_, rfl, d, _, 0, _, rfl, rfl, .of D1.at_, atI_nat (j := 0) rfl, _, rfl, d, _, 1, _, rfl, rfl, .of D1.at_, atI_nat (j := 1) rfl, c, _, k + 1, _, rfl, rfl, .of D1.cells, at_of hj g, _, rfl, d, _, 2, 2, rfl, rfl, D1.at_, rfl, rfl, ⟨_, _, _, D1.store D1.k0 (D.pos _ (List.getElem_mem hjl)) D1.s0 D1.s1⟩, Keep.put.trans Keep.put⟩
          · exact ⟨rfl, ⟨_, _, _, D1⟩, Keep.put⟩
        · rintro σ' H' ⟨rfl, ⟨k2, l2, s2, D2⟩, kp⟩
          refine ⟨_, rfl, d, _, 2, _, rfl, rfl, .of D2.at_, atI_nat (j := 2) rfl, rfl, _, rfl, ite2 (fun e => ?_) (fun e => ?_)⟩
          · have hs0 := D2.s0
            have hs1 := D2.s1
            have r0 : 0 ≤ (s2 * 48271 + 11) % 2147483647 := Int.emod_nonneg _ (by decide)
            have r1 : (s2 * 48271 + 11) % 2147483647 < 2147483647 := Int.emod_lt_of_pos _ (by decide)
            have D3 : Drw (upd H' d (.lst [.ref c, .int k2, .int l2, .int ((s2 * 48271 + 11) % 2147483647)])) d c ns k2 l2 ((s2 * 48271 + 11) % 2147483647) := D2.store D2.k0 D2.l0 r0 (by omega)
            refine ⟨_, rfl, d, _, 3, _, rfl, rfl, .of D2.at_, atI_nat (j := 3) rfl, _, _, rfl, rfl, .inl ⟨by omega, by omega⟩, _, _, rfl, rfl, .inl ⟨_, rfl, ?_⟩⟩
            refine ⟨_, _, rfl, rfl, (by show (0 : Int) < 2147483647; decide), _, rfl, d, _, 3, 3, rfl, rfl, D2.at_, rfl, ?_⟩
            refine ⟨_, rfl, d, _, 3, _, rfl, rfl, .of D3.at_, atI_nat (j := 3) rfl, _, rfl, d, _, 2, 2, rfl, rfl, D3.at_, rfl, rfl, ⟨_, _, _, D3.store D3.k0 r0 r0 (by omega)⟩, (kp.trans Keep.put).trans Keep.put⟩
          · exact ⟨rfl, ⟨_, _, _, D2⟩, kp⟩
      · exact ⟨rfl, ⟨k, l, s, D⟩, Keep.refl _ _⟩
    · rintro σ' H' ⟨rfl, ⟨k, l, s, D⟩, kp⟩
      have hl := D.l0
      have r0 : 0 ≤ l % m := Int.emod_nonneg _ (by omega)
      have r1 : l % m < m := Int.emod_lt_of_pos _ (by omega)
      have q0 : 0 ≤ l / m := Int.ediv_nonneg hl (by omega)
      refine ⟨_, rfl, d, _, 2, _, rfl, rfl, .of D.at_, atI_nat (j := 2) rfl, .inl ⟨_, rfl, _, rfl, _, _, rfl, rfl, (by show (0 : Int) < m; omega), ?_⟩⟩
      refine ⟨_, rfl, d, _, 2, _, rfl, rfl, .of D.at_, atI_nat (j := 2) rfl, _, rfl, _, _, rfl, rfl, ⟨by omega, by omega⟩, _, rfl, d, _, 2, 2, rfl, rfl, D.at_, rfl, ?_⟩
      refine ⟨_, rfl, ?_⟩
      have ez : ((l % m).toNat : Int) = l % m := Int.toNat_of_nonneg r0
      have qq := q (l % m).toNat (upd H' d (.lst [.ref c, .int k, .int (l / m), .int s])) (by omega) ⟨_, _, _, D.store D.k0 q0 D.s0 D.s1⟩ (kp.trans Keep.put)
      rw [ez] at qq
      exact qq
end
end K0

set_option Elab.async false
set_option linter.all false
set_option maxRecDepth 100000
set_option maxHeartbeats 1000000
namespace K0
open PySem L2
def spDraw (K : PySem.W.Frag) : Sp := fun vs H Q _ => ∃ (a : Addr) (ns : List Int), vs = [.ref a] ∧ SqL K H a (ns.map V.int) ∧ ns.length ≤ 63 ∧ ∀ d c ms H', Drd H' d c ms → Same H H' → H d = none → Q (.ref d) H'
/-- a def as it is called: its promise, its name, its parameters -/
structure Got (P : Program) (w : World) (K : PySem.W.Frag) (mg : Str → Option Value) (base : Heap) (k : Nat) (x : Str) (ps : List Str) (sp : Sp) : Prop where
  ex : ∃ (f : Addr) (fd : FuncData), FnOk P w K mg base CX0 k f fd ps sp ∧ mg x = some (.ref f) ∧ PySem.W.keepIn K (.ref f) = true ∧ Binds K fd ps []
section
variable {P : Program} {w : World} {K : PySem.W.Frag} {mg : Str → Option Value} {base : Heap}
theorem scDraw : FnScope ["script", "seed", "cell"] ["script"] (defScope sDraw) := ⟨rfl, rfl, rfl, by decide +kernel, rfl, by decide +kernel, by decide +kernel⟩
theorem tYes_go {σ : St} {H : Hp} {A B : Bool → Hp → Prop} (h : A true H) : tYes σ H (fun b H3 => if b = true then A b H3 else B b H3) := by
  show if true = true then A true H else B true H
  exact iteT h
def abz (i : Int) : Int := if i < 0 then -i else i
theorem abz_nn (i : Int) : 0 ≤ abz i := by
  unfold abz
  split <;> omega
theorem ok_draw {f : Addr} {fd : FuncData} (F : Fun K "_law_draw" "_law_draw" sDraw f fd) (mi : mg "int" = none) (ma : mg "abs" = none) : FnOk P w K mg base CX0 1 f fd ["script"] (spDraw K) := by
  refine F.ok scDraw (fun vs H Q E h => ?_) (fun cdv A outer s H vs Q E hr h => ?_)
  · obtain ⟨a, ns, rfl, _⟩ := h
    rfl
  · obtain ⟨a, ns, rfl, hS, hlen, q⟩ := h
    have nd := scDraw.nd
    refine ⟨_, pss_cons (ps_set (i := 1) nd rfl (.inl rfl) pe_int)
      (pss_cons (ps_for PassesOwn.never rfl (pi_list (pv 0)) (pg_name (i := 2) nd rfl (.inl rfl))
        (pss_one (ps_set (i := 1) nd rfl (.inl rfl) (pe_op op_mod (pe_callTy call_int1 (by rfl) mi (by decide +kernel) (pa_cons (pe_op op_add (pe_op op_add (pe_op op_mul (pv 1) pe_int) (pe_op op_mod (pe_callB call_abs (by rfl) ma PyProof.Rows.boot_abs (pa_cons (pe_callTy call_int1 (by rfl) mi (by decide +kernel) (pa_cons (pv 2) pa_nil)) pa_nil)) pe_int)) pe_int) pa_nil)) pe_int))))
      (pss_one (ps_ret (pe_lst (pa_cons (pe_lc (own := [("cell", 2)]) (g := gName 2) (tt := tYes) rfl nd (pi_list (pv 0)) (blkOk_by (N := ["script", "seed", "cell"]) (sc := defScope sDraw) (by decide +kernel)) (fun _ _ _ _ _ => pg_name (i := 2) nd rfl (.inl rfl)) (fun _ _ _ _ _ => pts_nil)
            (fun _ _ _ _ _ => pe_callB call_abs (by rfl) ma PyProof.Rows.boot_abs (pa_cons (pe_callTy call_int1 (by rfl) mi (by decide +kernel) (pa_cons (pv 2) pa_nil)) pa_nil)))
          (pa_cons (pe_un un_neg pe_int) (pa_cons pe_int (pa_cons (pv 1) pa_nil)))))))), ?_⟩
    refine ⟨_, rfl, a, rfl, ⟨_, hS⟩, for_list (xs := ns.map V.int) (fun i σ H' => ∃ s y2, σ = [some (.ref a), some (.int s), y2] ∧ 0 ≤ s ∧ s < 2147483648 ∧ H' = H) ⟨7, none, rfl, by decide, by decide, rfl⟩ ?_ ?_ ?_⟩
    · rintro i σ H' _ ⟨s, y2, rfl, _, _, rfl⟩
      exact hS
    · rintro i x σ H' hx ⟨s, y2, rfl, s0, s1, rfl⟩
      obtain ⟨n, rfl⟩ : ∃ n, x = V.int n := by
        rw [List.getElem?_map] at hx
        cases e : ns[i]? with
        | none => rw [e] at hx; cases hx
        | some u => rw [e] at hx; exact ⟨u, (Option.some.inj hx).symm⟩
      refine ⟨_, rfl, _, _, rfl, rfl, .inl ⟨by omega, by omega⟩, _, rfl, .inl ⟨_, rfl, _, rfl, _, _, rfl, rfl, (by show (0 : Int) < 65521; decide), _, _, rfl, rfl, _, _, rfl, rfl, .inl ⟨_, rfl, _, _, rfl, rfl, (by show (0 : Int) < 2147483647; decide), ?_⟩⟩⟩
      refine ⟨_, _, rfl, Int.emod_nonneg _ (by decide), ?_, rfl⟩
      have r1 := Int.emod_lt_of_pos (s * 48271 + (if n < 0 then -n else n) % 65521 + 1) (show (0 : Int) < 2147483647 by decide)
      exact Int.lt_trans r1 (by decide)
    · rintro σ H' ⟨s, y2, rfl, s0, s1, rfl⟩
      refine ⟨_, rfl, a, rfl, ⟨_, hS⟩, fun D hD => lc_list (xs := ns.map V.int) (fun i H1 => i ≤ ns.length ∧ H1 D = some (.lst ((ns.take i).map fun n => V.int (abz n))) ∧ Same H' H1) ⟨Nat.zero_le _, upd_same, same_new hD⟩ ?_ ?_ ?_⟩
      · rintro i H1 _ ⟨_, _, sm⟩
        exact sm.seq hS
      · rintro i x H1 hx ⟨hi, hD1, sm⟩
        have hil : i < ns.length := by
          have q := (List.getElem?_eq_some_iff.mp hx).1
          rw [List.length_map] at q
          exact q
        obtain rfl : x = V.int ns[i] := by
          rw [List.getElem?_map, List.getElem?_eq_getElem hil] at hx
          exact (Option.some.inj hx).symm
        refine ⟨rfl, ?_⟩
        refine tYes_go ?_
        refine ⟨_, rfl, .inl ⟨_, rfl, _, rfl, ?_⟩⟩
        refine ⟨_, hD1, ?_, hil, ?_, ?_⟩
        · rw [List.length_map, List.length_take]
          exact small1000 (by omega)
        · rw [upd_same, List.take_add_one, List.getElem?_eq_getElem hil, List.map_append]
          rfl
        · intro b o e
          rw [upd_ne (ne_of_none e hD)]
          exact sm b o e
      · rintro H1 ⟨_, hD1, sm⟩
        rw [List.length_map, List.take_length] at hD1
        refine ⟨_, rfl, _, rfl, (by show 4 ≤ sizeLine; decide), fun p hp => ?_⟩
        have s2 : Same H1 (upd H1 p (.lst [.ref D, .int (-1), .int 0, .int s])) := same_new hp
        have hDp : D ≠ p := ne_of_none hD1 hp
        refine q p D (ns.map abz) _ ⟨-1, 0, s, ⟨upd_same, ?_, hDp, by decide, by decide, s0, s1, ?_⟩⟩ (sm.trans s2) (sm.free hp)
        · rw [upd_ne hDp, hD1, List.map_map]
          rfl
        · intro n hn
          obtain ⟨m, _, rfl⟩ := List.mem_map.mp hn
          exact abz_nn m
end
end K0

set_option Elab.async false
set_option linter.all false
set_option maxRecDepth 100000
set_option maxHeartbeats 1000000
namespace K0
open PySem L2
section
variable {X : Cx}
theorem sw_trueD {a b : Expr} {gs : List Comprehension} {sc : Scope} {p q : Pos} {x : Str} {n : Nat} {ev : Env} (h1 : ev.scope.kind = .function) (h2 : ev.scope.names.lookup x = some .local) (h3 : (q.line == p.line) = true)
    (h4 : (sc.names.any fun (m, k) => m == x && (k == .local || k == .cell)) = false) : swapsWith (.DictComp a b gs sc p) (some (.Name x q)) n ev = pure true := by
  have e1 : ev.kindOf x = some .local := h2
  have e2 : ev.blockKind = .function := by
    rw [Env.blockKind, h1]
    rfl
  unfold swapsWith
  simp only [e2, e1, h4, Expr.pos, h3]
  rfl
/-- name = {..} on one line, the name a local -/
theorem ps_setDc {j : Nat} {x : Str} {q : Pos} {a b tgt itr : Expr} {conds : List Expr} {sc : Scope} {own : List (Str × Nat)} {p sp : Pos} {wi : TI} {g : TG} {tt : TT} {tk tv : TE} (hot : X.calm = true) (ndN : X.N.Nodup) (ix : X.N[j]? = some x) (loc : X.env.scope.names.lookup x = some .local)
    (sw : swapsWith (.DictComp a b [⟨tgt, itr, conds, 0⟩] sc p) (some (.Name x q)) sp.line X.env = pure true) (walked : PI X tgt itr wi) (bl : BlkOk X.N X.env.scope sc own)
    (h1 : ∀ (s : Shared) (H : Hp) (C : Addr) (cl : List (Str × Addr)) (fp : List Addr), PG (X.blk s H sc (compEnvC sc cl C X.env) fp) tgt g) (h2 : ∀ (s : Shared) (H : Hp) (C : Addr) (cl : List (Str × Addr)) (fp : List Addr), PTs (X.blk s H sc (compEnvC sc cl C X.env) fp) conds tt)
    (h3 : ∀ (s : Shared) (H : Hp) (C : Addr) (cl : List (Str × Addr)) (fp : List Addr), PE (X.blk s H sc (compEnvC sc cl C X.env) fp) a tk)
    (h4 : ∀ (s : Shared) (H : Hp) (C : Addr) (cl : List (Str × Addr)) (fp : List Addr), PE (X.blk s H sc (compEnvC sc cl C X.env) fp) b tv) (h5 : ∀ y, foldedSetIterable itr X.env y = pure y := by intro _; rfl) :
    PS X (.Assign [.Name x q] (.DictComp a b [⟨tgt, itr, conds, 0⟩] sc p) sp) (tAsg (tDc wi g tt tk tv (own.map (·.2))) (gName j)) := by
  constructor
  intro pins s σ H D I h
  rw [exec_Assign_Name_used _ _ _ _ sw]
  refine wpAny_bind (wpAny_standAt (wpAny_bind ?_))
  show wpAny _ X.A (do let _ ← comprehension (.DictComp a b [⟨tgt, itr, conds, 0⟩] sc p) sc X.env (firstIterPos [⟨tgt, itr, conds, 0⟩] p) newDict false (eval itr X.env) (some (assign (.Name x q) X.env))) _ _ s
  have hh : tDc wi g tt tk tv (own.map (·.2)) σ H (fun z H1 => gName j z σ H1 D.nx) := h
  have core := dc_core (pos := p) (use := some (assign (.Name x q) X.env)) (pos' := firstIterPos [⟨tgt, itr, conds, 0⟩] p) (Qf := fun _ s' => SP X pins D .next s') hot ndN I walked bl h1 h2 h3 h4 h5 hh
  refine wpAny_bind (thn (core fun L C s' m H' I' q0 mn ff => ?_) fun _ s' r => wpAny_pure (wpAny_pure r))
  show wpAny _ _ (assign (.Name x q) X.env (.ref L)) _ _ _
  obtain ⟨z0, z1, z2, z3, z4, z5⟩ := ff
  refine wpAny_assign_Name (store_ok2 (v := V.ref L) I' ndN ix (.inl loc) rfl (fun s2 I2 ⟨c, but, hc⟩ => ?_) (.inr loc))
  have nC : C ≠ c := hc.elim (fun z => by rw [z]; exact z1) fun z e => z4 x c z e.symm
  exact ⟨m, mn.sameBut but nC, fun k3 b3 => ⟨_, H', I2.turned (t' := s2.toks) (fun u o hu e => (b3.2 u hu).trans e) z0 z1 z3 z4 z5, q0⟩⟩
end
end K0

set_option Elab.async false
set_option linter.all false
set_option maxRecDepth 100000
set_option maxHeartbeats 1000000
namespace K0
open PySem L2
def rTupOf (K : PySem.W.Frag) : List V → Hp → VK → Prop := fun xs H Q => ∃ p ys, xs = [.ref p] ∧ ((SqL K H p ys ∧ ∀ l, H l = none → Q (.ref l) (upd H l (.tup ys))) ∨ (SqT K H p ys ∧ Q (.ref p) H))
section
variable {X : Cx} {K : PySem.W.Frag} {o e : Expr} {es : List Expr} {to : TE} {t : TA} {name : Str} {apos cpos : Pos} {T id : String} {r : V → List V → Hp → VK → Prop}
theorem pe_bmK (hK : X.K = K) (pa : PlainAttrs T) (slot : Slot T name id) (hty : typeOf (.builtin id) = pure (.type "method_descriptor")) (hm : MtR X id r) (ho : PE X o to) (ha : PA X (e :: es) t)
    (h1 : attributeBase o name X.env (eval o X.env) = eval o X.env := by rfl)
    (h2 : ((backTo cpos (starEach (e :: es) X.env)).all (fun x => !x.1) && (backToKw cpos (keywordEach [] X.env)).all (fun x => x.1.isSome) && decide ((e :: es).length + ([] : List Keyword).length + (if ([] : List Keyword).isEmpty then 0 else 1) < 30)) = true := by rfl)
    (h3 : (apos.endLine == cpos.line) = true := by rfl) (h4 : starEach (e :: es) X.env = (false, eval e X.env) :: starEach es X.env := by rfl) (h5 : (backTo cpos (starEach es X.env)).any (·.1) = false := by rfl) :
    PE X (.Call (.Attribute o name apos) (e :: es) [] cpos) (tBM K T r to t) := by
  subst hK
  exact pe_bm pa slot hty hm ho ha h1 h2 h3 h4 h5
theorem pe_bm0K (hK : X.K = K) (pa : PlainAttrs T) (slot : Slot T name id) (hty : typeOf (.builtin id) = pure (.type "method_descriptor")) (hm : MtR X id r) (ho : PE X o to)
    (h1 : attributeBase o name X.env (eval o X.env) = eval o X.env := by rfl) (h3 : (apos.endLine == cpos.line) = true := by rfl) : PE X (.Call (.Attribute o name apos) [] [] cpos) (tBM0 K T r to) := by
  subst hK
  exact pe_bm0 pa slot hty hm ho h1 h3
end
end K0
namespace K0
open PySem L2
def rLenS (K : PySem.W.Frag) : List V → Hp → VK → Prop := fun xs H Q => ∃ p ys, xs = [.ref p] ∧ (SqL K H p ys ∨ SqT K H p ys) ∧ Q (.int ys.length) H
def rListOf (K : PySem.W.Frag) : List V → Hp → VK → Prop := fun xs H Q => ∃ p ys, xs = [.ref p] ∧ (SqL K H p ys ∨ SqT K H p ys) ∧ ∀ l, H l = none → Q (.ref l) (upd H l (.lst ys))
end K0

set_option Elab.async false
set_option linter.all false
set_option maxRecDepth 100000
set_option maxHeartbeats 1000000
namespace K0
open PySem L2
abbrev NW : List Str := ["pairs", "left", "readers", "d", "row", "free", "s"]
theorem big {n : Nat} (h : n ≤ 100000) : n < sizeLine := Nat.lt_of_le_of_lt h (by decide)
/-- a pair as it stands -/
def PrV (H : Hp) (p : Nat × Nat) (x : V) : Prop := ∃ t, x = .ref t ∧ H t = some (.tup [.int (p.1 : Int), .int (p.2 : Int)])
theorem PrV.mono {H H' : Hp} (s : ∀ b xs, H b = some (.tup xs) → H' b = some (.tup xs)) {p : Nat × Nat} {x : V} (h : PrV H p x) : PrV H' p x := by
  obtain ⟨t, e, h⟩ := h
  exact ⟨t, e, s _ _ h⟩
def PrT (H : Hp) (a : Addr) (ps : Pr) : Prop := ∃ xs, H a = some (.tup xs) ∧ Paired (PrV H) ps xs
def PrL (H : Hp) (a : Addr) (ps : Pr) : Prop := ∃ xs, H a = some (.lst xs) ∧ Paired (PrV H) ps xs
def kvP (l : Pr) : List (Key × V) := l.map fun p => ((Sum.inl (p.1 : Int) : Key), V.int (p.2 : Int))
theorem kvP_none {l : Pr} {x : Nat} (h : x ∉ ks l) : valV (kvP l) (Sum.inl (x : Int)) = none := by
  induction l with
  | nil => rfl
  | cons p r ih =>
    have h1 : ¬ p.1 = x := fun e => h (by rw [← e]; exact List.mem_cons_self)
    have h2 : x ∉ ks r := fun e => h (List.mem_cons_of_mem _ e)
    show valV (((Sum.inl (p.1 : Int) : Key), V.int (p.2 : Int)) :: kvP r) _ = _
    rw [valV_neg (fun z => h1 (by have := Sum.inl.inj z; omega))]
    exact ih h2
theorem kvP_some {l : Pr} (nd : (ks l).Nodup) {x y : Nat} (h : (x, y) ∈ l) : valV (kvP l) (Sum.inl (x : Int)) = some (.int (y : Int)) := by
  induction l with
  | nil => cases h
  | cons p r ih =>
    have nd' : (p.1 :: ks r).Nodup := nd
    obtain ⟨n1, n2⟩ := List.nodup_cons.mp nd'
    show valV (((Sum.inl (p.1 : Int) : Key), V.int (p.2 : Int)) :: kvP r) _ = _
    rcases List.mem_cons.mp h with e | h
    · rw [← e]
      exact valV_pos (κ := Key) rfl
    · have h1 : ¬ p.1 = x := fun e => n1 (by rw [e]; exact mem_ks.mpr ⟨y, h⟩)
      rw [valV_neg (fun z => h1 (by have := Sum.inl.inj z; omega))]
      exact ih n2 h
theorem kvP_drop (l : Pr) (d : Nat) : dropK (kvP l) (Sum.inl (d : Int)) = kvP (drop l d) := by
  unfold dropK kvP drop
  rw [List.filter_map]
  congr 1
  refine List.filter_congr fun p _ => ?_
  show decide ((Sum.inl (p.1 : Int) : Key) ≠ Sum.inl (d : Int)) = decide (p.1 ≠ d)
  rw [decide_eq_decide]
  exact ⟨fun h e => h (by rw [e]), fun h e => h (by have := Sum.inl.inj e; omega)⟩
theorem kvP_app (a b : Pr) : kvP (a ++ b) = kvP a ++ kvP b := List.map_append
theorem dgetR {H : Hp} {a : Addr} {kvs : List (Key × V)} {k : Key} {v : V} (r : Rd H a (.dK kvs)) (e : valV kvs k = some v) : DGet H a (kV k) (some v) := .inl ⟨kvs, k, r, rfl, e.symm⟩
theorem dgetO {H : Hp} {a : Addr} {kvs : List (Key × V)} {k : Key} (r : Rd H a (.dK kvs)) : DGet H a (kV k) (valV kvs k) := .inl ⟨kvs, k, r, rfl, rfl⟩
/-- how often each is read, as it stands in a dict -/
def CntOk (kr : List (Key × V)) (src : List Nat) (m : Pr) : Prop := ∀ x : Nat, valV kr (Sum.inl (x : Int)) = if x ∈ src then some (.int (cnt m x : Int)) else none
theorem CntOk.put {kr : List (Key × V)} {src : List Nat} {m : Pr} (h : CntOk kr src m) {s c : Nat} {src' : List Nat} {m' : Pr} (hs : ∀ x, x ∈ src' ↔ x ∈ src ∨ x = s) (hc : cnt m' s = c) (ho : ∀ x, x ≠ s → cnt m' x = cnt m x) :
    CntOk (putK kr (Sum.inl (s : Int)) (.int (c : Int))) src' m' := by
  intro x
  rw [valV_put]
  by_cases e : x = s
  · subst e
    rw [if_pos rfl, if_pos ((hs x).mpr (.inr rfl)), hc]
  · rw [if_neg (fun z => e (by have := Sum.inl.inj z; omega)), h x, ho x e]
    have : x ∈ src' ↔ x ∈ src := by rw [hs x]; exact ⟨fun h => h.resolve_right e, .inl⟩
    simp only [this]
abbrev ne0 (ps : Pr) : Pr := ps.filter fun p => decide (p.1 ≠ p.2)
theorem prd_get' {α β : Type} {F : α → β → Prop} : ∀ {xs : List α} {ys : List β} {i : Nat} {y : β}, Paired F xs ys → ys[i]? = some y → ∃ x, xs[i]? = some x ∧ F x y
  | _, _, _, _, .nil, h => by simp at h
  | _, _, 0, _, .cons a t, h => by
    have e := Option.some.inj h
    exact ⟨_, rfl, by rw [← e]; exact a⟩
  | _, _, i + 1, _, .cons a t, h => prd_get' (i := i) t h
theorem prd_app {α β : Type} {F : α → β → Prop} : ∀ {xs xs2 : List α} {ys ys2 : List β}, Paired F xs ys → Paired F xs2 ys2 → Paired F (xs ++ xs2) (ys ++ ys2)
  | _, _, _, _, .nil, h => h
  | _, _, _, _, .cons a t, h => .cons a (prd_app t h)
def iv (l : List Nat) : List V := l.map fun n : Nat => V.int (n : Int)
theorem sput {H H' : Hp} {p : Addr} {o : HO} (s : Same H H') (h : H p = none) : Same H (upd H' p o) := fun b u e => by
  rw [upd_ne (ne_of_none e h)]
  exact s b u e
/-- tuples stay -/
def Tups (H H' : Hp) : Prop := ∀ b xs, H b = some (.tup xs) → H' b = some (.tup xs)
theorem Tups.of {H H1 : Hp} (s : Same H H1) : Tups H H1 := fun c o e => s c _ e
theorem Tups.refl (H : Hp) : Tups H H := fun _ _ e => e
theorem Tups.trans {H H1 H2 : Hp} (a : Tups H H1) (b : Tups H1 H2) : Tups H H2 := fun c o e => b c o (a c o e)
theorem Tups.put {H H1 : Hp} {p : Addr} {o u : HO} (t : Tups H H1) (h : H1 p = some u) (n : ∀ xs, u ≠ .tup xs) : Tups H (upd H1 p o) := fun b xs e => by
  rw [upd_ne (ne_of (t b xs e) h fun z => n xs z.symm)]
  exact t b xs e
/-- pairs with their order -/
structure WR (ps row l : Pr) : Prop where
  perm : (row ++ l).Perm (ps.filter fun p => decide (p.1 ≠ p.2))
  ord : OrdR row
  src : ∀ p ∈ l, p.2 ∉ ks row
  has : ∀ x ∈ ks l, x ∈ sr l
  all : ∀ Z : Nat → Prop, (∀ z, Z z → z ∈ ks (ps.filter fun p => decide (p.1 ≠ p.2)) ∧ ∃ y, Z y ∧ (y, z) ∈ (ps.filter fun p => decide (p.1 ≠ p.2))) → ∀ z, Z z → z ∈ ks l
theorem nd_le {ks l : List Nat} (nd : ks.Nodup) (h : ∀ k ∈ ks, k ∈ l) : ks.length ≤ l.length := by
  induction ks generalizing l with
  | nil => exact Nat.zero_le _
  | cons k r ih =>
    obtain ⟨h1, h2⟩ := List.nodup_cons.mp nd
    have hk := h k List.mem_cons_self
    have := ih h2 (l := l.erase k) fun x hx => (List.mem_erase_of_ne (fun e => h1 (by rw [← e]; exact hx))).mpr (h x (List.mem_cons_of_mem _ hx))
    rw [List.length_erase_of_mem hk] at this
    have := List.length_pos_of_mem hk
    rw [List.length_cons]
    omega
theorem snoc_of {α : Type} (l : List α) : l = [] ∨ ∃ r x, l = r ++ [x] := by
  rcases List.eq_nil_or_concat l with h | ⟨r, x, h⟩
  · exact .inl h
  · exact .inr ⟨r, x, by rw [h]; simp⟩
/-- as it stands between two turns -/
def WStep (H : Hp) (a D R ra FA : Addr) (l0 : Pr) (m : Nat) (σ : L2.St) (H' : Hp) : Prop := ∃ (l row : Pr) (free : List Nat) (kr : List (Key × V)) (y3 y6 : Option V), m = l.length ∧ σ = [some (.ref a), some (.ref D), some (.ref R), y3, some (.ref ra), some (.ref FA), y6] ∧
  H' D = some (.dK (kvP l)) ∧ H' R = some (.dK kr) ∧ kr.length ≤ 20 + row.length ∧ CntOk kr (sr l0) l ∧ PrL H' ra row ∧ H' FA = some (.lst (iv free)) ∧ WI l0 l row free ∧ Same H H'
def spWR : Sp := fun vs H Q _ => ∃ (a : Addr) (ps : Pr), vs = [.ref a] ∧ PrT H a ps ∧ ps.length ≤ 20 ∧ (ks ps).Nodup ∧
  ∀ (t ra la : Addr) (row l : Pr) H', Same H H' → H' t = some (.tup [.ref ra, .ref la]) → PrL H' ra row → H' la = some (.dK (kvP l)) → WR ps row l → H ra = none → H la = none → Q (.ref t) H'
section
variable {P : Program} {w : World} {K : PySem.W.Frag} {mg : Str → Option Value} {base : Heap}
theorem scWR : FnScope NW ["pairs"] (defScope sWR) := ⟨rfl, rfl, rfl, by decide +kernel, rfl, by decide +kernel, by decide +kernel⟩
theorem ok_wr {f : Addr} {fd : FuncData} (F : Fun K "_without_rings" "_without_rings" sWR f fd) : FnOk P w K mg base CX0 1 f fd ["pairs"] spWR := by
  refine F.ok scWR (fun vs H Q E h => ?_) (fun cdv A outer s H vs Q E hr h => ?_)
  · obtain ⟨a, ps, rfl, _⟩ := h
    rfl
  · obtain ⟨a, ps, rfl, ⟨xs, ha, px⟩, lps, ndp, q⟩ := h
    have nd := scWR.nd
    have hu := hu_of hr
    refine ⟨_, (pss_cons (ps_setDc (j := 1) (own := [("d", 3), ("s", 6)]) (g := (gTup K 2 (gCons (gName 3) (gCons (gName 6) gNil)))) (tt := _) (by rfl) nd rfl rfl (sw_trueD rfl rfl rfl (by decide +kernel)) (pi_tup (pv 0)) (blkOk_by (N := NW) (sc := defScope sWR) (by decide +kernel)) (fun _ _ _ _ _ => (pg_tup rfl (pgs_cons (pg_name (i := 3) nd rfl (.inl rfl)) (pgs_cons (pg_name (i := 6) nd rfl (.inl rfl)) pgs_nil)))) (fun _ _ _ _ _ => (pts_one (pt_cmpR (r := rNe) op_ne (pv 3) (pv 6) (nomark _)))) (fun _ _ _ _ _ => (pv 3)) (fun _ _ _ _ _ => (pv 6)))
 (pss_cons (ps_set (i := 2) nd rfl (.inr rfl) pe_dnewK)
 (pss_cons (ps_lock (ps_for PassesOwn.never rfl (pi_keys (pv 1)) (pg_name (i := 3) nd rfl (.inl rfl)) (pss_one (ps_dput hu (pv 2) (pe_dget hu (pv 1) (pv 3) (fun _ _ => rfl)) (pe_op op_add (pe_dget2 hu (pv 2) (pe_dget hu (pv 1) (pv 3) (fun _ _ => rfl)) pe_int ⟨rfl, rfl, rfl, rfl⟩) pe_int) rfl))))
 (pss_cons (ps_set (i := 4) nd rfl (.inl rfl) (pe_lst pa_nil))
 (pss_cons (ps_lock (ps_setLc (i := 5) (own := [("d", 3)]) (g := (gName 3)) (tt := _) (by rfl) nd rfl rfl (sw_true rfl rfl rfl (by decide +kernel)) (pi_keys (pv 1)) (blkOk_by (N := NW) (sc := defScope sWR) (by decide +kernel)) (fun _ _ _ _ _ => (pg_name (i := 3) nd rfl (.inl rfl))) (fun _ _ _ _ _ => (pts_one (pt_cmp (pc_dnotin hu (pv 3) (pv 2))))) (fun _ _ _ _ _ => (pv 3))))
 (pss_cons (ps_while PassesOwn.never (pt_truth (pv 5) (by intro _; rfl)) (pss_cons (ps_set (i := 3) nd rfl (.inl rfl) (pe_bm0 PySem.F.plainAttrs_list PySem.F.slot_list_pop PySem.F.type_list_pop mt_pop (pv 5)))
 (pss_cons (ps_set (i := 6) nd rfl (.inl rfl) (pe_dpop1 (pv 1) (pv 3) ⟨rfl, rfl, rfl, rfl⟩))
 (pss_cons (ps_expr (pe_bm PySem.F.plainAttrs_list PySem.F.slot_list_append PySem.F.type_list_append mt_append (pv 4) (pa_cons (pe_tup (pa_cons (pv 3) (pa_cons (pv 6) pa_nil))) pa_nil)))
 (pss_cons (ps_daug hu (pv 2) (pv 6) pe_int in_sub (fun _ _ _ => rfl))
 (pss_one (ps_if (PW.pt (pw_and (pt_cmpR op_eq (pe_dget hu (pv 2) (pv 6) (fun _ _ => rfl)) pe_int (nomark _)) (pw_and1 (pt_cmp (pc_din hu (pv 6) (pv 1)))))) (pss_one (ps_expr (pe_bm PySem.F.plainAttrs_list PySem.F.slot_list_append PySem.F.type_list_append mt_append (pv 5) (pa_cons (pv 6) pa_nil)))) pss_nil)))))))
 (pss_one (ps_ret (pe_tup (pa_cons (pv 4) (pa_cons (pv 1) pa_nil))))))))))), ?_⟩
    have lx : xs.length = ps.length := px.length.symm
    refine ⟨_, rfl, a, rfl, ⟨_, .of ha⟩, fun D hD => dc_tup (K := K) (a := a) (xs := xs) (fun i H' => H' D = some (.dK (kvP (ne0 (ps.take i)))) ∧ Same H H') ⟨upd_same, same_new hD⟩ ?_ ?_ ?_⟩
    · rintro i H' _ ⟨_, sm⟩
      exact .of (sm _ _ ha)
    · rintro i x H1 hx ⟨h1, s1⟩
      obtain ⟨p, hp, t, rfl, ht⟩ := prd_get' px hx
      have il : i < ps.length := (List.getElem?_eq_some_iff.mp hp).1
      have etk : ps.take (i + 1) = ps.take i ++ [p] := by
        rw [List.take_add_one, hp]
        rfl
      refine ⟨t, _, rfl, .of (s1 _ _ ht), rfl, _, _, rfl, _, _, rfl, rfl, rfl, _, rfl, _, rfl, rfl, _, rfl, ?_⟩
      by_cases e : p.1 = p.2
      · have eb : (!decide (V.int (p.1 : Int) = V.int (p.2 : Int))) = false := by simp [e]
        rw [eb]
        refine iteF ⟨?_, s1⟩
        have e0 : [p].filter (fun p => decide (p.1 ≠ p.2)) = [] := by simp [e]
        have e1 : ne0 (ps.take i ++ [p]) = ne0 (ps.take i) := by
          show List.filter _ _ = _
          rw [List.filter_append, e0, List.append_nil]
        rw [etk, e1]
        exact h1
      · have eb : (!decide (V.int (p.1 : Int) = V.int (p.2 : Int))) = true := by
          rw [decide_eq_false (fun z => e (by have := V.int.inj z; omega))]
          rfl
        rw [eb]
        refine iteT ⟨_, rfl, _, rfl, kvP (ne0 (ps.take i)), Sum.inl (p.1 : Int), rfl, h1, ?_, ?_, ?_⟩
        · show (List.map _ _).length < _
          rw [List.length_map]
          have h1 : (ne0 (ps.take i)).length ≤ (ps.take i).length := List.length_filter_le _ _
          rw [List.length_take] at h1
          exact big (by omega)
        · have hn : p.1 ∉ ks (ne0 (ps.take i)) := by
            intro h
            obtain ⟨y, hy⟩ := mem_ks.mp h
            have hy1 := (List.mem_filter.mp hy).1
            have hnd : (ks (ps.take i ++ p :: ps.drop (i + 1))).Nodup := by
              have : ps.take i ++ p :: ps.drop (i + 1) = ps := by
                have e1 : p :: ps.drop (i + 1) = ps.drop i := by
                  rw [List.drop_eq_getElem_cons il]
                  rw [List.getElem?_eq_getElem il] at hp
                  rw [Option.some.inj hp]
                rw [e1, List.take_append_drop]
              rw [this]
              exact ndp
            rw [ks_app] at hnd
            exact (List.nodup_append.mp hnd).2.2 p.1 (mem_ks.mpr ⟨y, hy1⟩) p.1 List.mem_cons_self rfl
          rw [upd_same, putK_new _ (kvP_none hn), etk]
          show _ = some (HO.dK (kvP (List.filter _ _)))
          rw [List.filter_append]
          have e0 : [p].filter (fun p => decide (p.1 ≠ p.2)) = [p] := by simp [e]
          rw [e0, kvP_app]
          rfl
        · exact sput s1 hD
    rintro H1 ⟨h1, s1⟩
    rw [lx, List.take_length] at h1
    have nd0 : (ks (ne0 ps)).Nodup := List.Nodup.sublist (List.Sublist.map _ List.filter_sublist) ndp
    have len0 : (ne0 ps).length ≤ 20 := Nat.le_trans (List.length_filter_le _ _) lps
    have q := fun t ra la row l H' h1 h2 h3 h4 (h5 : WI (ne0 ps) l row []) h6 h7 => q t ra la row l H' h1 h2 h3 h4 ⟨h5.perm, h5.ord, h5.src, fun x hx => cnt_pos.mp fun z => (by cases h5.fc x hx z), h5.all⟩ h6 h7
    generalize ne0 ps = l0 at h1 nd0 len0 q
    intro R hR
    have nRD : D ≠ R := ne_of_none h1 hR
    refine ⟨D, .dK (kvP l0), (by rw [upd_ne nRD]; exact h1), trivial, fun od => ⟨_, rfl, D, od, rfl, .inl ⟨kvP l0, upd_same, for_it walk_keys (fun i σ H' => ∃ (y3 : Option V) (kr : List (Key × V)), σ = [some (.ref a), some (.ref D), some (.ref R), y3, none, none, none] ∧ H' D = some (.frz od (.dK (kvP l0))) ∧ H' R = some (.dK kr) ∧ kr.length ≤ i ∧ CntOk kr (sr (l0.take i)) (l0.take i) ∧ Same H H')
      ⟨none, [], rfl, upd_same, by rw [upd_ne nRD.symm]; exact upd_same, Nat.le_refl _, fun x => rfl, sput (sput s1 (s1.free hR)) hD⟩ ?_ ?_ ?_⟩⟩⟩
    · rintro i σ H' _ ⟨_, _, _, h, _⟩
      exact h
    · rintro i x σ H2 H2' hi ⟨y3, kr, rfl, hD2, hR2, lk, cn, s2⟩ ⟨rfl, k, v, hk, rfl⟩
      have hil : i < l0.length := by
        have : (kvP l0).length = l0.length := List.length_map ..
        omega
      obtain ⟨p, hp⟩ : ∃ p, l0[i]? = some p := ⟨_, List.getElem?_eq_getElem hil⟩
      have ek : k = Sum.inl (p.1 : Int) := by
        have : (kvP l0)[i]? = some ((Sum.inl (p.1 : Int) : Key), V.int (p.2 : Int)) := by
          unfold kvP
          rw [List.getElem?_map, hp]
          rfl
        rw [this] at hk
        exact (Prod.mk.inj (Option.some.inj hk)).1.symm
      subst ek
      have hv : valV (kvP l0) (Sum.inl (p.1 : Int)) = some (.int (p.2 : Int)) := kvP_some nd0 (List.mem_of_getElem? hp)
      have rD : Rd H2' D (.dK (kvP l0)) := .inr ⟨_, hD2⟩
      have etk : l0.take (i + 1) = l0.take i ++ [p] := by
        rw [List.take_add_one, hp]
        rfl
      have nDR : D ≠ R := nRD
      refine ⟨_, rfl, R, rfl, .inl ⟨_, .of hR2⟩, _, rfl, _, rfl, D, _, rfl, dgetR rD hv, _, dgetO (k := Sum.inl (p.2 : Int)) (.of hR2), ?_⟩
      rw [cn p.2]
      have ec : ((if p.2 ∈ sr (l0.take i) then some (V.int (cnt (l0.take i) p.2 : Int)) else none).getD (.int 0)) = V.int (cnt (l0.take i) p.2 : Int) := by
        by_cases h : p.2 ∈ sr (l0.take i)
        · rw [if_pos h]
          rfl
        · rw [if_neg h]
          have : cnt (l0.take i) p.2 = 0 := Classical.byContradiction fun z => h (cnt_pos.mp z)
          rw [this]
          rfl
      have ca : ∀ x, cnt (l0.take i ++ [p]) x = cnt (l0.take i) x + if p.2 = x then 1 else 0 := fun x => by
        unfold cnt
        rw [sr_app, List.count_append]
        congr 1
        show [p.2].count x = _
        rw [List.count_singleton]
        simp
      refine ⟨cnt (l0.take i) p.2, 1, ec, rfl, _, rfl, _, rfl, _, rfl, D, _, rfl, dgetR rD hv, R, _, rfl, DPut.k (k := Sum.inl (p.2 : Int)) hR2 (big (by omega)), ?_⟩
      refine ⟨_, _, rfl, by rw [upd_ne nDR]; exact hD2, upd_same, Nat.le_trans (length_putK _ _ _) (by omega), ?_, sput s2 (s1.free hR)⟩
      rw [etk]
      refine CntOk.put cn (c := cnt (l0.take i) p.2 + 1) (fun x => ?_) ?_ fun x hx => ?_
      · rw [sr_app]
        simp [sr]
      · rw [ca, if_pos rfl]
      · rw [ca, if_neg (fun z => hx z.symm)]
        rfl
    · rintro σ H2 ⟨y3, kr, rfl, hD2, hR2, lk, cn, s2⟩
      have ekl : (kvP l0).length = l0.length := List.length_map ..
      rw [ekl, List.take_length] at cn
      rw [ekl] at lk
      refine ⟨hD2, ?_⟩
      have hD3 : (upd H2 D (.dK (kvP l0))) D = some (.dK (kvP l0)) := upd_same
      have hR3 : (upd H2 D (.dK (kvP l0))) R = some (.dK kr) := by
        rw [upd_ne nRD.symm]
        exact hR2
      have s3 := sput (o := .dK (kvP l0)) s2 hD
      have n3 : ∀ p, (upd H2 D (.dK (kvP l0))) p = none → H2 p = none ∧ p ≠ D := fun p hp => by
        have : p ≠ D := fun z => by
          rw [z, upd_same] at hp
          cases hp
        rw [upd_ne this] at hp
        exact ⟨hp, this⟩
      generalize upd H2 D (.dK (kvP l0)) = H3 at hD3 hR3 s3 n3
      refine ⟨(by show 0 ≤ sizeLine; decide), fun ra hra => ?_⟩
      have nra : H ra = none := s3.free hra
      have hD4 : (upd H3 ra (.lst [])) D = some (.dK (kvP l0)) := same_new hra _ _ hD3
      have hR4 : (upd H3 ra (.lst [])) R = some (.dK kr) := same_new hra _ _ hR3
      have hr4 : (upd H3 ra (.lst [])) ra = some (.lst []) := upd_same
      have s4 := sput (o := .lst []) s3 nra
      generalize upd H3 ra (.lst []) = H4 at hD4 hR4 hr4 s4
      refine ⟨D, .dK (kvP l0), hD4, trivial, fun od2 => ⟨_, rfl, D, od2, rfl, .inl ⟨kvP l0, upd_same, fun FA hFA => lc_it walk_keys (fun i H' => H' FA = some (.lst (iv ((ks (l0.take i)).filter fun d => decide (d ∉ sr l0)))) ∧ Same (upd H4 D (.frz od2 (.dK (kvP l0)))) H') ⟨upd_same, same_new hFA⟩ ?_ ?_ ?_⟩⟩⟩
      · rintro i H' _ ⟨_, sm⟩
        exact sm _ _ upd_same
      · rintro i x H5 H5' hi ⟨hF5, s5⟩ ⟨rfl, k, v, hk, rfl⟩
        have hil : i < l0.length := by
          have : (kvP l0).length = l0.length := List.length_map ..
          omega
        obtain ⟨p, hp⟩ : ∃ p, l0[i]? = some p := ⟨_, List.getElem?_eq_getElem hil⟩
        have ek : k = Sum.inl (p.1 : Int) := by
          have : (kvP l0)[i]? = some ((Sum.inl (p.1 : Int) : Key), V.int (p.2 : Int)) := by
            unfold kvP
            rw [List.getElem?_map, hp]
            rfl
          rw [this] at hk
          exact (Prod.mk.inj (Option.some.inj hk)).1.symm
        subst ek
        have etk : l0.take (i + 1) = l0.take i ++ [p] := by
          rw [List.take_add_one, hp]
          rfl
        have hR5 : H5' R = some (.dK kr) := s5 _ _ (by rw [upd_ne nRD.symm]; exact hR4)
        have nFA : (upd H4 D (.frz od2 (.dK (kvP l0)))) FA = none := hFA
        refine ⟨rfl, _, rfl, _, rfl, R, _, rfl, DGet.k (k := Sum.inl (p.1 : Int)) hR5, _, rfl, ?_⟩
        rw [cn p.1]
        by_cases h : p.1 ∈ sr l0
        · rw [if_pos h]
          refine iteF ⟨?_, s5⟩
          rw [etk, ks_app, List.filter_append]
          have e0 : (ks [p]).filter (fun d => decide (d ∉ sr l0)) = [] := by simp [ks, h]
          rw [e0, List.append_nil]
          exact hF5
        · rw [if_neg h]
          refine iteT ⟨_, rfl, _, hF5, ?_, ?_, sput s5 nFA⟩
          · show (List.map _ _).length < _
            rw [List.length_map]
            have h1 := List.length_filter_le (fun d => decide (d ∉ sr l0)) (ks (l0.take i))
            have h2 : (ks (l0.take i)).length = (l0.take i).length := List.length_map ..
            rw [h2, List.length_take] at h1
            exact big (by omega)
          · rw [upd_same, etk, ks_app, List.filter_append]
            have e0 : (ks [p]).filter (fun d => decide (d ∉ sr l0)) = [p.1] := by simp [ks, h]
            rw [e0]
            unfold iv
            rw [List.map_append]
            rfl
      · rintro H5 ⟨hF5, s5⟩
        have ekl : (kvP l0).length = l0.length := List.length_map ..
        rw [ekl, List.take_length] at hF5
        refine ⟨s5 _ _ upd_same, ?_⟩
        have nFA : (upd H4 D (.frz od2 (.dK (kvP l0)))) FA = none := hFA
        have nFD : FA ≠ D := fun z => by
          rw [z, upd_same] at nFA
          cases nFA
        have nF4 : H4 FA = none := by
          rw [upd_ne nFD] at nFA
          exact nFA
        have nFR : FA ≠ R := ne_of_none hR4 nF4 |>.symm
        have nFr : FA ≠ ra := ne_of_none hr4 nF4 |>.symm
        have nrD : ra ≠ D := ne_of hr4 hD4 (by intro z; cases z)
        have nrR : ra ≠ R := ne_of hr4 hR4 (by intro z; cases z)
        have nR0 : H R = none := s1.free hR
        have nF0 : H FA = none := s4.free nF4
        have h0 : WStep H a D R ra FA l0 l0.length [some (.ref a), some (.ref D), some (.ref R), y3, some (.ref ra), some (.ref FA), none] (upd H5 D (.dK (kvP l0))) := by
          have up : ∀ {b : Addr} {o : HO}, H4 b = some o → b ≠ D → (upd H5 D (.dK (kvP l0))) b = some o := fun {b o} e n => by
            rw [upd_ne n]
            exact s5 _ _ (by rw [upd_ne n]; exact e)
          refine ⟨l0, [], _, kr, _, _, rfl, rfl, upd_same, up hR4 nRD.symm, by show kr.length ≤ 20 + 0; omega, cn, ⟨[], up hr4 nrD, .nil⟩, by rw [upd_ne nFD]; exact hF5, WI.start nd0, fun b o e => ?_⟩
          exact up (s4 _ _ e) (ne_of_none e hD)
        refine ⟨WStep H a D R ra FA l0, ⟨_, h0⟩, ?_⟩
        rintro m σ H6 ⟨l, row, free, kr, y3, y6, rfl, rfl, hD6, hR6, lk6, cn6, ⟨rs, hr6, pr6⟩, hF6, wi, s6⟩
        have lrow : row.length + l.length ≤ 20 := by
          have := wi.perm.length_eq
          rw [List.length_append] at this
          omega
        refine ⟨_, rfl, !(iv free).isEmpty, .inl ⟨_, .of hF6, rfl⟩, ?_⟩
        rcases snoc_of free with rfl | ⟨fr, d, rfl⟩
        · refine iteF ⟨_, rfl, _, rfl, (by show 2 ≤ sizeLine; decide), fun t ht => ?_⟩
          have st := same_new (o := .tup [.ref ra, .ref D]) ht
          exact q t ra D row l _ (s6.trans st) upd_same ⟨rs, st _ _ hr6, L2.Paired.mapP pr6 fun _ _ h => h.mono (Tups.of st)⟩ (st _ _ hD6) wi nra hD
        · have eb : (!(iv (fr ++ [d])).isEmpty) = true := by simp [iv]
          rw [eb]
          refine iteT ⟨fun σ' H' => ∃ m', m' < l.length ∧ WStep H a D R ra FA l0 m' σ' H', fun _ _ h => h, ?_⟩
          have hdl := wi.fz d (by simp)
          obtain ⟨sx, hsx⟩ := mem_ks.mp hdl.1
          have ndl := wi.ndl nd0
          have eiv : iv (fr ++ [d]) = iv fr ++ [.int (d : Int)] := List.map_append
          have hlast : (iv (fr ++ [d]))[(iv (fr ++ [d])).length - 1]? = some (.int (d : Int)) := by
            rw [eiv]
            simp
          have edl : (iv (fr ++ [d])).dropLast = iv fr := by
            rw [eiv]
            simp
          refine ⟨_, rfl, .inl ⟨rfl, _, .of hF6⟩, FA, _, .int (d : Int), rfl, rfl, hF6, hlast, ?_⟩
          rw [edl]
          have hD7 : (upd H6 FA (.lst (iv fr))) D = some (.dK (kvP l)) := by rw [upd_ne nFD.symm]; exact hD6
          have hR7 : (upd H6 FA (.lst (iv fr))) R = some (.dK kr) := by rw [upd_ne nFR.symm]; exact hR6
          have hr7 : (upd H6 FA (.lst (iv fr))) ra = some (.lst rs) := by rw [upd_ne nFr.symm]; exact hr6
          have hF7 : (upd H6 FA (.lst (iv fr))) FA = some (.lst (iv fr)) := upd_same
          have s7 := sput (o := .lst (iv fr)) s6 nF0
          have t7 : Tups H6 (upd H6 FA (.lst (iv fr))) := (Tups.refl H6).put hF6 (fun _ z => by cases z)
          generalize upd H6 FA (.lst (iv fr)) = H7 at hD7 hR7 hr7 hF7 s7 t7 ⊢
          refine ⟨_, rfl, D, rfl, .inl ⟨_, .of hD7⟩, _, rfl, kvP l, Sum.inl (d : Int), .int (sx : Int), hD7, rfl, kvP_some ndl hsx, ?_⟩
          rw [kvP_drop]
          have hD8 : (upd H7 D (.dK (kvP (drop l d)))) D = some (.dK (kvP (drop l d))) := upd_same
          have hR8 : (upd H7 D (.dK (kvP (drop l d)))) R = some (.dK kr) := by rw [upd_ne nRD.symm]; exact hR7
          have hr8 : (upd H7 D (.dK (kvP (drop l d)))) ra = some (.lst rs) := by rw [upd_ne nrD]; exact hr7
          have hF8 : (upd H7 D (.dK (kvP (drop l d)))) FA = some (.lst (iv fr)) := by rw [upd_ne nFD]; exact hF7
          have s8 := sput (o := .dK (kvP (drop l d))) s7 hD
          have t8 : Tups H6 (upd H7 D (.dK (kvP (drop l d)))) := t7.put hD7 (fun _ z => by cases z)
          generalize upd H7 D (.dK (kvP (drop l d))) = H8 at hD8 hR8 hr8 hF8 s8 t8 ⊢
          have lrs : rs.length = row.length := pr6.length.symm
          refine ⟨_, rfl, .inl ⟨rfl, _, .of hr8⟩, _, rfl, _, rfl, (by show 2 ≤ sizeLine; decide), fun t ht => ?_⟩
          have st := same_new (o := .tup [.int (d : Int), .int (sx : Int)]) ht
          have ht9 : (upd H8 t (.tup [.int (d : Int), .int (sx : Int)])) t = some (.tup [.int (d : Int), .int (sx : Int)]) := upd_same
          have hD9 := st _ _ hD8
          have hR9 := st _ _ hR8
          have hr9 := st _ _ hr8
          have hF9 := st _ _ hF8
          have s9 := s8.trans st
          have t9 := t8.trans (Tups.of st)
          generalize upd H8 t (.tup [.int (d : Int), .int (sx : Int)]) = H9 at ht9 hD9 hR9 hr9 hF9 s9 t9
          refine ⟨ra, rs, .ref t, rfl, rfl, hr9, by rw [lrs]; exact big (by omega), ?_⟩
          have hD10 : (upd H9 ra (.lst (rs ++ [.ref t]))) D = some (.dK (kvP (drop l d))) := by rw [upd_ne nrD.symm]; exact hD9
          have hR10 : (upd H9 ra (.lst (rs ++ [.ref t]))) R = some (.dK kr) := by rw [upd_ne nrR.symm]; exact hR9
          have hr10 : (upd H9 ra (.lst (rs ++ [.ref t]))) ra = some (.lst (rs ++ [.ref t])) := upd_same
          have hF10 : (upd H9 ra (.lst (rs ++ [.ref t]))) FA = some (.lst (iv fr)) := by rw [upd_ne nFr]; exact hF9
          have s10 := sput (o := .lst (rs ++ [.ref t])) s9 nra
          have tt10 : Tups H9 (upd H9 ra (.lst (rs ++ [.ref t]))) := (Tups.refl H9).put hr9 (fun _ z => by cases z)
          have ht10 := tt10 _ _ ht9
          have t10 := t9.trans tt10
          generalize upd H9 ra (.lst (rs ++ [.ref t])) = H10 at hD10 hR10 hr10 hF10 s10 ht10 t10 ⊢
          have hsrc : sx ∈ sr l0 := mem_sr.mpr ⟨d, wi.perm.mem_iff.mp (List.mem_append_right _ hsx)⟩
          have hval : valV kr (Sum.inl (sx : Int)) = some (.int (cnt l sx : Int)) := by rw [cn6 sx, if_pos hsrc]
          have cd := cnt_drop ndl hsx
          have cdx : cnt l sx = cnt (drop l d) sx + 1 := by rw [cd sx, if_pos rfl]
          refine ⟨_, rfl, _, rfl, R, _, rfl, dgetR (.of hR10) hval, _, _, rfl, rfl, _, DPut.k (k := Sum.inl (sx : Int)) hR10 (big (by omega)), ?_⟩
          have ei : ((cnt l sx : Int) - 1) = ((cnt (drop l d) sx : Nat) : Int) := by rw [cdx]; omega
          rw [ei]
          have lk11 : (putK kr (Sum.inl (sx : Int)) (V.int (cnt (drop l d) sx : Int))).length ≤ kr.length + 1 := length_putK _ _ _
          have cn11 : CntOk (putK kr (Sum.inl (sx : Int)) (V.int (cnt (drop l d) sx : Int))) (sr l0) (drop l d) := CntOk.put cn6 (fun x => ⟨.inl, fun h => h.elim id fun e => by rw [e]; exact hsrc⟩) rfl fun x hx => by
            have := cd x
            rw [if_neg (fun z => hx z.symm)] at this
            exact this.symm
          have hv11 : valV (putK kr (Sum.inl (sx : Int)) (V.int (cnt (drop l d) sx : Int))) (Sum.inl (sx : Int)) = some (.int (cnt (drop l d) sx : Int)) := by rw [valV_put, if_pos rfl]
          generalize putK kr (Sum.inl (sx : Int)) (V.int (cnt (drop l d) sx : Int)) = kr2 at lk11 cn11 hv11
          have hD11 : (upd H10 R (.dK kr2)) D = some (.dK (kvP (drop l d))) := by rw [upd_ne nRD]; exact hD10
          have hR11 : (upd H10 R (.dK kr2)) R = some (.dK kr2) := upd_same
          have hr11 : (upd H10 R (.dK kr2)) ra = some (.lst (rs ++ [.ref t])) := by rw [upd_ne nrR]; exact hr10
          have hF11 : (upd H10 R (.dK kr2)) FA = some (.lst (iv fr)) := by rw [upd_ne nFR]; exact hF10
          have s11 := sput (o := .dK kr2) s10 nR0
          have tt11 : Tups H10 (upd H10 R (.dK kr2)) := (Tups.refl H10).put hR10 (fun _ z => by cases z)
          have ht11 := tt11 _ _ ht10
          have t11 := t10.trans tt11
          generalize upd H10 R (.dK kr2) = H11 at hD11 hR11 hr11 hF11 s11 ht11 t11 ⊢
          have wi2 := wi.step nd0 hsx
          have pr11 : Paired (PrV H11) (row ++ [(d, sx)]) (rs ++ [.ref t]) := prd_app (L2.Paired.mapP pr6 fun _ _ h => h.mono t11) (.cons ⟨t, rfl, ht11⟩ .nil)
          have ldr : (drop l d).length + 1 = l.length := (drop_perm ndl hsx).length_eq
          have fin : ∀ {fr2 : List Nat} {H12 : Hp}, H12 D = some (.dK (kvP (drop l d))) → H12 R = some (.dK kr2) → PrL H12 ra (row ++ [(d, sx)]) → H12 FA = some (.lst (iv fr2)) → WI l0 (drop l d) (row ++ [(d, sx)]) fr2 → Same H H12 →
              ∃ m', m' < l.length ∧ WStep H a D R ra FA l0 m' [some (.ref a), some (.ref D), some (.ref R), some (.int (d : Int)), some (.ref ra), some (.ref FA), some (.int (sx : Int))] H12 := fun g1 g2 g3 g4 g5 g6 =>
            ⟨_, by omega, drop l d, row ++ [(d, sx)], _, kr2, _, _, rfl, rfl, g1, g2, by rw [List.length_append]; show kr2.length ≤ 20 + (row.length + 1); omega, cn11, g3, g4, g5, g6⟩
          refine ⟨_, rfl, _, rfl, R, _, rfl, dgetR (.of hR11) hv11, rfl, _, rfl, ?_⟩
          by_cases hc : cnt (drop l d) sx = 0
          · have e1 : decide (V.int (cnt (drop l d) sx : Int) = V.int 0) = true := by rw [hc]; rfl
            rw [e1]
            refine iteT ⟨_, rfl, _, rfl, D, _, rfl, DGet.k (k := Sum.inl (sx : Int)) hD11, _, rfl, ?_⟩
            by_cases hk : sx ∈ ks (drop l d)
            · rw [if_pos ⟨hc, hk⟩] at wi2
              obtain ⟨y, hy⟩ := mem_ks.mp hk
              rw [kvP_some (wi2.ndl nd0) hy]
              have lf : fr.length ≤ 20 := by
                have h1 := nd_le wi.fnd (l := ks l) fun x hx => (wi.fz x hx).1
                have h2 : (ks l).length = l.length := List.length_map ..
                rw [List.length_append] at h1
                omega
              refine iteT ⟨_, rfl, .inl ⟨rfl, _, .of hF11⟩, _, rfl, FA, _, _, rfl, rfl, hF11, by show (List.map _ _).length < _; rw [List.length_map]; exact big (by omega), ?_⟩
              have tp := (Tups.refl H11).put (o := .lst (iv fr ++ [.int (sx : Int)])) hF11 (fun _ z => by cases z)
              refine fin (fr2 := fr ++ [sx]) (by rw [upd_ne nFD.symm]; exact hD11) (by rw [upd_ne nFR.symm]; exact hR11) ⟨_, by rw [upd_ne nFr.symm]; exact hr11, L2.Paired.mapP pr11 fun _ _ h => h.mono tp⟩ (by rw [upd_same]; unfold iv; rw [List.map_append]; rfl) wi2 (sput s11 nF0)
            · rw [if_neg (fun z => hk z.2)] at wi2
              rw [kvP_none hk]
              exact iteF (fin hD11 hR11 ⟨_, hr11, pr11⟩ hF11 wi2 s11)
          · have e1 : decide (V.int (cnt (drop l d) sx : Int) = V.int 0) = false := decide_eq_false fun z => hc (by have := V.int.inj z; omega)
            rw [e1]
            rw [if_neg (fun z => hc z.1)] at wi2
            exact iteF (iteF (fin hD11 hR11 ⟨_, hr11, pr11⟩ hF11 wi2 s11))
end
end K0

set_option Elab.async false
set_option linter.all false
set_option maxRecDepth 100000
set_option maxHeartbeats 1000000
namespace K0
open PySem L2
abbrev NRO : List Str := ["pairs", "_", "left", "found", "starts", "first", "ring", "d"]
/-- a ring as it stands, not at fa -/
def RgV (H : Hp) (fa : Addr) (r : Pr) (x : V) : Prop := ∃ p, x = .ref p ∧ p ≠ fa ∧ PrL H p r
/-- all but what stands at two places -/
def Keep2 (a b : Addr) (H H' : Hp) : Prop := ∀ c o, H c = some o → c ≠ a → c ≠ b → H' c = some o
theorem PrL.keep {H H' : Hp} {p : Addr} {r : Pr} (h : PrL H p r) (t : Tups H H') (e : ∀ o, H p = some o → H' p = some o) : PrL H' p r := by
  obtain ⟨xs, h1, h2⟩ := h
  exact ⟨xs, e _ h1, L2.Paired.mapP h2 fun _ _ z => z.mono t⟩
structure RoOk (ps : Pr) (R : List Pr) : Prop where
  ex : ∃ row l, WR ps row l ∧ R.flatten.Perm l
  ring : ∀ r ∈ R, IsRing r
def spRO : Sp := fun vs H Q _ => ∃ (a : Addr) (ps : Pr), vs = [.ref a] ∧ PrT H a ps ∧ ps.length ≤ 20 ∧ (ks ps).Nodup ∧
  ∀ (fa : Addr) (R : List Pr) (rs : List V) H', Same H H' → H' fa = some (.lst rs) → Paired (RgV H' fa) R rs → RoOk ps R → H fa = none → Q (.ref fa) H'
/-- within a ring -/
def RStep (H : Hp) (l m : Pr) (R : List Pr) (a u la fa sa p : Addr) (first : Nat) (k : Nat) (σ : L2.St) (H' : Hp) : Prop := ∃ (r m' : Pr) (d : Nat), k = m'.length ∧
  σ = [some (.ref a), some (.ref u), some (.ref la), some (.ref fa), some (.ref sa), some (.int (first : Int)), some (.ref p), some (.int (d : Int))] ∧
  H' la = some (.dK (kvP m')) ∧ PrL H' p r ∧ (r ++ m').Perm m ∧ Chn r first d ∧ Bal m' d first ∧ Keep2 la p H H' ∧ Tups H H'
section
variable {P : Program} {w : World} {K : PySem.W.Frag} {mg : Str → Option Value} {base : Heap}
theorem scRO : FnScope NRO ["pairs"] (defScope sRO) := ⟨rfl, rfl, rfl, by decide +kernel, rfl, by decide +kernel, by decide +kernel⟩
theorem ok_ro {f : Addr} {fd : FuncData} (F : Fun K "rings_of" "rings_of" sRO f fd) (m_sorted : mg "sorted" = none) (GW : Got P w K mg base 1 "_without_rings" ["pairs"] spWR) : FnOk P w K mg base CX0 2 f fd ["pairs"] spRO := by
  obtain ⟨fW, fdW, GW, mW, kW, bW⟩ := GW.ex
  refine F.ok scRO (fun vs H Q E h => ?_) (fun cdv A outer s H vs Q E hr h => ?_)
  · obtain ⟨a, ps, rfl, _⟩ := h
    rfl
  · obtain ⟨a, ps, rfl, pt, lps, ndp, q⟩ := h
    have nd := scRO.nd
    have hu := hu_of hr
    have hr1 : Room 1 _ := hr
    refine ⟨_, (pss_cons (ps_asg (pe_call GW hr1 (by rfl) mW kW bW .nil pass0 (pa_cons (pv 0) pa_nil)) (pg_tup rfl (pgs_cons (pg_name (i := 1) nd rfl (.inl rfl)) (pgs_cons (pg_name (i := 2) nd rfl (.inl rfl)) pgs_nil))))
 (pss_cons (ps_set (i := 3) nd rfl (.inl rfl) (pe_lst pa_nil))
 (pss_cons (ps_set (i := 4) nd rfl (.inl rfl) (pe_callB (call_sortedDI rfl) (by rfl) m_sorted (by decide +kernel) (pa_cons (pv 2) pa_nil)))
 (pss_cons (ps_for PassesOwn.never rfl (pi_list (pv 4)) (pg_name (i := 5) nd rfl (.inl rfl)) (pss_cons (ps_set (i := 6) nd rfl (.inl rfl) (pe_lst pa_nil))
 (pss_cons (ps_set (i := 7) nd rfl (.inl rfl) (pv 5))
 (pss_cons (ps_while PassesOwn.never (pt_cmp (pc_din hu (pv 7) (pv 2))) (pss_cons (ps_expr (pe_bm PySem.F.plainAttrs_list PySem.F.slot_list_append PySem.F.type_list_append mt_append (pv 6) (pa_cons (pe_tup (pa_cons (pv 7) (pa_cons (pe_dpop1 (pv 2) (pv 7) ⟨rfl, rfl, rfl, rfl⟩) pa_nil))) pa_nil)))
 (pss_one (ps_set (i := 7) nd rfl (.inl rfl) (pe_ix (r := rIxT K) ix_tup (pe_ix (r := rIxL K) ix_list (pv 6) (pe_un un_neg pe_int) (fun _ _ => rfl)) pe_int (fun _ _ => rfl))))))
 (pss_one (ps_if (pt_truth (pv 6) (by intro _; rfl)) (pss_one (ps_expr (pe_bm PySem.F.plainAttrs_list PySem.F.slot_list_append PySem.F.type_list_append mt_append (pv 3) (pa_cons (pv 6) pa_nil)))) pss_nil))))))
 (pss_one (ps_ret (pv 3))))))), ?_⟩
    refine ⟨_, rfl, a, ps, rfl, pt, lps, ndp, fun t ra la row l H1 s1 ht1 hr1 hl1 wr nra nla => ?_⟩
    refine ⟨t, _, rfl, .of ht1, rfl, _, _, rfl, _, _, rfl, rfl, ?_⟩
    have nd0 : (ks (ne0 ps)).Nodup := List.Nodup.sublist (List.Sublist.map _ List.filter_sublist) ndp
    have ndl : (ks l).Nodup := by
      have := (ks_perm wr.perm).nodup_iff.mpr nd0
      rw [ks_app] at this
      exact (List.nodup_append.mp this).2.1
    have ll : l.length ≤ 20 := by
      have h1 := wr.perm.length_eq
      have h2 : (ne0 ps).length ≤ ps.length := List.length_filter_le _ _
      rw [List.length_append] at h1
      have h3 : row.length + l.length = (ne0 ps).length := h1
      omega
    have bal0 : (sr l).Perm (ks l) := (perm_of ndl wr.has (by simp [ks, sr])).symm
    refine ⟨(by show 0 ≤ sizeLine; decide), fun fa hfa => ?_⟩
    have sf := same_new (o := .lst []) hfa
    have nfa : H fa = none := s1.free hfa
    have hf2 : (upd H1 fa (.lst [])) fa = some (.lst []) := upd_same
    have hl2 := sf _ _ hl1
    have s2 := s1.trans sf
    generalize upd H1 fa (.lst []) = H2 at hf2 hl2 s2
    refine ⟨_, rfl, la, kvP l, (ks l).map fun n : Nat => (n : Int), rfl, .of hl2, ?_, ?_, fun ys sa pm so hsa => ?_⟩
    · unfold kvP ks
      rw [List.map_map, List.map_map, List.map_map]
      rfl
    · rw [List.length_map]
      show (List.map _ _).length < 64
      rw [List.length_map]
      omega
    obtain ⟨L, rfl, memL⟩ : ∃ L : List Nat, ys = L.map (fun n : Nat => (n : Int)) ∧ ∀ x, x ∈ L ↔ x ∈ ks l := by
      refine ⟨ys.map Int.toNat, ?_, fun x => ?_⟩
      · rw [List.map_map]
        conv => lhs; rw [← List.map_id ys]
        refine List.map_congr_left fun y hy => ?_
        obtain ⟨k, _, rfl⟩ := List.mem_map.mp (pm.mem_iff.mp hy)
        show (k : Int) = (((k : Int).toNat : Nat) : Int)
        omega
      · constructor
        · intro h
          obtain ⟨y, hy, rfl⟩ := List.mem_map.mp h
          obtain ⟨k, hk, rfl⟩ := List.mem_map.mp (pm.mem_iff.mp hy)
          exact hk
        · intro h
          exact List.mem_map.mpr ⟨(x : Int), pm.mem_iff.mpr (List.mem_map.mpr ⟨x, h, rfl⟩), by omega⟩
    have hs3 : (upd H2 sa (.lst ((L.map fun n : Nat => (n : Int)).map V.int))) sa = some (.lst (iv L)) := by
      rw [upd_same, List.map_map]
      rfl
    have ss := same_new (o := .lst ((L.map fun n : Nat => (n : Int)).map V.int)) hsa
    have hf3 := ss _ _ hf2
    have hl3 := ss _ _ hl2
    have s3 := s2.trans ss
    have nsf : sa ≠ fa := ne_of_none hf2 hsa |>.symm
    have nsl : sa ≠ la := ne_of_none hl2 hsa |>.symm
    have nsa : H sa = none := s2.free hsa
    have nfl : fa ≠ la := ne_of hf2 hl2 (by intro z; cases z)
    generalize upd H2 sa (.lst ((L.map fun n : Nat => (n : Int)).map V.int)) = H3 at hs3 hf3 hl3 s3
    refine ⟨_, rfl, sa, rfl, ⟨_, .of hs3⟩, for_list (xs := iv L) (fun i σ H' => ∃ (m : Pr) (R : List Pr) (rs : List V) (y5 y6 y7 : Option V), σ = [some (.ref a), some (.ref ra), some (.ref la), some (.ref fa), some (.ref sa), y5, y6, y7] ∧
        H' la = some (.dK (kvP m)) ∧ H' fa = some (.lst rs) ∧ Paired (RgV H' fa) R rs ∧ RI l m R ∧ H' sa = some (.lst (iv L)) ∧ (∀ x ∈ L.take i, x ∉ ks m) ∧ R.length ≤ i ∧ Same H H')
      ⟨l, [], [], none, none, none, rfl, hl3, hf3, .nil, ⟨List.Perm.refl _, bal0, fun r hr => by cases hr⟩, hs3, fun x hx => by simp at hx, Nat.le_refl _, s3⟩ ?_ ?_ ?_⟩
    · rintro i σ H' _ ⟨_, _, _, _, _, _, _, _, _, _, _, h, _⟩
      exact .of h
    · rintro i x σ H4 hx ⟨m, R, rs, y5, y6, y7, rfl, hl4, hf4, pr4, ri, hs4, tk4, lR, s4⟩
      obtain ⟨first, hfi, rfl⟩ : ∃ n, L[i]? = some n ∧ x = .int (n : Int) := by
        unfold iv at hx
        rw [List.getElem?_map] at hx
        cases e : L[i]? with
        | none => rw [e] at hx; cases hx
        | some n => rw [e] at hx; exact ⟨n, rfl, (Option.some.inj hx).symm⟩
      have ndm : (ks m).Nodup := by
        have := (ks_perm ri.perm).nodup_iff.mpr ndl
        rw [ks_app] at this
        exact (List.nodup_append.mp this).2.1
      have lm : R.flatten.length + m.length ≤ 20 := by
        have := ri.perm.length_eq
        rw [List.length_append] at this
        omega
      refine ⟨(by show 0 ≤ sizeLine; decide), fun p hp => ?_⟩
      have sp := same_new (o := .lst []) hp
      have npf : p ≠ fa := ne_of_none hf4 hp |>.symm
      have npl : p ≠ la := ne_of_none hl4 hp |>.symm
      have nps : p ≠ sa := ne_of_none hs4 hp |>.symm
      have np0 : H p = none := s4.free hp
      have hp5 : (upd H4 p (.lst [])) p = some (.lst []) := upd_same
      have hl5 := sp _ _ hl4
      have hf5 := sp _ _ hf4
      have hs5 := sp _ _ hs4
      have s5 := s4.trans sp
      have pr5 : Paired (fun r x => ∃ q, x = .ref q ∧ q ≠ fa ∧ q ≠ p ∧ q ≠ la ∧ PrL (upd H4 p (.lst [])) q r) R rs := L2.Paired.mapP pr4 fun _ _ ⟨q, e1, e2, e3⟩ => by
        obtain ⟨zs, z1, z2⟩ := e3
        exact ⟨q, e1, e2, ne_of_none z1 hp, ne_of z1 hl4 (by intro z; cases z), zs, sp _ _ z1, L2.Paired.mapP z2 fun _ _ z => z.mono (Tups.of sp)⟩
      generalize upd H4 p (.lst []) = H5 at hp5 hl5 hf5 hs5 s5 pr5
      refine ⟨_, rfl, ?_⟩
      refine ⟨RStep H5 l m R a ra la fa sa p first, ⟨_, [], m, first, rfl, rfl, hl5, ⟨[], hp5, .nil⟩, List.Perm.refl _, rfl, ?_, fun c o e _ _ => e, Tups.refl _⟩, ?_⟩
      · exact ri.bal.cons first
      · rintro k σ H6 ⟨r, m', d, rfl, rfl, hl6, ⟨zs, hp6, pz6⟩, pm6, ch6, bal6, kp6, t6⟩
        have ndm' : (ks m').Nodup := by
          have := (ks_perm pm6).nodup_iff.mpr ndm
          rw [ks_app] at this
          exact (List.nodup_append.mp this).2.1
        have lrm : r.length + m'.length = m.length := by
          have := pm6.length_eq
          rw [List.length_append] at this
          exact this
        refine ⟨_, rfl, _, rfl, la, _, rfl, DGet.k (k := Sum.inl (d : Int)) hl6, _, rfl, ?_⟩
        by_cases hd : d ∈ ks m'
        · obtain ⟨sx, hsx⟩ := mem_ks.mp hd
          rw [kvP_some ndm' hsx]
          refine iteT ⟨fun σ' H' => ∃ k', k' < m'.length ∧ RStep H5 l m R a ra la fa sa p first k' σ' H', fun _ _ h => h, ?_⟩
          have lzs : zs.length = r.length := pz6.length.symm
          refine ⟨_, rfl, .inl ⟨rfl, _, .of hp6⟩, _, rfl, _, rfl, la, rfl, .inl ⟨_, .of hl6⟩, _, rfl, kvP m', Sum.inl (d : Int), .int (sx : Int), hl6, rfl, kvP_some ndm' hsx, ?_⟩
          rw [kvP_drop]
          refine ⟨(by show 2 ≤ sizeLine; decide), fun t ht => ?_⟩
          have hl7 : (upd (upd H6 la (.dK (kvP (drop m' d)))) t (.tup [.int (d : Int), .int (sx : Int)])) la = some (.dK (kvP (drop m' d))) := same_new ht _ _ upd_same
          have hp7 : (upd (upd H6 la (.dK (kvP (drop m' d)))) t (.tup [.int (d : Int), .int (sx : Int)])) p = some (.lst zs) := same_new ht _ _ (by rw [upd_ne npl]; exact hp6)
          have ht7 : (upd (upd H6 la (.dK (kvP (drop m' d)))) t (.tup [.int (d : Int), .int (sx : Int)])) t = some (.tup [.int (d : Int), .int (sx : Int)]) := upd_same
          have t7 : Tups H6 (upd (upd H6 la (.dK (kvP (drop m' d)))) t (.tup [.int (d : Int), .int (sx : Int)])) := ((Tups.refl H6).put hl6 (fun _ z => by cases z)).trans (Tups.of (same_new ht))
          have k7 : ∀ c o, H6 c = some o → c ≠ la → (upd (upd H6 la (.dK (kvP (drop m' d)))) t (.tup [.int (d : Int), .int (sx : Int)])) c = some o := fun c o e n => same_new ht _ _ (by rw [upd_ne n]; exact e)
          generalize upd (upd H6 la (.dK (kvP (drop m' d)))) t (.tup [.int (d : Int), .int (sx : Int)]) = H7 at hl7 hp7 ht7 t7 k7
          refine ⟨p, zs, .ref t, rfl, rfl, hp7, by rw [lzs]; exact big (by omega), ?_⟩
          have hl8 : (upd H7 p (.lst (zs ++ [.ref t]))) la = some (.dK (kvP (drop m' d))) := by rw [upd_ne npl.symm]; exact hl7
          have hp8 : (upd H7 p (.lst (zs ++ [.ref t]))) p = some (.lst (zs ++ [.ref t])) := upd_same
          have tt8 : Tups H7 (upd H7 p (.lst (zs ++ [.ref t]))) := (Tups.refl H7).put hp7 (fun _ z => by cases z)
          have ht8 := tt8 _ _ ht7
          have k8 : ∀ c o, H6 c = some o → c ≠ la → c ≠ p → (upd H7 p (.lst (zs ++ [.ref t]))) c = some o := fun c o e n1 n2 => by
            rw [upd_ne n2]
            exact k7 c o e n1
          generalize upd H7 p (.lst (zs ++ [.ref t])) = H8 at hl8 hp8 tt8 ht8 k8 ⊢
          have t8 := t7.trans tt8
          refine ⟨_, rfl, _, rfl, p, _, _, _, rfl, rfl, .of hp8, atI_last _ _, t, _, _, _, rfl, rfl, .of ht8, atI_nat (j := 1) rfl, ?_⟩
          have pdr := drop_perm ndm' hsx
          refine ⟨(drop m' d).length, ?_, r ++ [(d, sx)], drop m' d, sx, rfl, rfl, hl8, ⟨_, hp8, prd_app (L2.Paired.mapP pz6 fun _ _ z => z.mono t8) (.cons ⟨t, rfl, ht8⟩ .nil)⟩, ?_, ch6.app ⟨rfl, rfl⟩, bal6.step ndm' hsx, fun c o e n1 n2 => k8 c o (kp6 c o e n1 n2) n1 n2, t6.trans t8⟩
          · have := pdr.length_eq
            rw [List.length_cons] at this
            omega
          · rw [List.append_assoc]
            exact (pdr.append_left r).trans pm6
        · rw [kvP_none hd]
          refine iteF ?_
          obtain ⟨rfl, bal7⟩ := bal6.end hd
          refine ⟨_, rfl, !zs.isEmpty, .inl ⟨_, .of hp6, rfl⟩, ?_⟩
          have hf6 := kp6 _ _ hf5 nfl npf.symm
          have hs6 := kp6 _ _ hs5 nsl nps.symm
          have s6 : Same H H6 := fun b o e => by
            have hb := s5 b o e
            by_cases e1 : b = la
            · rw [e1, nla] at e
              cases e
            · by_cases e2 : b = p
              · rw [e2, np0] at e
                cases e
              · exact kp6 b o hb e1 e2
          have pr6 : Paired (RgV H6 fa) R rs := L2.Paired.mapP pr5 fun _ _ ⟨q, e1, e2, e3, e4, e5⟩ => ⟨q, e1, e2, e5.keep t6 fun o e => kp6 q o e e4 e3⟩
          have tkn : ∀ x ∈ L.take (i + 1), x ∉ ks m' := by
            intro x hx hk
            rw [List.take_add_one, hfi] at hx
            rcases List.mem_append.mp hx with hx | hx
            · have : x ∈ ks m := (ks_perm pm6).mem_iff.mp (by rw [ks_app]; exact List.mem_append_right _ hk)
              exact tk4 x hx this
            · have : x = d := by simpa using hx
              rw [this] at hk
              exact hd hk
          have pmR : (R.flatten ++ (r ++ m')).Perm l := (pm6.append_left R.flatten).trans ri.perm
          have lrs : rs.length = R.length := pr6.length.symm
          have il : i < L.length := (List.getElem?_eq_some_iff.mp hfi).1
          have lL : L.length ≤ 20 := by
            have h1 := pm.length_eq
            have h2 : (ks l).length = l.length := List.length_map ..
            rw [List.length_map, List.length_map] at h1
            omega
          cases zs with
          | nil =>
            cases pz6
            exact iteF ⟨m', R, rs, _, _, _, rfl, hl6, hf6, pr6, ⟨pmR, bal7, ri.ring⟩, hs6, tkn, by omega, s6⟩
          | cons z zt =>
            have hne : r ≠ [] := by
              intro e
              rw [e] at pz6
              cases pz6
            refine iteT ⟨_, rfl, .inl ⟨rfl, _, .of hf6⟩, _, rfl, fa, rs, _, rfl, rfl, hf6, by rw [lrs]; exact big (by omega), ?_⟩
            have tf : Tups H6 (upd H6 fa (.lst (rs ++ [.ref p]))) := (Tups.refl H6).put hf6 (fun _ z => by cases z)
            refine ⟨m', R ++ [r], rs ++ [.ref p], _, _, _, rfl, by rw [upd_ne nfl.symm]; exact hl6, upd_same, prd_app (L2.Paired.mapP pr6 fun _ _ ⟨q, e1, e2, e3⟩ => ⟨q, e1, e2, e3.keep tf fun o e => by rw [upd_ne e2]; exact e⟩) (.cons ⟨p, rfl, npf, ⟨_, by rw [upd_ne npf]; exact hp6, L2.Paired.mapP pz6 fun _ _ z => z.mono tf⟩⟩ .nil), ⟨?_, bal7, ?_⟩, by rw [upd_ne nsf]; exact hs6, tkn, by rw [List.length_append]; show R.length + 1 ≤ i + 1; omega, sput s6 nfa⟩
            · have : (R ++ [r]).flatten ++ m' = R.flatten ++ (r ++ m') := by simp
              rw [this]
              exact pmR
            · intro r' hr'
              rcases List.mem_append.mp hr' with h | h
              · exact ri.ring r' h
              · have : r' = r := by simpa using h
                rw [this]
                exact ⟨_, hne, ch6⟩
    · rintro σ H4 ⟨m, R, rs, y5, y6, y7, rfl, hl4, hf4, pr4, ri, hs4, tk4, lR, s4⟩
      have em : m = [] := by
        cases m with
        | nil => rfl
        | cons z m =>
          have h1 : z.1 ∈ ks l := (ks_perm ri.perm).mem_iff.mp (by rw [ks_app]; exact List.mem_append_right _ List.mem_cons_self)
          have h2 : (iv L).length = L.length := List.length_map ..
          rw [h2, List.take_length] at tk4
          exact absurd List.mem_cons_self (tk4 z.1 ((memL z.1).mpr h1))
      subst em
      refine ⟨_, rfl, q fa R rs H4 s4 hf4 pr4 ⟨⟨row, l, wr, by have := ri.perm; rw [List.append_nil] at this; exact this⟩, ri.ring⟩ nfa⟩
end
end K0

set_option Elab.async false
set_option linter.all false
set_option maxRecDepth 100000
set_option maxHeartbeats 1000000
namespace K0
open PySem L2
abbrev NSq : List Str := ["pairs", "spare", "row", "_", "found", "ring", "d", "s"]
/-- a move as it stands -/
def MvV (H : Hp) (p : Nat × Nat) (x : V) : Prop := ∃ t, x = .ref t ∧ H t = some (.tup [.str "move", .int (p.1 : Int), .int (p.2 : Int)])
theorem MvV.mono {H H' : Hp} (s : Tups H H') {p : Nat × Nat} {x : V} (h : MvV H p x) : MvV H' p x := by
  obtain ⟨t, e, h⟩ := h
  exact ⟨t, e, s _ _ h⟩
def MvL (H : Hp) (a : Addr) (ms : Pr) : Prop := ∃ xs, H a = some (.lst xs) ∧ Paired (MvV H) ms xs
/-- what is made of the pairs -/
structure SqOk (ps row : Pr) (R : List Pr) : Prop where
  perm : (row ++ R.flatten).Perm (ne0 ps)
  ord : OrdR row
  src : ∀ p ∈ R.flatten, p.2 ∉ ks row
  rings : Rings (ne0 ps) R
theorem sq_of {ps row l : Pr} {R : List Pr} (ndp : (ks ps).Nodup) (h : WR ps row l) (g : RoOk ps R) : SqOk ps row R := by
  obtain ⟨⟨row2, l2, h2, p2⟩, ring⟩ := g
  have nd0 : (ks (ne0 ps)).Nodup := List.Nodup.sublist (List.Sublist.map _ List.filter_sublist) ndp
  have sub : ∀ {row l : Pr}, WR ps row l → ∀ p ∈ l, p ∈ ne0 ps := fun h p hp => h.perm.mem_iff.mp (List.mem_append_right _ hp)
  have go : ∀ {r1 l1 r2 l2 : Pr}, WR ps r1 l1 → WR ps r2 l2 → ∀ x ∈ ks l1, x ∈ ks l2 := fun {r1 l1 r2 l2} h1 h2 x hx => by
    refine h2.all (fun z => z ∈ ks l1) (fun z hz => ?_) x hx
    obtain ⟨y, hy⟩ := mem_sr.mp (h1.has z hz)
    obtain ⟨v, hv⟩ := mem_ks.mp hz
    exact ⟨mem_ks.mpr ⟨v, sub h1 _ hv⟩, y, mem_ks.mpr ⟨z, hy⟩, sub h1 _ hy⟩
  have ndl : ∀ {row l : Pr}, WR ps row l → (ks l).Nodup := fun h => by
    have := (ks_perm h.perm).nodup_iff.mpr nd0
    rw [ks_app] at this
    exact (List.nodup_append.mp this).2.1
  have nodup_of : ∀ {l : Pr}, (ks l).Nodup → l.Nodup := fun {l} h => List.Pairwise.of_map (R := (· ≠ ·)) (S := (· ≠ ·)) (fun p : Nat × Nat => p.1) (fun a b n e => n (by rw [e])) h
  have pl : l2.Perm l := by
    refine (List.perm_ext_iff_of_nodup (nodup_of (ndl h2)) (nodup_of (ndl h))).mpr fun p => ?_
    have one : ∀ {r1 l1 r2 l2 : Pr}, WR ps r1 l1 → WR ps r2 l2 → p ∈ l1 → p ∈ l2 := fun h1 h2 hp => by
      obtain ⟨v, hv⟩ := mem_ks.mp (go h1 h2 p.1 (mem_ks.mpr ⟨p.2, hp⟩))
      have := fn nd0 (sub h2 _ hv) (sub h1 _ hp)
      rw [this] at hv
      exact hv
    exact ⟨one h2 h, one h h2⟩
  have pf := p2.trans pl
  refine ⟨(pf.append_left row).trans h.perm, h.ord, fun p hp => h.src p (pf.mem_iff.mp hp), ring, fun p hp => sub h p (pf.mem_iff.mp hp), (ks_perm pf).nodup_iff.mpr (ndl h), fun Z hZ z hz => (ks_perm pf).mem_iff.mpr (h.all Z hZ z hz)⟩
def spSeq : Sp := fun vs H Q _ => ∃ (a : Addr) (ps : Pr) (spare : Nat), vs = [.ref a, .int (spare : Int)] ∧ PrT H a ps ∧ ps.length ≤ 20 ∧ (ks ps).Nodup ∧
  ∀ (fa : Addr) (row : Pr) (R : List Pr) H', Same H H' → MvL H' fa (row ++ ringsMv spare R) → SqOk ps row R → Q (.ref fa) H'
theorem cut_last {xs : List V} {x : V} : cutV (xs ++ [x]) none (some (-1)) = xs := by
  unfold cutV
  have e1 : HT.sIx (xs ++ [x]).length 0 none = 0 := HT.sIx_none _ _
  have e2 : HT.sIx (xs ++ [x]).length (xs ++ [x]).length (some (-1)) = xs.length := by
    unfold HT.sIx
    simp
    omega
  rw [e1, e2, List.drop_zero, Nat.sub_zero]
  exact List.take_left' rfl
theorem ring_ne {H : Hp} {g fa : Addr} {r ms : Pr} {vs : List V} (hne : r ≠ []) (h1 : PrL H g r) (h2 : H fa = some (.lst vs)) (h3 : Paired (MvV H) ms vs) : g ≠ fa := by
  rintro rfl
  obtain ⟨zs, hz, pz⟩ := h1
  rw [h2] at hz
  have e := HO.lst.inj (Option.some.inj hz)
  subst e
  cases pz with
  | nil => exact hne rfl
  | cons a t =>
    obtain ⟨u, rfl, hu⟩ := a
    cases h3 with
    | cons b w =>
      obtain ⟨u', e, hu'⟩ := b
      cases e
      rw [hu] at hu'
      have := congrArg List.length (HO.tup.inj (Option.some.inj hu'))
      simp at this
theorem prd_snoc {α β : Type} {F : α → β → Prop} : ∀ {xs : List α} {ys : List β} {x : α}, Paired F (xs ++ [x]) ys → ∃ zs z, ys = zs ++ [z] ∧ Paired F xs zs ∧ F x z
  | [], _, _, .cons a .nil => ⟨[], _, rfl, .nil, a⟩
  | y :: r, _, _, .cons a t => by
    obtain ⟨zs, z, e, h1, h2⟩ := prd_snoc (xs := r) t
    exact ⟨_ :: zs, z, by rw [e]; rfl, .cons a h1, h2⟩
section
variable {P : Program} {w : World} {K : PySem.W.Frag} {mg : Str → Option Value} {base : Heap}
theorem scSeq : FnScope NSq ["pairs", "spare"] (defScope sSeq) := ⟨rfl, rfl, rfl, by decide +kernel, rfl, by decide +kernel, by decide +kernel⟩
theorem ok_seq {f : Addr} {fd : FuncData} (F : Fun K "sequence" "sequence" sSeq f fd) (GW : Got P w K mg base 1 "_without_rings" ["pairs"] spWR) (GO : Got P w K mg base 2 "rings_of" ["pairs"] spRO) : FnOk P w K mg base CX0 3 f fd ["pairs", "spare"] spSeq := by
  obtain ⟨fW, fdW, GW, mW, kW, bW⟩ := GW.ex
  obtain ⟨fO, fdO, GO, mO, kO, bO⟩ := GO.ex
  refine F.ok scSeq (fun vs H Q E h => ?_) (fun cdv A outer s H vs Q E hr h => ?_)
  · obtain ⟨a, ps, spare, rfl, _⟩ := h
    rfl
  · obtain ⟨a, ps, spare, rfl, pt, lps, ndp, q⟩ := h
    have nd := scSeq.nd
    have hr1 : Room 1 _ := hr.mono (by decide)
    have hr2 : Room 2 _ := hr
    refine ⟨_, (pss_cons (ps_asg (pe_call GW hr1 (by rfl) mW kW bW .nil pass0 (pa_cons (pv 0) pa_nil)) (pg_tup rfl (pgs_cons (pg_name (i := 2) nd rfl (.inl rfl)) (pgs_cons (pg_name (i := 3) nd rfl (.inl rfl)) pgs_nil))))
 (pss_cons (ps_setLc (i := 4) (own := [("d", 6), ("s", 7)]) (g := (gTup K 2 (gCons (gName 6) (gCons (gName 7) gNil)))) (tt := tYes) (by rfl) nd rfl rfl (sw_true rfl rfl rfl (by decide +kernel)) (pi_list (pv 2)) (blkOk_by (N := NSq) (sc := defScope sSeq) (by decide +kernel)) (fun _ _ _ _ _ => (pg_tup rfl (pgs_cons (pg_name (i := 6) nd rfl (.inl rfl)) (pgs_cons (pg_name (i := 7) nd rfl (.inl rfl)) pgs_nil)))) (fun _ _ _ _ _ => pts_nil) (fun _ _ _ _ _ => (pe_tup (pa_cons pe_str (pa_cons (pv 6) (pa_cons (pv 7) pa_nil))))))
 (pss_cons (ps_for PassesOwn.never rfl (pi_list (pe_call GO hr2 (by rfl) mO kO bO .nil pass0 (pa_cons (pv 0) pa_nil))) (pg_name (i := 5) nd rfl (.inl rfl)) (pss_cons (ps_expr (pe_bm PySem.F.plainAttrs_list PySem.F.slot_list_append PySem.F.type_list_append mt_append (pv 4) (pa_cons (pe_tup (pa_cons pe_str (pa_cons (pv 1) (pa_cons (pe_ix (r := rIxT K) ix_tup (pe_ix (r := rIxL K) ix_list (pv 5) pe_int (fun _ _ => rfl)) pe_int (fun _ _ => rfl)) pa_nil)))) pa_nil)))
 (pss_cons (ps_expr (pe_bm PySem.F.plainAttrs_list PySem.F.slot_list_extend PySem.F.type_list_extend mt_extend (pv 4) (pa_cons (pe_lc (own := [("d", 6), ("s", 7)]) (g := (gTup K 2 (gCons (gName 6) (gCons (gName 7) gNil)))) (tt := tYes) rfl nd (pi_list (pe_slice sl_list (pv 5) po_none (po_some (pe_un un_neg pe_int)))) (blkOk_by (N := NSq) (sc := defScope sSeq) (by decide +kernel)) (fun _ _ _ _ _ => (pg_tup rfl (pgs_cons (pg_name (i := 6) nd rfl (.inl rfl)) (pgs_cons (pg_name (i := 7) nd rfl (.inl rfl)) pgs_nil)))) (fun _ _ _ _ _ => pts_nil) (fun _ _ _ _ _ => (pe_tup (pa_cons pe_str (pa_cons (pv 6) (pa_cons (pv 7) pa_nil)))))) pa_nil)))
 (pss_one (ps_expr (pe_bm PySem.F.plainAttrs_list PySem.F.slot_list_append PySem.F.type_list_append mt_append (pv 4) (pa_cons (pe_tup (pa_cons pe_str (pa_cons (pe_ix (r := rIxT K) ix_tup (pe_ix (r := rIxL K) ix_list (pv 5) (pe_un un_neg pe_int) (fun _ _ => rfl)) pe_int (fun _ _ => rfl)) (pa_cons (pv 1) pa_nil)))) pa_nil)))))))
 (pss_one (ps_ret (pv 4)))))), ?_⟩
    refine ⟨_, rfl, a, ps, rfl, pt, lps, ndp, fun t ra la row l H1 s1 ht1 ⟨rw1, hr1, pr1⟩ hl1 wr nra nla => ?_⟩
    refine ⟨t, _, rfl, .of ht1, rfl, _, _, rfl, _, _, rfl, rfl, ?_⟩
    have l0 : (ne0 ps).length ≤ 20 := Nat.le_trans (List.length_filter_le _ _) lps
    have lrow : row.length ≤ 20 := by
      have h1 := wr.perm.length_eq
      rw [List.length_append] at h1
      have h3 : row.length + l.length = (ne0 ps).length := h1
      omega
    have lrw : rw1.length = row.length := pr1.length.symm
    refine ⟨_, rfl, ra, rfl, ⟨_, .of hr1⟩, fun fa hfa => lc_list (xs := rw1) (fun i H' => (∃ vs, H' fa = some (.lst vs) ∧ Paired (MvV H') (row.take i) vs) ∧ Same H1 H') ⟨⟨[], upd_same, .nil⟩, same_new hfa⟩ ?_ ?_ ?_⟩
    · rintro i H' _ ⟨_, sm⟩
      exact .of (sm _ _ hr1)
    · rintro i x H2 hx ⟨⟨vs, hv, pv2⟩, s2⟩
      obtain ⟨p, hp, u, rfl, hu⟩ := prd_get' pr1 hx
      have il : i < row.length := (List.getElem?_eq_some_iff.mp hp).1
      have etk : row.take (i + 1) = row.take i ++ [p] := by
        rw [List.take_add_one, hp]
        rfl
      have lvs : vs.length = (row.take i).length := pv2.length.symm
      rw [List.length_take] at lvs
      refine ⟨u, _, rfl, .of (s2 _ _ hu), rfl, _, _, rfl, _, _, rfl, rfl, rfl, tYes_go ?_⟩
      refine ⟨_, rfl, _, rfl, (by show 3 ≤ sizeLine; decide), fun n hn => ⟨vs, same_new hn _ _ hv, big (by omega), ?_⟩⟩
      have sn := same_new (o := .tup [.str "move", .int (p.1 : Int), .int (p.2 : Int)]) hn
      have tn : Tups H2 (upd (upd H2 n (.tup [.str "move", .int (p.1 : Int), .int (p.2 : Int)])) fa (.lst (vs ++ [.ref n]))) := (Tups.of sn).put (sn _ _ hv) (fun _ z => by cases z)
      have hn2 : (upd (upd H2 n (.tup [.str "move", .int (p.1 : Int), .int (p.2 : Int)])) fa (.lst (vs ++ [.ref n]))) n = some (.tup [.str "move", .int (p.1 : Int), .int (p.2 : Int)]) := by
        rw [upd_ne (ne_of_none hv hn).symm]
        exact upd_same
      refine ⟨⟨vs ++ [.ref n], upd_same, ?_⟩, sput (s2.trans sn) hfa⟩
      rw [etk]
      exact prd_app (L2.Paired.mapP pv2 fun _ _ z => z.mono tn) (.cons ⟨n, rfl, hn2⟩ .nil)
    rintro H2 ⟨⟨vs, hf2, pv2⟩, s2⟩
    rw [lrw, List.take_length] at pv2
    have nfa : H fa = none := s1.free hfa
    have s02 := s1.trans s2
    obtain ⟨xs0, hx0, px0⟩ := id pt
    refine ⟨_, rfl, a, ps, rfl, ⟨xs0, s02 _ _ hx0, L2.Paired.mapP px0 fun _ _ z => z.mono (Tups.of s02)⟩, lps, ndp, fun ga R rs H3 s3 hg3 pr3 ro nga => ?_⟩
    have sq := sq_of ndp wr ro
    have hf3 := s3 _ _ hf2
    have pv3 : Paired (MvV H3) row vs := L2.Paired.mapP pv2 fun _ _ z => z.mono (Tups.of s3)
    have s03 := s02.trans s3
    have ngf : ga ≠ fa := (ne_of_none hf2 nga).symm
    have lF : R.flatten.length + row.length ≤ 20 := by
      have := sq.perm.length_eq
      rw [List.length_append] at this
      omega
    have lrs : rs.length = R.length := pr3.length.symm
    have lRf : ∀ {R : List Pr}, (∀ r ∈ R, IsRing r) → R.length ≤ R.flatten.length := fun {R} h => by
      induction R with
      | nil => exact Nat.zero_le _
      | cons r R ih =>
        obtain ⟨_, hne, _⟩ := h r List.mem_cons_self
        have h1 := ih fun x hx => h x (List.mem_cons_of_mem _ hx)
        have h2 : r.length ≠ 0 := fun z => hne (List.eq_nil_of_length_eq_zero z)
        show R.length + 1 ≤ (r ++ R.flatten).length
        rw [List.length_append]
        omega
    have lR := lRf ro.ring
    refine ⟨ga, rfl, ⟨_, .of hg3⟩, for_list (xs := rs) (fun i σ H' => ∃ (vs : List V) (y5 y6 y7 : Option V), σ = [some (.ref a), some (.int (spare : Int)), some (.ref ra), some (.ref la), some (.ref fa), y5, y6, y7] ∧ H' fa = some (.lst vs) ∧ Paired (MvV H') (row ++ ringsMv spare (R.take i)) vs ∧ vs.length ≤ 50 + 50 * i ∧ (∀ b o, H3 b = some o → b ≠ fa → H' b = some o))
      ⟨vs, none, none, none, rfl, hf3, by rw [List.take_zero]; show Paired _ (row ++ []) _; rw [List.append_nil]; exact pv3, by rw [← pv3.length]; omega, fun b o e _ => e⟩ ?_ ?_ ?_⟩
    · rintro i σ H' _ ⟨_, _, _, _, _, _, _, _, k⟩
      exact .of (k _ _ hg3 ngf)
    · rintro i x σ H4 hx ⟨vs, y5, y6, y7, rfl, hf4, pv4, lv4, k4⟩
      obtain ⟨r, hri, g, rfl, hgf, zs, hgz, pz⟩ := prd_get' pr3 hx
      obtain ⟨fst, hne, chn⟩ := ro.ring r (List.mem_of_getElem? hri)
      have iR : i < R.length := (List.getElem?_eq_some_iff.mp hri).1
      have lr : r.length ≤ 20 := by
        have h1 : ∀ {R : List Pr}, r ∈ R → r.length ≤ R.flatten.length := fun {R} h => by
          induction R with
          | nil => cases h
          | cons x R ih =>
            show _ ≤ (x ++ R.flatten).length
            rw [List.length_append]
            rcases List.mem_cons.mp h with rfl | h
            · omega
            · have := ih h
              omega
        have := h1 (List.mem_of_getElem? hri)
        omega
      rcases snoc_of r with rfl | ⟨ri, pl, rfl⟩
      · exact absurd rfl hne
      obtain ⟨zi, zl, rfl, pzi, ul, rfl, hul⟩ := prd_snoc pz
      have ngf2 : g ≠ fa := ring_ne hne ⟨_, hgz, pz⟩ hf3 pv3
      have hg4 := k4 _ _ hgz ngf2
      have t34 : Tups H3 H4 := fun b xs e => k4 _ _ e (ne_of e hf3 (by intro z; cases z))
      have pz4 : Paired (PrV H4) (ri ++ [pl]) (zi ++ [.ref ul]) := L2.Paired.mapP pz fun _ _ z => z.mono t34
      have pzi4 : Paired (PrV H4) ri zi := L2.Paired.mapP pzi fun _ _ z => z.mono t34
      have hul4 := t34 _ _ hul
      obtain ⟨p0, q0, u0, zr, e0, e0', hu0⟩ : ∃ p0 q0 u0 zr, ri ++ [pl] = p0 :: q0 ∧ zi ++ [.ref ul] = .ref u0 :: zr ∧ H4 u0 = some (.tup [.int (p0.1 : Int), .int (p0.2 : Int)]) := by
        cases hz : ri ++ [pl] with
        | nil => simp at hz
        | cons p0 q0 =>
          rw [hz] at pz4
          obtain ⟨w, hw⟩ : ∃ w, zi ++ [V.ref ul] = w := ⟨_, rfl⟩
          rw [hw] at pz4 ⊢
          cases pz4 with
          | cons a t =>
            obtain ⟨u, rfl, hu⟩ := a
            exact ⟨_, _, _, _, rfl, rfl, hu⟩
      have h0 : (zi ++ [V.ref ul])[0]? = some (.ref u0) := by rw [e0']; rfl
      refine ⟨_, rfl, .inl ⟨rfl, _, .of hf4⟩, _, rfl, _, rfl, g, _, _, _, rfl, rfl, .of hg4, atI_nat (j := 0) h0, u0, _, _, _, rfl, rfl, .of hu0, atI_nat (j := 0) rfl, (by show 3 ≤ sizeLine; decide), fun n hn => ⟨fa, vs, .ref n, rfl, rfl, same_new hn _ _ hf4, big (by omega), ?_⟩⟩
      have sn := same_new (o := .tup [.str "move", .int (spare : Int), .int (p0.1 : Int)]) hn
      have tn : Tups H4 (upd (upd H4 n (.tup [.str "move", .int (spare : Int), .int (p0.1 : Int)])) fa (.lst (vs ++ [.ref n]))) := (Tups.of sn).put (sn _ _ hf4) (fun _ z => by cases z)
      have hn5 : (upd (upd H4 n (.tup [.str "move", .int (spare : Int), .int (p0.1 : Int)])) fa (.lst (vs ++ [.ref n]))) n = some (.tup [.str "move", .int (spare : Int), .int (p0.1 : Int)]) := by
        rw [upd_ne (ne_of_none hf4 hn).symm]
        exact upd_same
      have hf5 : (upd (upd H4 n (.tup [.str "move", .int (spare : Int), .int (p0.1 : Int)])) fa (.lst (vs ++ [.ref n]))) fa = some (.lst (vs ++ [.ref n])) := upd_same
      have k5 : ∀ b o, H4 b = some o → b ≠ fa → (upd (upd H4 n (.tup [.str "move", .int (spare : Int), .int (p0.1 : Int)])) fa (.lst (vs ++ [.ref n]))) b = some o := fun b o e n => by
        rw [upd_ne n]
        exact sn _ _ e
      generalize upd (upd H4 n (.tup [.str "move", .int (spare : Int), .int (p0.1 : Int)])) fa (.lst (vs ++ [.ref n])) = H5 at tn hn5 hf5 k5 ⊢
      have hg5 := k5 _ _ hg4 ngf2
      refine ⟨_, rfl, .inl ⟨rfl, _, .of hf5⟩, _, rfl, _, rfl, _, rfl, g, _, rfl, .of hg5, fun c hc => ?_⟩
      rw [cut_last]
      have sc := same_new (o := .lst zi) hc
      refine ⟨c, rfl, ⟨_, .of upd_same⟩, fun D hD => lc_list (xs := zi) (fun i H' => (∃ vs, H' D = some (.lst vs) ∧ Paired (MvV H') (ri.take i) vs) ∧ Same (upd H5 c (.lst zi)) H') ⟨⟨[], upd_same, .nil⟩, same_new hD⟩ ?_ ?_ ?_⟩
      · rintro i H' _ ⟨_, sm⟩
        exact .of (sm _ _ upd_same)
      · rintro i x H6 hx ⟨⟨ws, hw6, pw6⟩, s6⟩
        obtain ⟨p, hp, u, rfl, hu⟩ := prd_get' pzi4 hx
        have il : i < ri.length := (List.getElem?_eq_some_iff.mp hp).1
        have etk : ri.take (i + 1) = ri.take i ++ [p] := by
          rw [List.take_add_one, hp]
          rfl
        have lws : ws.length = (ri.take i).length := pw6.length.symm
        rw [List.length_take] at lws
        rw [List.length_append] at lr
        refine ⟨u, _, rfl, .of (s6 _ _ (sc _ _ (tn _ _ hu))), rfl, _, _, rfl, _, _, rfl, rfl, rfl, tYes_go ?_⟩
        refine ⟨_, rfl, _, rfl, (by show 3 ≤ sizeLine; decide), fun n hn => ⟨ws, same_new hn _ _ hw6, big (by omega), ?_⟩⟩
        have sn := same_new (o := .tup [.str "move", .int (p.1 : Int), .int (p.2 : Int)]) hn
        have tn : Tups H6 (upd (upd H6 n (.tup [.str "move", .int (p.1 : Int), .int (p.2 : Int)])) D (.lst (ws ++ [.ref n]))) := (Tups.of sn).put (sn _ _ hw6) (fun _ z => by cases z)
        have hn2 : (upd (upd H6 n (.tup [.str "move", .int (p.1 : Int), .int (p.2 : Int)])) D (.lst (ws ++ [.ref n]))) n = some (.tup [.str "move", .int (p.1 : Int), .int (p.2 : Int)]) := by
          rw [upd_ne (ne_of_none hw6 hn).symm]
          exact upd_same
        refine ⟨⟨ws ++ [.ref n], upd_same, ?_⟩, sput (s6.trans sn) hD⟩
        rw [etk]
        exact prd_app (L2.Paired.mapP pw6 fun _ _ z => z.mono tn) (.cons ⟨n, rfl, hn2⟩ .nil)
      rintro H6 ⟨⟨ws, hw6, pw6⟩, s6⟩
      rw [← pzi4.length, List.take_length] at pw6
      have s56 := sc.trans s6
      have hf6 := s56 _ _ hf5
      have lws : ws.length = ri.length := pw6.length.symm
      have lr' : ri.length + 1 ≤ 20 := by
        rw [List.length_append] at lr
        exact lr
      refine ⟨fa, D, _, _, rfl, rfl, hf6, hw6, Nat.le_of_lt (big (by rw [List.length_append]; show vs.length + 1 + ws.length ≤ _; omega)), ?_⟩
      have t7 : Tups H6 (upd H6 fa (.lst (vs ++ [.ref n] ++ ws))) := (Tups.refl H6).put hf6 (fun _ z => by cases z)
      have hf7 : (upd H6 fa (.lst (vs ++ [.ref n] ++ ws))) fa = some (.lst (vs ++ [.ref n] ++ ws)) := upd_same
      have k7 : ∀ b o, H5 b = some o → b ≠ fa → (upd H6 fa (.lst (vs ++ [.ref n] ++ ws))) b = some o := fun b o e n => by
        rw [upd_ne n]
        exact s56 _ _ e
      generalize upd H6 fa (.lst (vs ++ [.ref n] ++ ws)) = H7 at t7 hf7 k7 ⊢
      have t57 : Tups H5 H7 := (Tups.of s56).trans t7
      have hg7 := k7 _ _ hg5 ngf2
      refine ⟨_, rfl, .inl ⟨rfl, _, .of hf7⟩, _, rfl, _, rfl, g, _, _, _, rfl, rfl, .of hg7, atI_last _ _, ul, _, _, _, rfl, rfl, .of (t57 _ _ (tn _ _ hul4)), atI_nat (j := 0) rfl, _, rfl, (by show 3 ≤ sizeLine; decide), fun n2 hn2 => ⟨fa, _, .ref n2, rfl, rfl, same_new hn2 _ _ hf7, big (by rw [List.length_append, List.length_append]; show vs.length + 1 + ws.length ≤ _; omega), ?_⟩⟩
      have sn2 := same_new (o := .tup [.str "move", .int (pl.1 : Int), .int (spare : Int)]) hn2
      have tn2 : Tups H7 (upd (upd H7 n2 (.tup [.str "move", .int (pl.1 : Int), .int (spare : Int)])) fa (.lst (vs ++ [.ref n] ++ ws ++ [.ref n2]))) := (Tups.of sn2).put (sn2 _ _ hf7) (fun _ z => by cases z)
      have hn8 : (upd (upd H7 n2 (.tup [.str "move", .int (pl.1 : Int), .int (spare : Int)])) fa (.lst (vs ++ [.ref n] ++ ws ++ [.ref n2]))) n2 = some (.tup [.str "move", .int (pl.1 : Int), .int (spare : Int)]) := by
        rw [upd_ne (ne_of_none hf7 hn2).symm]
        exact upd_same
      refine ⟨vs ++ [.ref n] ++ ws ++ [.ref n2], _, _, _, rfl, upd_same, ?_, ?_, fun b o e nb => ?_⟩
      · have e1 : ringsMv spare (R.take (i + 1)) = ringsMv spare (R.take i) ++ ((spare, p0.1) :: ri ++ [(pl.1, spare)]) := by
          rw [List.take_add_one, hri]
          unfold ringsMv
          rw [List.flatMap_append]
          congr 1
          show ringMv spare (ri ++ [pl]) ++ [] = _
          rw [List.append_nil]
          unfold ringMv
          rw [List.dropLast_concat, e0]
          have : (p0 :: q0).getLastD (0, 0) = pl := by
            rw [← e0]
            simp
          rw [this]
          rfl
        have e2 : row ++ ringsMv spare (R.take (i + 1)) = ((row ++ ringsMv spare (R.take i)) ++ [(spare, p0.1)]) ++ ri ++ [(pl.1, spare)] := by
          rw [e1]
          simp
        rw [e2]
        have tA := tn.trans (t57.trans tn2)
        exact prd_app (prd_app (prd_app (L2.Paired.mapP pv4 fun _ _ z => z.mono tA) (.cons ⟨n, rfl, tn2 _ _ (t57 _ _ hn5)⟩ .nil)) (L2.Paired.mapP pw6 fun _ _ z => z.mono (t7.trans tn2))) (.cons ⟨n2, rfl, hn8⟩ .nil)
      · rw [List.length_append, List.length_append, List.length_append]
        show vs.length + 1 + ws.length + 1 ≤ _
        omega
      · rw [upd_ne nb]
        exact sn2 _ _ (k7 _ _ (k5 _ _ (k4 _ _ e nb) nb) nb)
    · rintro σ H4 ⟨vs, y5, y6, y7, rfl, hf4, pv4, lv4, k4⟩
      rw [lrs, List.take_length] at pv4
      refine ⟨_, rfl, q fa row R H4 (fun b o e => k4 _ _ (s03 b o e) (ne_of_none e nfa)) ⟨_, hf4, pv4⟩ sq⟩
end
end K0

set_option Elab.async false
set_option linter.all false
set_option maxRecDepth 100000
set_option maxHeartbeats 1000000
namespace K0
open PySem L2
abbrev NLR : List Str := ["left", "rings", "seen", "first", "way", "here", "one"]
theorem in_iv (x : Nat) : ∀ l : List Nat, inV (.int (x : Int)) (iv l) = decide (x ∈ l)
  | [] => rfl
  | y :: r => by
    show (eqV (.int (y : Int)) (.int (x : Int)) || inV (.int (x : Int)) (iv r)) = _
    rw [in_iv x r]
    have e : eqV (.int (y : Int)) (.int (x : Int)) = decide (y = x) := by
      show ((y : Int) == (x : Int)) = _
      by_cases h : y = x
      · simp [h]
      · rw [decide_eq_false h]
        exact beq_eq_false_iff_ne.mpr (by omega)
    rw [e]
    by_cases h : y = x
    · simp [h]
    · have h' : ¬ x = y := fun z => h z.symm
      simp [h, h']
theorem flat_iv : ∀ l : List Nat, (iv l).all flatV = true
  | [] => rfl
  | x :: r => flat_iv r
/-- a set as the keys of a dict -/
def SetOk (kr : List (Key × V)) (S : List Nat) : Prop := ∀ x : Nat, valV kr (Sum.inl (x : Int)) = if x ∈ S then some (.bl true) else none
theorem SetOk.put {kr : List (Key × V)} {S : List Nat} (h : SetOk kr S) {s : Nat} {S' : List Nat} (hs : ∀ x, x ∈ S' ↔ x ∈ S ∨ x = s) : SetOk (putK kr (Sum.inl (s : Int)) (.bl true)) S' := by
  intro x
  rw [valV_put]
  by_cases e : x = s
  · subst e
    rw [if_pos rfl, if_pos ((hs x).mpr (.inr rfl))]
  · rw [if_neg (fun z => e (by have := Sum.inl.inj z; omega)), h x]
    have : x ∈ S' ↔ x ∈ S := by rw [hs x]; exact ⟨fun h => h.resolve_right e, .inl⟩
    simp only [this]
theorem mem_last {w : List Nat} {a b h : Nat} (ha : a ∈ w) (hb : b ∈ [h]) (e : a = b) : h ∈ w := by
  have : b = h := by simpa using hb
  rw [← this, ← e]
  exact ha
theorem SetOk.isNone {kr : List (Key × V)} {S : List Nat} (h : SetOk kr S) (x : Nat) : (!(valV kr (Sum.inl (x : Int))).isSome) = decide (x ∉ S) := by
  rw [h x]
  by_cases e : x ∈ S <;> simp [e]
theorem kvP_isSome {l : Pr} (nd : (ks l).Nodup) (x : Nat) : (valV (kvP l) (Sum.inl (x : Int))).isSome = decide (x ∈ ks l) := by
  by_cases e : x ∈ ks l
  · obtain ⟨y, hy⟩ := mem_ks.mp e
    rw [kvP_some nd hy, decide_eq_true e]
    rfl
  · rw [kvP_none e, decide_eq_false e]
    rfl
def spLR : Sp := fun vs H Q _ => ∃ (la : Addr) (l : Pr) (R : List Pr), vs = [.ref la] ∧ H la = some (.dK (kvP l)) ∧ (ks l).Nodup ∧ l.length ≤ 20 ∧ Rings l R ∧ ∀ H', Same H H' → Q (.int (R.length : Int)) H'
/-- on the way -/
def YStep (H : Hp) (l : Pr) (S : List Nat) (la sn wa : Addr) (n : Int) (first : Nat) (k : Nat) (σ : L2.St) (H' : Hp) : Prop := ∃ (w : List Nat) (h : Nat) (y6 : Option V), k + w.length = l.length + 1 ∧
  σ = [some (.ref la), some (.int n), some (.ref sn), some (.int (first : Int)), some (.ref wa), some (.int (h : Int)), y6] ∧ H' wa = some (.lst (iv w)) ∧ (∀ b o, H b = some o → b ≠ wa → H' b = some o) ∧
  Way l w h ∧ (∀ x ∈ w, x ∈ ks l ∧ x ∉ S) ∧ w.Nodup ∧ (first ∈ ks l → first ∈ w ∨ (w = [] ∧ h = first))
section
variable {P : Program} {w : World} {K : PySem.W.Frag} {mg : Str → Option Value} {base : Heap}
theorem scLR : FnScope NLR ["left"] (defScope sLR) := ⟨rfl, rfl, rfl, by decide +kernel, rfl, by decide +kernel, by decide +kernel⟩
theorem ok_lr {f : Addr} {fd : FuncData} (F : Fun K "_law_rings" "_law_rings" sLR f fd) (m_sorted : mg "sorted" = none) (m_list : mg "list" = none) : FnOk P w K mg base CX0 1 f fd ["left"] spLR := by
  refine F.ok scLR (fun vs H Q E h => ?_) (fun cdv A outer s H vs Q E hr h => ?_)
  · obtain ⟨la, l, R, rfl, _⟩ := h
    rfl
  · obtain ⟨la, l, R, rfl, hl, ndl, ll, rg, q⟩ := h
    have nd := scLR.nd
    have hu := hu_of hr
    refine ⟨_, (pss_cons (ps_set (i := 1) nd rfl (.inl rfl) pe_int)
 (pss_cons (ps_set (i := 2) nd rfl (.inl rfl) pe_dnewK)
 (pss_cons (ps_for PassesOwn.never rfl (pi_list (pe_callB cr_sortedI (by rfl) m_sorted (by decide +kernel) (pa_cons (pe_callTy (call_list_dK rfl) (by rfl) m_list (by decide +kernel) (pa_cons (pv 0) pa_nil)) pa_nil))) (pg_name (i := 3) nd rfl (.inl rfl)) (pss_cons (ps_set (i := 4) nd rfl (.inl rfl) (pe_lst pa_nil))
 (pss_cons (ps_set (i := 5) nd rfl (.inl rfl) (pv 3))
 (pss_cons (ps_while PassesOwn.never (PW.pt (pw_and (pt_cmp (pc_din hu (pv 5) (pv 0))) (pw_and (pt_cmpR op_notIn_seq (pv 5) (pv 4) rfl) (pw_and1 (pt_cmp (pc_dnotin hu (pv 5) (pv 2))))))) (pss_cons (ps_expr (pe_bm PySem.F.plainAttrs_list PySem.F.slot_list_append PySem.F.type_list_append mt_append (pv 4) (pa_cons (pv 5) pa_nil)))
 (pss_one (ps_set (i := 5) nd rfl (.inl rfl) (pe_dget hu (pv 0) (pv 5) (fun _ _ => rfl))))))
 (C8.pss_cut (ps_if (pt_cmpR (r := rIn K false) op_in_seq (pv 5) (pv 4) rfl) (pss_one (ps_set (i := 1) nd rfl (.inl rfl) (pe_op op_add (pv 1) pe_int))) pss_nil)
 (pss_one (ps_for PassesOwn.never rfl (pi_list (pv 4)) (pg_name (i := 6) nd rfl (.inl rfl)) (pss_one (ps_dput hu (pv 2) (pv 6) pe_bl rfl)))))))))
 (pss_one (ps_ret (pv 1)))))), ?_⟩
    intro sn hsn
    have ss := same_new (o := .dK []) hsn
    have hl1 := ss _ _ hl
    have hs1 : (upd H sn (.dK [])) sn = some (.dK []) := upd_same
    have nls : la ≠ sn := ne_of_none hl hsn
    generalize upd H sn (.dK []) = H1 at ss hl1 hs1
    refine ⟨_, rfl, la, kvP l, rfl, hl1, fun q1 hq1 => ?_⟩
    have e1 : (kvP l).map (fun kv => kV kv.1) = ((ks l).map fun n : Nat => (n : Int)).map V.int := by
      unfold kvP ks
      rw [List.map_map, List.map_map, List.map_map]
      rfl
    rw [e1]
    have s2 := same_new (o := .lst (((ks l).map fun n : Nat => (n : Int)).map V.int)) hq1
    refine ⟨q1, _, rfl, .of upd_same, fun ys sa pm so hsa => ?_⟩
    obtain ⟨L, rfl, memL⟩ : ∃ L : List Nat, ys = L.map (fun n : Nat => (n : Int)) ∧ ∀ x, x ∈ L ↔ x ∈ ks l := by
      refine ⟨ys.map Int.toNat, ?_, fun x => ?_⟩
      · rw [List.map_map]
        conv => lhs; rw [← List.map_id ys]
        refine List.map_congr_left fun y hy => ?_
        obtain ⟨k, _, rfl⟩ := List.mem_map.mp (pm.mem_iff.mp hy)
        show (k : Int) = (((k : Int).toNat : Nat) : Int)
        omega
      · constructor
        · intro h
          obtain ⟨y, hy, rfl⟩ := List.mem_map.mp h
          obtain ⟨k, hk, rfl⟩ := List.mem_map.mp (pm.mem_iff.mp hy)
          exact hk
        · intro h
          exact List.mem_map.mpr ⟨(x : Int), pm.mem_iff.mpr (List.mem_map.mpr ⟨x, h, rfl⟩), by omega⟩
    have s3 := s2.trans (same_new (o := .lst ((L.map fun n : Nat => (n : Int)).map V.int)) hsa)
    have hs3 : (upd (upd H1 q1 (.lst (((ks l).map fun n : Nat => (n : Int)).map V.int))) sa (.lst ((L.map fun n : Nat => (n : Int)).map V.int))) sa = some (.lst (iv L)) := by
      rw [upd_same, List.map_map]
      rfl
    generalize upd (upd H1 q1 (.lst (((ks l).map fun n : Nat => (n : Int)).map V.int))) sa (.lst ((L.map fun n : Nat => (n : Int)).map V.int)) = H2 at s3 hs3
    have hl2 := s3 _ _ hl1
    have hn2 := s3 _ _ hs1
    have s02 := ss.trans s3
    have nss : sa ≠ sn := ne_of hs3 hn2 (by intro z; cases z)
    have ekl : (ks l).length = l.length := List.length_map ..
    have lL : L.length ≤ 20 := by
      have h1 := pm.length_eq
      rw [List.length_map, List.length_map] at h1
      omega
    refine ⟨sa, rfl, ⟨_, .of hs3⟩, for_list (xs := iv L) (fun i σ H' => ∃ (S : List Nat) (kr : List (Key × V)) (y3 y4 y5 y6 : Option V), σ = [some (.ref la), some (.int ((R.filter (seenIn S)).length : Nat)), some (.ref sn), y3, y4, y5, y6] ∧
        H' sn = some (.dK kr) ∧ SetOk kr S ∧ S.Nodup ∧ (∀ x ∈ S, x ∈ ks l) ∧ kr.length ≤ S.length ∧ Closed l S ∧ (∀ x ∈ L.take i, x ∈ S) ∧ (∀ b o, H2 b = some o → b ≠ sn → H' b = some o))
      ⟨[], [], none, none, none, none, ?_, hn2, (fun x => rfl), List.nodup_nil, (fun x h => by cases h), Nat.le_refl _, (fun x y _ _ h => by cases h), (fun x h => by simp at h), fun b o e _ => e⟩ ?_ ?_ ?_⟩
    · rw [none_seen rg]
      rfl
    · rintro i σ H' _ ⟨_, _, _, _, _, _, _, _, _, _, _, _, _, _, k⟩
      exact .of (k _ _ hs3 nss)
    · rintro i x σ H3 hx ⟨S, kr, y3, y4, y5, y6, rfl, hn3, so3, ndS, sub3, lk3, cl3, tk3, k3⟩
      obtain ⟨first, hfi, rfl⟩ : ∃ n, L[i]? = some n ∧ x = .int (n : Int) := by
        unfold iv at hx
        rw [List.getElem?_map] at hx
        cases e : L[i]? with
        | none => rw [e] at hx; cases hx
        | some n => rw [e] at hx; exact ⟨n, rfl, (Option.some.inj hx).symm⟩
      have hfl : first ∈ ks l := (memL first).mp (List.mem_of_getElem? hfi)
      have lS : S.length ≤ 20 := by
        have := nd_le ndS sub3
        omega
      have hl3 := k3 _ _ hl2 nls
      refine ⟨(by show 0 ≤ sizeLine; decide), fun wa hwa => ⟨_, rfl, ?_⟩⟩
      have nwl : wa ≠ la := (ne_of_none hl3 hwa).symm
      have nwn : wa ≠ sn := (ne_of_none hn3 hwa).symm
      have sw := same_new (o := .lst []) hwa
      have hw4 : (upd H3 wa (.lst [])) wa = some (.lst []) := upd_same
      have hl4 := sw _ _ hl3
      have hn4 := sw _ _ hn3
      have k4 : ∀ b o, H2 b = some o → b ≠ sn → (upd H3 wa (.lst [])) b = some o := fun b o e n => sw _ _ (k3 b o e n)
      have f4 : ∀ b o, H2 b = some o → b ≠ wa := fun b o e z => by
        by_cases n : b = sn
        · exact nwn (by rw [← z, n])
        · rw [← z, k3 b o e n] at hwa
          cases hwa
      generalize upd H3 wa (.lst []) = H4 at sw hw4 hl4 hn4 k4
      refine ⟨YStep H4 l S la sn wa ((R.filter (seenIn S)).length : Nat) first, ⟨l.length + 1, [], first, _, rfl, rfl, hw4, fun b o e _ => e, trivial, (fun x h => by cases h), List.nodup_nil, fun _ => .inr ⟨rfl, rfl⟩⟩, ?_⟩
      rintro k σ H5 ⟨w, h, y6, hk, rfl, hw5, k5, way, hwk, ndw, hfw⟩
      have lw : w.length ≤ l.length := by
        have := nd_le ndw (fun x hx => (hwk x hx).1)
        omega
      have hl5 := k5 _ _ hl4 nwl.symm
      have hn5 := k5 _ _ hn4 nwn.symm
      refine and_val (cA := decide (h ∈ ks l)) (cB := decide (h ∉ w) && decide (h ∉ S)) (fun Q q => ⟨_, rfl, _, rfl, la, _, rfl, DGet.k (k := Sum.inl (h : Int)) hl5, _, rfl, by rw [kvP_isSome ndl]; exact q⟩)
        (and_val (fun Q q => ⟨_, rfl, _, rfl, wa, _, rfl, .inl (.of hw5), rfl, flat_iv _, _, rfl, by rw [in_iv]; rw [decide_not] at q; exact q⟩) (fun Q q => ⟨_, rfl, _, rfl, sn, _, rfl, DGet.k (k := Sum.inl (h : Int)) hn5, _, rfl, by rw [SetOk.isNone so3]; exact q⟩)) _ ?_
      by_cases hc : h ∈ ks l ∧ h ∉ w ∧ h ∉ S
      · rw [decide_eq_true hc.1, decide_eq_true hc.2.1, decide_eq_true hc.2.2]
        obtain ⟨z, hz⟩ := mem_ks.mp hc.1
        refine iteT ⟨fun σ' H' => ∃ k', k' < k ∧ YStep H4 l S la sn wa ((R.filter (seenIn S)).length : Nat) first k' σ' H', fun _ _ h => h, ?_⟩
        have liw : (iv w).length = w.length := List.length_map ..
        refine ⟨_, rfl, .inl ⟨rfl, _, .of hw5⟩, _, rfl, wa, _, _, rfl, rfl, hw5, by rw [liw]; exact big (by omega), ?_⟩
        refine ⟨_, rfl, _, rfl, la, _, rfl, dgetR (.of (by rw [upd_ne nwl.symm]; exact hl5)) (kvP_some ndl hz), ?_⟩
        have hnw : w.length < l.length := by
          have := nd_le (ks := w ++ [h]) (l := ks l) (List.nodup_append.mpr ⟨ndw, by simp, fun a ha b hb e => hc.2.1 (mem_last ha hb e)⟩) fun x hx => (List.mem_append.mp hx).elim (fun q => (hwk x q).1) fun q => by
            have : x = h := by simpa using q
            rw [this]; exact hc.1
          rw [List.length_append] at this
          have h1 : w.length + 1 ≤ (ks l).length := this
          omega
        refine ⟨l.length + 1 - (w.length + 1), by omega, w ++ [h], z, _, by rw [List.length_append]; show _ + (w.length + 1) = _; omega, rfl, by rw [upd_same]; unfold iv; rw [List.map_append]; rfl, fun b o e n => by rw [upd_ne n]; exact k5 b o e n, way.snoc hz, ?_, ?_, fun hf => .inl ?_⟩
        · intro x hx
          rcases List.mem_append.mp hx with hx | hx
          · exact hwk x hx
          · have : x = h := by simpa using hx
            rw [this]
            exact ⟨hc.1, hc.2.2⟩
        · refine List.nodup_append.mpr ⟨ndw, by simp, fun a ha b hb e => hc.2.1 ?_⟩
          have : b = h := by simpa using hb
          rw [← this, ← e]
          exact ha
        · rcases hfw hf with h1 | ⟨h1, h2⟩
          · exact List.mem_append_left _ h1
          · rw [h2]
            exact List.mem_append_right _ (by simp)
      · have ef : (decide (h ∈ ks l) && (decide (h ∉ w) && decide (h ∉ S))) = false := by
          rw [← Bool.not_eq_true]
          intro z
          simp only [Bool.and_eq_true, decide_eq_true_eq] at z
          exact hc z
        rw [ef]
        refine iteF ?_
        have ffin : first ∈ S ∨ first ∈ w := by
          rcases hfw hfl with h1 | ⟨h1, h2⟩
          · exact .inr h1
          · by_cases hs : first ∈ S
            · exact .inl hs
            · rw [h1, h2] at hc
              exact absurd ⟨hfl, by simp, hs⟩ hc
        obtain ⟨cl', cnt'⟩ := turn_count rg ndl cl3 way hwk hc (S' := S ++ w) fun x => List.mem_append
        refine ⟨fun σ' H' => ∃ y6, σ' = [some (.ref la), some (.int ((R.filter (seenIn (S ++ w))).length : Nat)), some (.ref sn), some (.int (first : Int)), some (.ref wa), some (.int (h : Int)), y6] ∧ H5 = H', ?_, ?_⟩
        · refine ⟨_, rfl, _, rfl, wa, _, rfl, .inl (.of hw5), rfl, flat_iv _, _, rfl, ?_⟩
          rw [in_iv]
          by_cases hw : h ∈ w
          · rw [decide_eq_true hw]
            rw [if_pos hw] at cnt'
            refine iteT ⟨_, rfl, _, _, rfl, rfl, y6, ?_, rfl⟩
            rw [cnt']
            rfl
          · rw [decide_eq_false hw]
            rw [if_neg hw] at cnt'
            refine iteF ⟨y6, ?_, rfl⟩
            rw [cnt']
            rfl
        · rintro σ' H' ⟨y6', rfl, rfl⟩
          have liw : (iv w).length = w.length := List.length_map ..
          have ndSw : (S ++ w).Nodup := List.nodup_append.mpr ⟨ndS, ndw, fun a ha b hb e => (hwk b hb).2 (by rw [← e]; exact ha)⟩
          have lSw := nd_le ndSw fun x hx => (List.mem_append.mp hx).elim (sub3 x) fun q => (hwk x q).1
          rw [List.length_append] at lSw
          refine ⟨_, rfl, wa, rfl, ⟨_, .of hw5⟩, for_list (xs := iv w) (fun j σ H' => ∃ (kr : List (Key × V)) (y6 : Option V), σ = [some (.ref la), some (.int ((R.filter (seenIn (S ++ w))).length : Nat)), some (.ref sn), some (.int (first : Int)), some (.ref wa), some (.int (h : Int)), y6] ∧
            H' sn = some (.dK kr) ∧ SetOk kr (S ++ w.take j) ∧ kr.length ≤ S.length + j ∧ (∀ b o, H5 b = some o → b ≠ sn → H' b = some o)) ⟨kr, _, rfl, hn5, by rw [List.take_zero, List.append_nil]; exact so3, lk3, fun b o e _ => e⟩ ?_ ?_ ?_⟩
          · rintro j σ H' _ ⟨_, _, _, _, _, _, k⟩
            exact .of (k _ _ hw5 nwn)
          · rintro j x σ H6 hx ⟨kr6, y6, rfl, hn6, so6, lk6, k6⟩
            obtain ⟨n, hn, rfl⟩ : ∃ n, w[j]? = some n ∧ x = .int (n : Int) := by
              unfold iv at hx
              rw [List.getElem?_map] at hx
              cases e : w[j]? with
              | none => rw [e] at hx; cases hx
              | some n => rw [e] at hx; exact ⟨n, rfl, (Option.some.inj hx).symm⟩
            have jl : j < w.length := (List.getElem?_eq_some_iff.mp hn).1
            refine ⟨_, rfl, _, rfl, sn, _, rfl, DPut.k (k := Sum.inl (n : Int)) hn6 (big (by omega)), ?_⟩
            refine ⟨_, _, rfl, upd_same, so6.put fun x => ?_, Nat.le_trans (length_putK _ _ _) (by omega), fun b o e nb => by rw [upd_ne nb]; exact k6 b o e nb⟩
            rw [List.take_add_one, hn]
            simp [or_assoc]
          · rintro σ H6 ⟨kr6, y6, rfl, hn6, so6, lk6, k6⟩
            rw [liw, List.take_length] at so6
            rw [liw] at lk6
            refine ⟨S ++ w, kr6, _, _, _, _, rfl, hn6, so6, ndSw, fun x hx => (List.mem_append.mp hx).elim (sub3 x) fun q => (hwk x q).1, by rw [List.length_append]; exact lk6, cl', fun x hx => ?_, fun b o e nb => k6 b o (k5 b o (k4 b o e nb) (f4 b o e)) nb⟩
            rw [List.take_add_one, hfi] at hx
            rcases List.mem_append.mp hx with hx | hx
            · exact List.mem_append_left _ (tk3 x hx)
            · have : x = first := by simpa using hx
              rw [this]
              exact List.mem_append.mpr ffin
    · rintro σ H3 ⟨S, kr, y3, y4, y5, y6, rfl, hn3, so3, ndS, sub3, lk3, cl3, tk3, k3⟩
      have e2 : (iv L).length = L.length := List.length_map ..
      rw [e2, List.take_length] at tk3
      refine ⟨_, rfl, ?_⟩
      rw [all_seen rg fun x hx => tk3 x ((memL x).mpr hx)]
      exact q H3 fun b o e => k3 _ _ (s02 b o e) (ne_of_none e hsn)
end
end K0

set_option Elab.async false
set_option linter.all false
set_option maxRecDepth 100000
set_option maxHeartbeats 1000000
namespace K0
open PySem L2
abbrev NL : List Str := ["script", "draw", "rest", "pairs", "k", "d", "order", "spare", "rows", "left", "s", "words", "r", "row"]
theorem er_perm {α : Type} : ∀ {l : List α} {i : Nat} {x : α}, l[i]? = some x → (x :: l.eraseIdx i).Perm l
  | [], _, _, h => by simp at h
  | y :: r, 0, x, h => by
    have : y = x := Option.some.inj h
    subst this
    exact List.Perm.refl _
  | y :: r, i + 1, x, h => (List.Perm.swap y x (r.eraseIdx i)).trans ((er_perm (l := r) (i := i) h).cons y)
theorem er_map {α β : Type} (f : α → β) : ∀ (l : List α) (i : Nat), (l.map f).eraseIdx i = (l.eraseIdx i).map f
  | [], _ => rfl
  | y :: r, 0 => rfl
  | y :: r, i + 1 => congrArg (f y :: ·) (er_map f r i)
theorem sq_nat {n z : Nat} (h : z < n) : PySem.seqIndex? (z : Int) n = some z := by
  have e : ixN n (z : Int) = some z := by
    unfold ixN
    rw [if_pos (by omega), if_pos (by omega)]
    simp
  exact (ixN_seq e).1
theorem Drd.put {H : Hp} {d c p : Addr} {ns : List Int} {o : HO} (D : Drd H d c ns) (h1 : p ≠ d) (h2 : p ≠ c) : Drd (upd H p o) d c ns := by
  obtain ⟨k, l, z, D⟩ := D
  exact ⟨k, l, z, by rw [upd_ne h1.symm]; exact D.at_, by rw [upd_ne h2.symm]; exact D.cells, D.ne, D.k0, D.l0, D.s0, D.s1, D.pos⟩
theorem Drd.nd {H : Hp} {d c p : Addr} {ns : List Int} (D : Drd H d c ns) (h : H p = none) : p ≠ d := by
  obtain ⟨k, l, z, D⟩ := D
  exact (ne_of_none D.at_ h).symm
theorem Drd.nc {H : Hp} {d c p : Addr} {ns : List Int} (D : Drd H d c ns) (h : H p = none) : p ≠ c := by
  obtain ⟨k, l, z, D⟩ := D
  exact (ne_of_none D.cells h).symm
theorem final_run {ps row : Pr} {R : List Pr} {spare : Nat} (ndp : (ks ps).Nodup) (h : SqOk ps row R) (hs : spare ∉ ks ps) (hs2 : spare ∉ sr ps) (W : Nat → Int) :
    (∀ x y, (x, y) ∈ ne0 ps → runM W (row ++ ringsMv spare R) x = W y) ∧ ∀ x, x ∉ ks (ne0 ps) → x ≠ spare → runM W (row ++ ringsMv spare R) x = W x := by
  have sub : ∀ p ∈ ne0 ps, p ∈ ps := fun p hp => (List.mem_filter.mp hp).1
  have nd0 : (ks (ne0 ps)).Nodup := List.Nodup.sublist (List.Sublist.map _ List.filter_sublist) ndp
  have nds := (ks_perm h.perm).nodup_iff.mpr nd0
  rw [ks_app] at nds
  obtain ⟨n1, n2, dis⟩ := List.nodup_append.mp nds
  have inp : ∀ p, p ∈ ne0 ps ↔ p ∈ row ∨ p ∈ R.flatten := fun p => by rw [← h.perm.mem_iff, List.mem_append]
  have sk : spare ∉ ks R.flatten := fun z => by
    obtain ⟨y, hy⟩ := mem_ks.mp z
    exact hs (mem_ks.mpr ⟨y, sub _ ((inp _).mpr (.inr hy))⟩)
  have ss : spare ∉ sr R.flatten := fun z => by
    obtain ⟨y, hy⟩ := mem_sr.mp z
    exact hs2 (mem_sr.mpr ⟨y, sub _ ((inp _).mpr (.inr hy))⟩)
  obtain ⟨a1, a2⟩ := runM_ord W _ row rfl h.ord n1
  obtain ⟨b1, b2⟩ := rings_run (spare := spare) (runM W row) h.rings.ring n2 sk ss
  rw [runM_app]
  constructor
  · intro x y hxy
    rcases (inp _).mp hxy with hr | hr
    · have hk := mem_ks.mpr ⟨y, hr⟩
      rw [b2 x (fun z => dis x hk x z rfl) (fun z => hs (by rw [← z]; exact mem_ks.mpr ⟨y, sub _ hxy⟩))]
      exact a1 x y hr
    · obtain ⟨r, hr1, hr2⟩ := List.mem_flatten.mp hr
      obtain ⟨v, hv⟩ := mem_ks.mp (ring_in (h.rings.ring r hr1) hr2)
      rw [b1 x y hr (mem_ks.mpr ⟨v, List.mem_flatten.mpr ⟨r, hr1, hv⟩⟩)]
      exact a2 y (h.src _ hr)
  · intro x hx hxs
    have h1 : x ∉ ks row := fun z => by
      obtain ⟨y, hy⟩ := mem_ks.mp z
      exact hx (mem_ks.mpr ⟨y, (inp _).mpr (.inl hy)⟩)
    have h2 : x ∉ ks R.flatten := fun z => by
      obtain ⟨y, hy⟩ := mem_ks.mp z
      exact hx (mem_ks.mpr ⟨y, (inp _).mpr (.inr hy)⟩)
    rw [b2 x h2 hxs]
    exact a2 x h1
theorem sq_len {ps row : Pr} {R : List Pr} {spare : Nat} (h : SqOk ps row R) : (row ++ ringsMv spare R).length = (ne0 ps).length + R.length := by
  have h1 := h.perm.length_eq
  rw [List.length_append] at h1
  rw [List.length_append, rings_len h.rings.ring]
  have h3 : row.length + R.flatten.length = (ne0 ps).length := h1
  omega
theorem sq_regs {ps row : Pr} {R : List Pr} {spare : Nat} (h : SqOk ps row R) (h1 : ∀ x ∈ ks ps, x < 10) (h2 : ∀ x ∈ sr ps, x < 10) (h3 : spare < 14) : ∀ p ∈ row ++ ringsMv spare R, p.1 < 14 ∧ p.2 < 14 := by
  have sub : ∀ p, p ∈ row ∨ p ∈ R.flatten → p.1 < 10 ∧ p.2 < 10 := fun p hp => by
    have : p ∈ ps := (List.mem_filter.mp (h.perm.mem_iff.mp (List.mem_append.mpr hp))).1
    exact ⟨h1 _ (mem_ks.mpr ⟨p.2, this⟩), h2 _ (mem_sr.mpr ⟨p.1, this⟩)⟩
  intro p hp
  rcases List.mem_append.mp hp with hp | hp
  · have := sub p (.inl hp)
    omega
  · obtain ⟨r, hr, hp⟩ := List.mem_flatMap.mp hp
    obtain ⟨_, hne, _⟩ := h.rings.ring r hr
    have inr : ∀ q ∈ r, q.1 < 10 ∧ q.2 < 10 := fun q hq => sub q (.inr (List.mem_flatten.mpr ⟨r, hr, hq⟩))
    unfold ringMv at hp
    have hh : r.headD (0, 0) ∈ r := by
      cases r with
      | nil => exact absurd rfl hne
      | cons q t => exact List.mem_cons_self
    have hg : r.getLastD (0, 0) ∈ r := by
      cases r with
      | nil => exact absurd rfl hne
      | cons q t => rw [List.getLastD_cons]; exact List.getLastD_mem_cons ..
    rcases List.mem_append.mp hp with hp | hp
    · rcases List.mem_cons.mp hp with rfl | hp
      · have := inr _ hh
        exact ⟨h3, by omega⟩
      · have := inr p ((List.dropLast_sublist r).subset hp)
        omega
    · rw [List.mem_singleton.mp hp]
      have := inr _ hg
      exact ⟨by omega, h3⟩
/-- a dict of words -/
def WdOk (kr : List (Key × V)) (n : Nat) (f : Nat → Int) : Prop := ∀ x : Nat, valV kr (Sum.inl (x : Int)) = if x < n then some (.int (f x)) else none
/-- the pairs as they were drawn -/
structure DrwPs (ps : Pr) : Prop where
  nd : (ks ps).Nodup
  lk : ∀ x ∈ ks ps, x < 10
  ls : ∀ x ∈ sr ps, x < 10
  len : ps.length ≤ 9
def spLaw (K : PySem.W.Frag) : Sp := fun vs H Q _ => ∃ (a : Addr) (ns : List Int), vs = [.ref a] ∧ SqL K H a (ns.map V.int) ∧ ns.length ≤ 63 ∧ ∀ H', Q (.bl true) H'
section
variable {P : Program} {w : World} {K : PySem.W.Frag} {mg : Str → Option Value} {base : Heap}
theorem scLaw : FnScope NL ["script"] (defScope sLaw) := ⟨rfl, rfl, rfl, by decide +kernel, rfl, by decide +kernel, by decide +kernel⟩
theorem ok_law {f : Addr} {fd : FuncData} (F : Fun K "law" "law" sLaw f fd) (m_range : mg "range" = none) (m_len : mg "len" = none) (m_isinstance : mg "isinstance" = none) (m_tuple : mg "tuple" = none) (m_list : mg "list" = none)
    (GD : Got P w K mg base 1 "_law_draw" ["script"] (spDraw K)) (GT : Got P w K mg base 1 "_law_take" ["draw", "many"] spTake) (GS : Got P w K mg base 3 "sequence" ["pairs", "spare"] spSeq) (GL : Got P w K mg base 1 "_law_rings" ["left"] spLR) : FnOk P w K mg base CX0 4 f fd ["script"] (spLaw K) := by
  obtain ⟨fD, fdD, GD, mD, kD, bD⟩ := GD.ex
  obtain ⟨fT, fdT, GT, mT, kT, bT⟩ := GT.ex
  obtain ⟨fS, fdS, GS, mS, kS, bS⟩ := GS.ex
  obtain ⟨fL, fdL, GL, mL, kL, bL⟩ := GL.ex
  refine F.ok scLaw (fun vs H Q E h => ?_) (fun cdv A outer s H vs Q E hr h => ?_)
  · obtain ⟨a, ns, rfl, _⟩ := h
    rfl
  · obtain ⟨a, ns, rfl, hS, hlen, q⟩ := h
    have nd := scLaw.nd
    have hu := hu_of hr
    have hr1 : Room 1 _ := hr.mono (by decide)
    have hr3 : Room 3 _ := hr.mono (by decide)
    refine ⟨_, (pss_cons (ps_set (i := 1) nd rfl (.inr rfl) (pe_call GD hr1 (by rfl) mD kD bD .nil pass0 (pa_cons (pv 0) pa_nil)))
 (pss_cons (ps_set (i := 2) nd rfl (.inl rfl) (pe_listRg rfl (by rfl) m_list (prg_1 (by rfl) m_range pe_int)))
 (pss_cons (ps_set (i := 3) nd rfl (.inl rfl) (pe_lst pa_nil))
 (pss_cons (ps_for PassesOwn.never rfl (pi_range1 (by rfl) m_range (pa_cons (pe_call GT hr1 (by rfl) mT kT bT .nil pass0 (pa_cons (pv 1) (pa_cons pe_int pa_nil))) pa_nil)) (pg_name (i := 4) nd rfl (.inl rfl)) (pss_cons (ps_set (i := 5) nd rfl (.inl rfl) (pe_bm PySem.F.plainAttrs_list PySem.F.slot_list_pop PySem.F.type_list_pop mt_popAt (pv 2) (pa_cons (pe_call GT hr1 (by rfl) mT kT bT .nil pass0 (pa_cons (pv 1) (pa_cons (pe_callB (r := rLenS K) call_len_seq (by rfl) m_len PySem.boot_len (pa_cons (pv 2) pa_nil)) pa_nil))) pa_nil)))
 (pss_one (ps_expr (pe_bm PySem.F.plainAttrs_list PySem.F.slot_list_append PySem.F.type_list_append mt_append (pv 3) (pa_cons (pe_tup (pa_cons (pv 5) (pa_cons (pe_call GT hr1 (by rfl) mT kT bT .nil pass0 (pa_cons (pv 1) (pa_cons pe_int pa_nil))) pa_nil))) pa_nil))))))
 (C8.pss_cut (ps_if (pt_cmpR op_eq (pe_call GT hr1 (by rfl) mT kT bT .nil pass0 (pa_cons (pv 1) (pa_cons pe_int pa_nil))) pe_int (nomark _)) (pss_cons (ps_set (i := 6) nd rfl (.inr rfl) (pe_listRg rfl (by rfl) m_list (prg_1 (by rfl) m_range pe_int)))
 (pss_one (ps_setLc (i := 3) (own := [("k", 4)]) (g := (gName 4)) (tt := tYes) (by rfl) nd rfl rfl (sw_true rfl rfl rfl (by decide +kernel)) (pi_range1 (by rfl) m_range (pa_cons pe_int pa_nil)) (blkOk_by (N := NL) (sc := defScope sLaw) (by decide +kernel)) (fun _ _ _ _ _ => (pg_name (i := 4) nd rfl (.inl rfl))) (fun _ _ _ _ _ => pts_nil) (fun _ _ _ _ _ => (pe_tup (pa_cons (pv 4) (pa_cons (pe_bmK (K := K) rfl PySem.F.plainAttrs_list PySem.F.slot_list_pop PySem.F.type_list_pop mt_popAt (pv 6) (pa_cons (pe_call GT hr1 (by rfl) mT kT bT .nil pass0 (pa_cons (pv 1) (pa_cons (pe_callB (r := rLenS K) call_len_seq (by rfl) m_len PySem.boot_len (pa_cons (pv 6) pa_nil)) pa_nil))) pa_nil)) pa_nil))))))) pss_nil)
 (pss_cons (ps_set (i := 7) nd rfl (.inl rfl) (pe_op op_add pe_int (pe_call GT hr1 (by rfl) mT kT bT .nil pass0 (pa_cons (pv 1) (pa_cons pe_int pa_nil)))))
 (pss_cons (ps_set (i := 8) nd rfl (.inl rfl) (pe_call GS hr3 (by rfl) mS kS bS .nil pass0 (pa_cons (pe_callTy (T := "tuple") (r := rTupOf K) call_tuple_of (by rfl) m_tuple (by decide +kernel) (pa_cons (pv 3) pa_nil)) (pa_cons (pv 7) pa_nil))))
 (pss_cons (ps_set (i := 9) nd rfl (.inl rfl) pe_dnewK)
 (pss_cons (ps_for PassesOwn.never rfl (pi_list (pv 3)) (pg_tup rfl (pgs_cons (pg_name (i := 5) nd rfl (.inl rfl)) (pgs_cons (pg_name (i := 10) nd rfl (.inl rfl)) pgs_nil))) (pss_one (ps_if (pt_cmpR op_ne (pv 5) (pv 10) (nomark _)) (pss_one (ps_dput hu (pv 9) (pv 5) (pv 10) rfl)) pss_nil)))
 (pss_cons (ps_if (PW.pt (pw_or (pt_not (pt_val (pe_callB (r := rIsi K) call_isi (by rfl) m_isinstance (by decide +kernel) (pa_cons (pv 8) (pa_cons (pe_bltn (v := .ty "list") (by rfl) m_list (by decide +kernel) rfl) pa_nil))))) (pw_or1 (pt_cmpR op_ne (pe_callB (r := rLenS K) call_len_seq (by rfl) m_len PySem.boot_len (pa_cons (pv 8) pa_nil)) (pe_op op_add (pe_callB call_lenD (by rfl) m_len PySem.boot_len (pa_cons (pv 9) pa_nil)) (pe_call GL hr1 (by rfl) mL kL bL .nil pass0 (pa_cons (pv 9) pa_nil))) (nomark _))))) (pss_one (ps_ret pe_bl)) pss_nil)
 (pss_cons (ps_set (i := 11) nd rfl (.inl rfl) pe_dnewK)
 (pss_cons (ps_for PassesOwn.never rfl (pi_range1 (by rfl) m_range (pa_cons pe_int pa_nil)) (pg_name (i := 12) nd rfl (.inl rfl)) (pss_one (ps_dput hu (pv 11) (pv 12) (pe_op op_add pe_int (pv 12)) rfl)))
 (pss_cons (ps_for PassesOwn.never rfl (pi_list (pv 8)) (pg_name (i := 13) nd rfl (.inl rfl)) (pss_cons (ps_if (PW.pt (pw_or (pt_cmpR op_ne (pe_callB (r := rLenS K) call_len_seq (by rfl) m_len PySem.boot_len (pa_cons (pv 13) pa_nil)) pe_int (nomark _)) (pw_or (pt_cmpR op_ne (pe_ix (r := rIxT K) ix_tup (pv 13) pe_int (fun _ _ => rfl)) pe_str (nomark _)) (pw_or (pt_cmp (pc_dnotin hu (pe_ix (r := rIxT K) ix_tup (pv 13) pe_int (fun _ _ => rfl)) (pv 11))) (pw_or1 (pt_cmp (pc_dnotin hu (pe_ix (r := rIxT K) ix_tup (pv 13) pe_int (fun _ _ => rfl)) (pv 11)))))))) (pss_one (ps_ret pe_bl)) pss_nil)
 (pss_one (ps_dput hu (pv 11) (pe_ix (r := rIxT K) ix_tup (pv 13) pe_int (fun _ _ => rfl)) (pe_dget hu (pv 11) (pe_ix (r := rIxT K) ix_tup (pv 13) pe_int (fun _ _ => rfl)) (fun _ _ => rfl)) rfl))))
 (pss_cons (ps_for PassesOwn.never rfl (pi_range1 (by rfl) m_range (pa_cons pe_int pa_nil)) (pg_name (i := 12) nd rfl (.inl rfl)) (pss_one (ps_if (PW.pt (pw_and (pt_cmpR op_ne (pv 12) (pv 7) (nomark _)) (pw_and1 (pt_cmpR op_ne (pe_dget hu (pv 11) (pv 12) (fun _ _ => rfl)) (pe_op op_add pe_int (pe_dget2 hu (pv 9) (pv 12) (pv 12) ⟨rfl, rfl, rfl, rfl⟩)) (nomark _))))) (pss_one (ps_ret pe_bl)) pss_nil)))
 (pss_one (ps_ret pe_bl)))))))))))))))), ?_⟩
    refine ⟨_, rfl, a, ns, rfl, hS, hlen, fun d c ms H1 D1 s1 nd1 => ?_⟩
    have er : rgV 0 10 = iv (List.range 10) := rfl
    refine ⟨10, rfl, RgOk.of_le (by decide) (by decide) (by decide) (by decide), fun ra hra => ?_⟩
    rw [er]
    have D2 := D1.same (same_new (o := .lst (iv (List.range 10))) hra)
    have nrd := D1.nd hra
    have nrc := D1.nc hra
    have hr2 : (upd H1 ra (.lst (iv (List.range 10)))) ra = some (.lst (iv (List.range 10))) := upd_same
    generalize upd H1 ra (.lst (iv (List.range 10))) = H2 at D2 hr2
    refine ⟨(by show 0 ≤ sizeLine; decide), fun pa hpa => ?_⟩
    have D3 := D2.same (same_new (o := .lst []) hpa)
    have npd := D2.nd hpa
    have npc := D2.nc hpa
    have npr : pa ≠ ra := (ne_of_none hr2 hpa).symm
    have hr3 := same_new (o := .lst []) hpa _ _ hr2
    have hp3 : (upd H2 pa (.lst [])) pa = some (.lst []) := upd_same
    generalize upd H2 pa (.lst []) = H3 at D3 hr3 hp3
    refine ⟨_, rfl, d, c, ms, 9, rfl, D3, by decide, by decide, fun z H4 hz D4 kp4 => ⟨(z : Int), rfl, by omega, by omega, for_range (lo := 0) (n := (z : Int).toNat) (fun i σ H' => ∃ (rl : List Nat) (ps : Pr) (y4 y5 : Option V), σ = [some (.ref a), some (.ref d), some (.ref ra), some (.ref pa), y4, y5, none, none, none, none, none, none, none, none] ∧
        H' ra = some (.lst (iv rl)) ∧ PrL H' pa ps ∧ Drd H' d c ms ∧ rl.length + i = 10 ∧ ps.length = i ∧ (ks ps ++ rl).Nodup ∧ (∀ x ∈ ks ps ++ rl, x < 10) ∧ (∀ x ∈ sr ps, x < 10))
      ⟨List.range 10, [], none, none, rfl, kp4 _ _ hr3 nrd, ⟨[], kp4 _ _ hp3 npd, .nil⟩, D4, rfl, rfl, by decide, by decide, by decide⟩ ?_ ?_⟩⟩
    · rintro i σ H5 hi ⟨rl, ps, y4, y5, rfl, hr5, ⟨xs, hp5, px5⟩, D5, lrl, lps, ndr, lt5, ls5⟩
      have hi' : i < 8 := by
        have : (z : Int).toNat = z := Int.toNat_natCast z
        omega
      have liv : (iv rl).length = rl.length := List.length_map ..
      refine ⟨_, rfl, .inl ⟨rfl, _, .of hr5⟩, _, rfl, _, rfl, ra, _, rfl, .inl (.of hr5), d, c, ms, _, rfl, D5, by rw [liv]; omega, by rw [liv]; omega, fun u H6 hu6 D6 kp6 => ?_⟩
      rw [liv] at hu6
      have hu' : u < rl.length := by omega
      obtain ⟨x, hx⟩ : ∃ x, rl[u]? = some x := ⟨_, List.getElem?_eq_getElem hu'⟩
      have hr6 := kp6 _ _ hr5 nrd
      have hp6 := kp6 _ _ hp5 npd
      have t6 : Tups H5 H6 := fun b vs e => kp6 _ _ e (by
        obtain ⟨_, _, _, D5⟩ := D5
        exact ne_of e D5.at_ (by intro z; cases z))
      refine ⟨ra, _, (u : Int), u, .int (x : Int), rfl, rfl, hr6, by omega, by omega, sq_nat (by rw [liv]; exact hu'), by unfold iv; rw [List.getElem?_map, hx]; rfl, ?_⟩
      have eer : (iv rl).eraseIdx u = iv (rl.eraseIdx u) := er_map _ _ _
      rw [eer]
      have D7 := D6.put (o := .lst (iv (rl.eraseIdx u))) nrd nrc
      have hr7 : (upd H6 ra (.lst (iv (rl.eraseIdx u)))) ra = some (.lst (iv (rl.eraseIdx u))) := upd_same
      have hp7 : (upd H6 ra (.lst (iv (rl.eraseIdx u)))) pa = some (.lst xs) := by rw [upd_ne npr]; exact hp6
      have t7 : Tups H5 (upd H6 ra (.lst (iv (rl.eraseIdx u)))) := t6.put hr6 (fun _ z => by cases z)
      generalize upd H6 ra (.lst (iv (rl.eraseIdx u))) = H7 at D7 hr7 hp7 t7 ⊢
      refine ⟨_, rfl, .inl ⟨rfl, _, .of hp7⟩, _, rfl, _, rfl, d, c, ms, 10, rfl, D7, by decide, by decide, fun w H8 hw D8 kp8 => ⟨(by show 2 ≤ sizeLine; decide), fun t ht => ?_⟩⟩
      have hr8 := kp8 _ _ hr7 nrd
      have hp8 := kp8 _ _ hp7 npd
      have t8 : Tups H7 H8 := fun b vs e => kp8 _ _ e (by
        obtain ⟨_, _, _, D7⟩ := D7
        exact ne_of e D7.at_ (by intro z; cases z))
      have st := same_new (o := .tup [.int (x : Int), .int (w : Int)]) ht
      have lxs : xs.length = ps.length := px5.length.symm
      refine ⟨pa, xs, .ref t, rfl, rfl, st _ _ hp8, by rw [lxs]; exact big (by omega), ?_⟩
      have hp9 := st _ _ hp8
      have tt : Tups H5 (upd (upd H8 t (.tup [.int (x : Int), .int (w : Int)])) pa (.lst (xs ++ [.ref t]))) := ((t7.trans t8).trans (Tups.of st)).put hp9 (fun _ z => by cases z)
      have ntp : t ≠ pa := (ne_of_none hp8 ht).symm
      have pe := er_perm hx
      have pk : (ks (ps ++ [(x, w)]) ++ rl.eraseIdx u).Perm (ks ps ++ rl) := by
        rw [ks_app, List.append_assoc]
        exact pe.append_left (ks ps)
      refine ⟨rl.eraseIdx u, ps ++ [(x, w)], _, _, rfl, by rw [upd_ne npr.symm]; exact st _ _ hr8, ⟨_, upd_same, prd_app (L2.Paired.mapP px5 fun _ _ z => z.mono tt) (.cons ⟨t, rfl, by rw [upd_ne ntp]; exact upd_same⟩ .nil)⟩, (D8.same st).put npd npc, ?_, by rw [List.length_append, lps]; rfl, pk.nodup_iff.mpr ndr, fun y hy => lt5 y (pk.mem_iff.mp hy), fun y hy => ?_⟩
      · have := pe.length_eq
        rw [List.length_cons] at this
        omega
      · rw [sr_app] at hy
        rcases List.mem_append.mp hy with hy | hy
        · exact ls5 y hy
        · have : y = w := by simpa [sr] using hy
          omega
    · rintro σ H5 ⟨rl, ps, y4, y5, rfl, hr5, pl5, D5, lrl, lps, ndr, lt5, ls5⟩
      have dps : DrwPs ps := ⟨(List.nodup_append.mp ndr).1, fun x hx => lt5 x (List.mem_append_left _ hx), ls5, by
        have : (z : Int).toNat = z := Int.toNat_natCast z
        omega⟩
      refine ⟨fun σ' H' => ∃ (ps : Pr) (pa : Addr) (y4 y5 y6 : Option V), σ' = [some (.ref a), some (.ref d), some (.ref ra), some (.ref pa), y4, y5, y6, none, none, none, none, none, none, none] ∧ PrL H' pa ps ∧ Drd H' d c ms ∧ DrwPs ps ∧ pa ≠ d, ?_, ?_⟩
      · refine ⟨_, rfl, d, c, ms, 2, rfl, D5, by decide, by decide, fun g H6 hg D6 kp6 => ⟨rfl, _, rfl, ite2 (fun e => ?_) (fun e => ?_)⟩⟩
        · have er9 : rgV 0 9 = iv (List.range 9) := rfl
          refine ⟨9, rfl, RgOk.of_le (by decide) (by decide) (by decide) (by decide), fun oa hoa => ?_⟩
          rw [er9]
          have D7 := D6.same (same_new (o := .lst (iv (List.range 9))) hoa)
          have nod := D6.nd hoa
          have noc := D6.nc hoa
          have ho7 : (upd H6 oa (.lst (iv (List.range 9)))) oa = some (.lst (iv (List.range 9))) := upd_same
          generalize upd H6 oa (.lst (iv (List.range 9))) = H7 at D7 ho7
          refine ⟨9, rfl, by decide, by decide, fun L hL => lc_range (lo := 0) (n := 9) (fun i H' => ∃ (rl : List Nat) (ps : Pr), PrL H' L ps ∧ H' oa = some (.lst (iv rl)) ∧ Drd H' d c ms ∧ rl.length + i = 9 ∧ ks ps = List.range i ∧ (∀ x ∈ sr ps, x < 10) ∧ (∀ x ∈ rl, x < 10))
            ⟨List.range 9, [], ⟨[], upd_same, .nil⟩, same_new hL _ _ ho7, D7.same (same_new hL), rfl, rfl, by decide, by decide⟩ ?_ ?_⟩
          · have nLd := D7.nd hL
            have nLc := D7.nc hL
            have nLo : L ≠ oa := (ne_of_none ho7 hL).symm
            rintro i H8 hi ⟨rl, ps, ⟨xs, hx8, px8⟩, ho8, D8, lrl, ekp, ls8, lr8⟩
            refine ⟨rfl, tYes_go ?_⟩
            have liv : (iv rl).length = rl.length := List.length_map ..
            refine ⟨_, rfl, _, rfl, .inl ⟨rfl, _, .of ho8⟩, _, rfl, _, rfl, oa, _, rfl, .inl (.of ho8), d, c, ms, _, rfl, D8, by rw [liv]; omega, by rw [liv]; omega, fun u H9 hu9 D9 kp9 => ?_⟩
            rw [liv] at hu9
            have hu' : u < rl.length := by omega
            obtain ⟨x, hx⟩ : ∃ x, rl[u]? = some x := ⟨_, List.getElem?_eq_getElem hu'⟩
            have ho9 := kp9 _ _ ho8 nod
            have hx9 := kp9 _ _ hx8 nLd
            have t9 : Tups H8 H9 := fun b vs e => kp9 _ _ e (by
              obtain ⟨_, _, _, D8⟩ := D8
              exact ne_of e D8.at_ (by intro z; cases z))
            refine ⟨oa, _, (u : Int), u, .int (x : Int), rfl, rfl, ho9, by omega, by omega, sq_nat (by rw [liv]; exact hu'), by unfold iv; rw [List.getElem?_map, hx]; rfl, (by show 2 ≤ sizeLine; decide), fun t ht => ?_⟩
            have eer : (iv rl).eraseIdx u = iv (rl.eraseIdx u) := er_map _ _ _
            rw [eer] at ht ⊢
            have D10 := D9.put (o := .lst (iv (rl.eraseIdx u))) nod noc
            have ho10 : (upd H9 oa (.lst (iv (rl.eraseIdx u)))) oa = some (.lst (iv (rl.eraseIdx u))) := upd_same
            have hx10 : (upd H9 oa (.lst (iv (rl.eraseIdx u)))) L = some (.lst xs) := by rw [upd_ne nLo]; exact hx9
            have t10 : Tups H8 (upd H9 oa (.lst (iv (rl.eraseIdx u)))) := t9.put ho9 (fun _ z => by cases z)
            generalize upd H9 oa (.lst (iv (rl.eraseIdx u))) = H10 at D10 ho10 hx10 t10 ht ⊢
            have e0 : (0 : Int) + (i : Int) = (i : Int) := Int.zero_add _
            rw [e0]
            have st := same_new (o := .tup [.int (i : Int), .int (x : Int)]) ht
            have lxs : xs.length = ps.length := px8.length.symm
            have lps8 : ps.length = i := by
              have := congrArg List.length ekp
              rw [List.length_range] at this
              have h2 : (ks ps).length = ps.length := List.length_map ..
              omega
            have hx11 := st _ _ hx10
            refine ⟨xs, hx11, by rw [lxs]; exact big (by omega), ?_⟩
            have tt : Tups H8 (upd (upd H10 t (.tup [.int (i : Int), .int (x : Int)])) L (.lst (xs ++ [.ref t]))) := (t10.trans (Tups.of st)).put hx11 (fun _ z => by cases z)
            have ntL : t ≠ L := (ne_of_none hx10 ht).symm
            have pe := er_perm hx
            refine ⟨rl.eraseIdx u, ps ++ [(i, x)], ⟨_, upd_same, prd_app (L2.Paired.mapP px8 fun _ _ z => z.mono tt) (.cons ⟨t, rfl, by rw [upd_ne ntL]; exact upd_same⟩ .nil)⟩, by rw [upd_ne nLo.symm]; exact st _ _ ho10, (D10.same st).put nLd nLc, ?_, ?_, fun y hy => ?_, fun y hy => lr8 y (pe.mem_iff.mp (List.mem_cons_of_mem _ hy))⟩
            · have := pe.length_eq
              rw [List.length_cons] at this
              omega
            · rw [ks_app, ekp, List.range_succ]
              rfl
            · rw [sr_app] at hy
              rcases List.mem_append.mp hy with hy | hy
              · exact ls8 y hy
              · have : y = x := by simpa [sr] using hy
                rw [this]
                exact lr8 x (List.mem_of_getElem? hx)
          · rintro H8 ⟨rl, ps, px8, ho8, D8, lrl, ekp, ls8, lr8⟩
            have nLd := D7.nd hL
            refine ⟨ps, L, _, _, _, rfl, px8, D8, ⟨by rw [ekp]; exact List.nodup_range, fun x hx => ?_, ls8, ?_⟩, nLd⟩
            · rw [ekp] at hx
              have := List.mem_range.mp hx
              omega
            · have := congrArg List.length ekp
              rw [List.length_range] at this
              have h2 : (ks ps).length = ps.length := List.length_map ..
              omega
        · have t6 : Tups H5 H6 := fun b vs e => kp6 _ _ e (by
            obtain ⟨_, _, _, D5⟩ := D5
            exact ne_of e D5.at_ (by intro z; cases z))
          obtain ⟨xs, h1, h2⟩ := pl5
          exact ⟨ps, pa, _, _, _, rfl, ⟨xs, kp6 _ _ h1 npd, L2.Paired.mapP h2 fun _ _ z => z.mono t6⟩, D6, dps, npd⟩
      · clear dps pl5 D5 lps ndr lt5 ls5 hp3 hr3 hr2 npr npc hr5 npd
        rintro σ H6 ⟨ps, pa, y4, y5, y6, rfl, ⟨xs, hp6, px6⟩, D6, dps, npd⟩
        refine ⟨_, rfl, d, c, ms, 4, rfl, D6, by decide, by decide, fun g H7 hg D7 kp7 => ⟨10, (g : Int), rfl, rfl, ?_⟩⟩
        have eg : (10 : Int) + (g : Int) = ((10 + g : Nat) : Int) := by omega
        dsimp only
        rw [eg]
        have hsp : 10 + g < 14 := by omega
        have hsp2 : 10 ≤ 10 + g := by omega
        generalize 10 + g = spare at hsp hsp2
        have t7 : Tups H6 H7 := fun b vs e => kp7 _ _ e (by
          obtain ⟨_, _, _, D6⟩ := D6
          exact ne_of e D6.at_ (by intro z; cases z))
        have hp7 := kp7 _ _ hp6 npd
        have px7 : Paired (PrV H7) ps xs := L2.Paired.mapP px6 fun _ _ z => z.mono t7
        clear hp6 px6 t7 D7 kp7 D6
        have lxs : xs.length = ps.length := px7.length.symm
        have lps := dps.len
        refine ⟨_, rfl, pa, _, rfl, .inl ⟨.of hp7, fun t ht => ⟨_, rfl, t, ps, spare, rfl, ⟨xs, upd_same, L2.Paired.mapP px7 fun _ _ z => z.mono (Tups.of (same_new ht))⟩, by omega, dps.nd, fun fa row R H8 s8 hms sq => ?_⟩⟩⟩
        have s78 := (same_new (o := .tup xs) ht).trans s8
        have hp8 := s78 _ _ hp7
        have px8 : Paired (PrV H8) ps xs := L2.Paired.mapP px7 fun _ _ z => z.mono (Tups.of s78)
        clear hp7 px7 s78 s8 ht
        have nd0 : (ks (ne0 ps)).Nodup := List.Nodup.sublist (List.Sublist.map _ List.filter_sublist) dps.nd
        intro la hla
        have npl : pa ≠ la := ne_of_none hp8 hla
        have sl := same_new (o := .dK []) hla
        have hl9 : (upd H8 la (.dK [])) la = some (.dK []) := upd_same
        have hp9 := sl _ _ hp8
        have hms9 : MvL (upd H8 la (.dK [])) fa (row ++ ringsMv spare R) := by
          obtain ⟨vs, h1, h2⟩ := hms
          exact ⟨vs, sl _ _ h1, L2.Paired.mapP h2 fun _ _ z => z.mono (Tups.of sl)⟩
        have px9 : Paired (PrV (upd H8 la (.dK []))) ps xs := L2.Paired.mapP px8 fun _ _ z => z.mono (Tups.of sl)
        generalize upd H8 la (.dK []) = H9 at hl9 hp9 hms9 px9
        obtain ⟨mvs, hm9, pm9⟩ := hms9
        have nfl : fa ≠ la := ne_of hm9 hl9 (by intro z; cases z)
        refine ⟨_, rfl, pa, rfl, ⟨_, .of hp9⟩, for_list (xs := xs) (fun i σ H' => ∃ (y5 y10 : Option V), σ = [some (.ref a), some (.ref d), some (.ref ra), some (.ref pa), y4, y5, y6, some (.int (spare : Int)), some (.ref fa), some (.ref la), y10, none, none, none] ∧
            H' la = some (.dK (kvP (ne0 (ps.take i)))) ∧ (∀ b o, H9 b = some o → b ≠ la → H' b = some o)) ⟨y5, none, rfl, hl9, fun b o e _ => e⟩ ?_ ?_ ?_⟩
        · rintro i σ H' _ ⟨_, _, _, _, k⟩
          exact .of (k _ _ hp9 npl)
        · rintro i x σ H10 hx ⟨y5, y10, rfl, hl10, k10⟩
          obtain ⟨p, hp, t, rfl, ht⟩ := prd_get' px9 hx
          have il : i < ps.length := (List.getElem?_eq_some_iff.mp hp).1
          have etk : ps.take (i + 1) = ps.take i ++ [p] := by
            rw [List.take_add_one, hp]
            rfl
          have ht10 := k10 _ _ ht (ne_of ht hl9 (by intro z; cases z))
          refine ⟨t, _, rfl, .of ht10, rfl, _, _, rfl, _, _, rfl, rfl, ?_⟩
          refine ⟨_, rfl, _, rfl, rfl, _, rfl, ?_⟩
          by_cases e : p.1 = p.2
          · have eb : (!decide (V.int (p.1 : Int) = V.int (p.2 : Int))) = false := by simp [e]
            rw [eb]
            have e0 : [p].filter (fun p => decide (p.1 ≠ p.2)) = [] := by simp [e]
            have e1 : ne0 (ps.take i ++ [p]) = ne0 (ps.take i) := by
              show List.filter _ _ = _
              rw [List.filter_append, e0, List.append_nil]
            refine iteF ⟨_, _, rfl, ?_, k10⟩
            rw [etk, e1]
            exact hl10
          · have eb : (!decide (V.int (p.1 : Int) = V.int (p.2 : Int))) = true := by
              rw [decide_eq_false (fun z => e (by have := V.int.inj z; omega))]
              rfl
            rw [eb]
            have hn : p.1 ∉ ks (ne0 (ps.take i)) := by
              intro h
              obtain ⟨y, hy⟩ := mem_ks.mp h
              have hy1 := (List.mem_filter.mp hy).1
              have hnd : (ks (ps.take i ++ p :: ps.drop (i + 1))).Nodup := by
                have : ps.take i ++ p :: ps.drop (i + 1) = ps := by
                  have e1 : p :: ps.drop (i + 1) = ps.drop i := by
                    rw [List.drop_eq_getElem_cons il]
                    rw [List.getElem?_eq_getElem il] at hp
                    rw [Option.some.inj hp]
                  rw [e1, List.take_append_drop]
                rw [this]
                exact dps.nd
              rw [ks_app] at hnd
              exact (List.nodup_append.mp hnd).2.2 p.1 (mem_ks.mpr ⟨y, hy1⟩) p.1 List.mem_cons_self rfl
            have lne : (kvP (ne0 (ps.take i))).length ≤ 20 := by
              unfold kvP
              rw [List.length_map]
              have h1 : (ne0 (ps.take i)).length ≤ (ps.take i).length := List.length_filter_le _ _
              rw [List.length_take] at h1
              omega
            refine iteT ⟨_, rfl, _, rfl, _, rfl, la, _, rfl, DPut.k (k := Sum.inl (p.1 : Int)) hl10 (big (by omega)), _, _, rfl, ?_, fun b o e n => by rw [upd_ne n]; exact k10 b o e n⟩
            rw [upd_same, putK_new _ (kvP_none hn), etk]
            show _ = some (HO.dK (kvP (List.filter _ _)))
            rw [List.filter_append]
            have e0 : [p].filter (fun p => decide (p.1 ≠ p.2)) = [p] := by simp [e]
            rw [e0, kvP_app]
            rfl
        · rintro σ H10 ⟨y5, y10, rfl, hl10, k10⟩
          rw [lxs, List.take_length] at hl10
          have hm10 := k10 _ _ hm9 nfl
          have t10 : Tups H9 H10 := fun b vs e => k10 _ _ e (ne_of e hl9 (by intro z; cases z))
          have pm10 : Paired (MvV H10) (row ++ ringsMv spare R) mvs := L2.Paired.mapP pm9 fun _ _ z => z.mono t10
          clear hm9 pm9 t10 hp9 px9 k10 hl9 hms hp8 px8 sl
          have len0 : (ne0 ps).length ≤ 9 := Nat.le_trans (List.length_filter_le _ _) lps
          refine ⟨_, rfl, _, _, _, _, true, rfl, .ty "list", .base (.lst hm10), kit_ty (by decide +kernel), _, rfl, iteF ?_⟩
          refine ⟨_, rfl, fa, _, rfl, .inl (.of hm10), _, rfl, la, _, rfl, hl10, _, rfl, la, ne0 ps, R, rfl, hl10, nd0, by omega, sq.rings, fun H11 s11 => ⟨_, _, rfl, rfl, rfl, _, rfl, ?_⟩⟩
          have lms : mvs.length = (row ++ ringsMv spare R).length := pm10.length.symm
          have ecmp : (!decide (V.int (mvs.length : Int) = V.int (((kvP (ne0 ps)).length : Int) + (R.length : Int)))) = false := by
            have : (kvP (ne0 ps)).length = (ne0 ps).length := List.length_map ..
            rw [lms, sq_len sq, this]
            rw [decide_eq_true (congrArg V.int (by omega))]
            rfl
          dsimp only
          rw [ecmp]
          refine iteF ?_
          have hm11 := s11 _ _ hm10
          have hl11 := s11 _ _ hl10
          have pm11 : Paired (MvV H11) (row ++ ringsMv spare R) mvs := L2.Paired.mapP pm10 fun _ _ z => z.mono (Tups.of s11)
          intro wa hwa
          have nwl : wa ≠ la := (ne_of_none hl11 hwa).symm
          have nwf : wa ≠ fa := (ne_of_none hm11 hwa).symm
          have sw := same_new (o := .dK []) hwa
          refine ⟨14, rfl, by decide, by decide, for_range (lo := 0) (n := 14) (fun i σ H' => ∃ (kr : List (Key × V)) (y12 : Option V), σ = [some (.ref a), some (.ref d), some (.ref ra), some (.ref pa), y4, y5, y6, some (.int (spare : Int)), some (.ref fa), some (.ref la), y10, some (.ref wa), y12, none] ∧
              H' wa = some (.dK kr) ∧ WdOk kr i (fun x => 100 + (x : Int)) ∧ kr.length ≤ i ∧ (∀ b o, H11 b = some o → H' b = some o)) ⟨[], none, rfl, upd_same, fun x => rfl, Nat.le_refl _, sw⟩ ?_ ?_⟩
          · rintro i σ H12 hi ⟨kr, y12, rfl, hw12, wd, lk, k12⟩
            have e0 : (0 : Int) + (i : Int) = (i : Int) := Int.zero_add _
            rw [e0]
            refine ⟨_, rfl, 100, (i : Int), rfl, rfl, _, rfl, _, rfl, wa, _, rfl, DPut.k (k := Sum.inl (i : Int)) hw12 (big (by omega)), ?_⟩
            refine ⟨_, _, rfl, upd_same, fun x => ?_, Nat.le_trans (length_putK _ _ _) (by omega), fun b o e => by rw [upd_ne (ne_of_none e hwa)]; exact k12 b o e⟩
            rw [valV_put]
            by_cases e : x = i
            · subst e
              rw [if_pos rfl, if_pos (Nat.lt_succ_self _)]
            · rw [if_neg (fun z => e (by have := Sum.inl.inj z; omega)), wd x]
              have : x < i + 1 ↔ x < i := by omega
              simp only [this]
          · rintro σ H12 ⟨kr, y12, rfl, hw12, wd, lk, k12⟩
            have hm12 := k12 _ _ hm11
            have hl12 := k12 _ _ hl11
            have pm12 : Paired (MvV H12) (row ++ ringsMv spare R) mvs := L2.Paired.mapP pm11 fun _ _ z => z.mono fun b vs e => k12 _ _ e
            have regs := sq_regs sq dps.lk dps.ls hsp
            clear hm10 hl10 hm11 hl11 pm10 pm11 s11 ecmp
            refine ⟨_, rfl, fa, rfl, ⟨_, .of hm12⟩, for_list (xs := mvs) (fun i σ H' => ∃ (kr : List (Key × V)) (y13 : Option V), σ = [some (.ref a), some (.ref d), some (.ref ra), some (.ref pa), y4, y5, y6, some (.int (spare : Int)), some (.ref fa), some (.ref la), y10, some (.ref wa), y12, y13] ∧
                H' wa = some (.dK kr) ∧ WdOk kr 14 (runM (fun x => 100 + (x : Int)) ((row ++ ringsMv spare R).take i)) ∧ kr.length ≤ 14 + i ∧ (∀ b o, H12 b = some o → b ≠ wa → H' b = some o)) ⟨kr, none, rfl, hw12, wd, by omega, fun b o e _ => e⟩ ?_ ?_ ?_⟩
            · rintro i σ H' _ ⟨_, _, _, _, _, _, k⟩
              exact .of (k _ _ hm12 nwf.symm)
            · rintro i x σ H13 hx ⟨kr, y13, rfl, hw13, wd, lk, k13⟩
              obtain ⟨p, hp, t, rfl, ht⟩ := prd_get' pm12 hx
              have ht13 := k13 _ _ ht (ne_of ht hw12 (by intro z; cases z))
              obtain ⟨r1, r2⟩ := regs p (List.mem_of_getElem? hp)
              have il : i < (row ++ ringsMv spare R).length := (List.getElem?_eq_some_iff.mp hp).1
              have lR9 : R.length ≤ 9 := by
                have h1 : ∀ {R : List Pr}, (∀ r ∈ R, IsRing r) → R.length ≤ R.flatten.length := fun {R} h => by
                  induction R with
                  | nil => exact Nat.zero_le _
                  | cons r R ih =>
                    obtain ⟨_, hne, _⟩ := h r List.mem_cons_self
                    have h1 := ih fun x hx => h x (List.mem_cons_of_mem _ hx)
                    have h2 : r.length ≠ 0 := fun z => hne (List.eq_nil_of_length_eq_zero z)
                    show R.length + 1 ≤ (r ++ R.flatten).length
                    rw [List.length_append]
                    omega
                have h2 := h1 sq.rings.ring
                have h3 := sq.perm.length_eq
                rw [List.length_append] at h3
                have h4 : row.length + R.flatten.length = (ne0 ps).length := h3
                omega
              rw [sq_len sq] at il
              have w1 : valV kr (Sum.inl (p.1 : Int)) = some (.int (runM (fun x => 100 + (x : Int)) ((row ++ ringsMv spare R).take i) p.1)) := by rw [wd p.1, if_pos r1]
              have w2 : valV kr (Sum.inl (p.2 : Int)) = some (.int (runM (fun x => 100 + (x : Int)) ((row ++ ringsMv spare R).take i) p.2)) := by rw [wd p.2, if_pos r2]
              have dS : (!decide (V.str "move" = V.str "move")) = false := by rw [decide_eq_true rfl]; rfl
              refine or_val (cA := false) (cB := false || (false || false)) (fun Q q => ⟨_, rfl, t, _, rfl, .inr (.of ht13), rfl, _, rfl, q⟩)
                (or_val (fun Q q => ⟨_, rfl, t, _, _, _, rfl, rfl, .of ht13, atI_nat (j := 0) rfl, rfl, _, rfl, by rw [dS]; exact q⟩)
                  (or_val (fun Q q => ⟨_, rfl, t, _, _, _, rfl, rfl, .of ht13, atI_nat (j := 1) rfl, _, rfl, wa, _, rfl, DGet.k (k := Sum.inl (p.1 : Int)) hw13, _, rfl, by rw [w1]; exact q⟩)
                    (fun Q q => ⟨_, rfl, t, _, _, _, rfl, rfl, .of ht13, atI_nat (j := 2) rfl, _, rfl, wa, _, rfl, DGet.k (k := Sum.inl (p.2 : Int)) hw13, _, rfl, by rw [w2]; exact q⟩))) _ (iteF ?_)
              refine ⟨_, rfl, _, rfl, t, _, _, _, rfl, rfl, .of ht13, atI_nat (j := 2) rfl, wa, _, rfl, dgetR (.of hw13) w2, _, rfl, _, rfl, t, _, _, _, rfl, rfl, .of ht13, atI_nat (j := 1) rfl, wa, _, rfl, DPut.k (k := Sum.inl (p.1 : Int)) hw13 (big (by omega)), ?_⟩
              refine ⟨_, _, rfl, upd_same, fun x => ?_, Nat.le_trans (length_putK _ _ _) (by omega), fun b o e n => by rw [upd_ne n]; exact k13 b o e n⟩
              have etk : (row ++ ringsMv spare R).take (i + 1) = (row ++ ringsMv spare R).take i ++ [p] := by
                rw [List.take_add_one, hp]
                rfl
              rw [etk, runM_app, valV_put]
              show _ = if x < 14 then some (V.int (if x = p.1 then _ else _)) else none
              by_cases e : x = p.1
              · subst e
                rw [if_pos rfl, if_pos r1, if_pos rfl]
              · rw [if_neg (fun z => e (by have := Sum.inl.inj z; omega)), wd x, if_neg e]
            · rintro σ H13 ⟨kr, y13, rfl, hw13, wd, lk, k13⟩
              rw [lms, List.take_length] at wd
              have hl13 := k13 _ _ hl12 nwl.symm
              have spn : spare ∉ ks ps := fun z => by have := dps.lk _ z; omega
              have sps : spare ∉ sr ps := fun z => by have := dps.ls _ z; omega
              obtain ⟨f1, f2⟩ := final_run dps.nd sq spn sps (fun x => 100 + (x : Int))
              refine ⟨14, rfl, by decide, by decide, for_range (lo := 0) (n := 14) (fun i σ H' => ∃ (y12 : Option V), σ = [some (.ref a), some (.ref d), some (.ref ra), some (.ref pa), y4, y5, y6, some (.int (spare : Int)), some (.ref fa), some (.ref la), y10, some (.ref wa), y12, y13] ∧ H' = H13) ⟨y12, rfl, rfl⟩ ?_ ?_⟩
              · rintro i σ H14 hi ⟨y12, rfl, rfl⟩
                have e0 : (0 : Int) + (i : Int) = (i : Int) := Int.zero_add _
                rw [e0]
                refine ⟨_, rfl, _, rfl, rfl, _, rfl, ?_⟩
                by_cases e : i = spare
                · rw [e, decide_eq_true rfl]
                  exact iteF (iteF ⟨_, rfl, rfl⟩)
                · have eb : (!decide (V.int (i : Int) = V.int (spare : Int))) = true := by
                    rw [decide_eq_false (fun z => e (by have := V.int.inj z; omega))]
                    rfl
                  rw [eb]
                  have w1 : valV kr (Sum.inl (i : Int)) = some (.int (runM (fun x => 100 + (x : Int)) (row ++ ringsMv spare R) i)) := by rw [wd i, if_pos hi]
                  refine iteT ⟨_, rfl, _, rfl, wa, _, rfl, dgetR (.of hw13) w1, _, rfl, la, rfl, .inl ⟨_, .of hl13⟩, _, rfl, _, rfl, _, DGet.k (k := Sum.inl (i : Int)) hl13, ?_⟩
                  by_cases hk : i ∈ ks (ne0 ps)
                  · obtain ⟨y, hy⟩ := mem_ks.mp hk
                    rw [kvP_some nd0 hy, f1 i y hy]
                    refine ⟨100, (y : Int), rfl, rfl, rfl, _, rfl, ?_⟩
                    dsimp only
                    rw [decide_eq_true rfl]
                    exact iteF ⟨_, rfl, rfl⟩
                  · rw [kvP_none hk, f2 i hk e]
                    refine ⟨100, (i : Int), rfl, rfl, rfl, _, rfl, ?_⟩
                    dsimp only
                    rw [decide_eq_true rfl]
                    exact iteF ⟨_, rfl, rfl⟩
              · rintro σ H14 ⟨y12, rfl, rfl⟩
                exact q H14
end
end K0

set_option Elab.async false
set_option linter.all false
set_option maxRecDepth 100000
set_option maxHeartbeats 2000000
namespace K0
open PySem L2
theorem all_mk {l : PySem.W.OpenLaw} {w : World} {K : PySem.W.Frag} {h : Heap} {mg : Str → Option Value} {fa f1 f2 f3 f4 f5 f6 f7 : Addr} (X : K.In h) (G : h.Ns mainGlobals mg) (hfa : mg "law" = some (.ref fa))
    {od1 an1 od2 an2 od3 an3 od4 an4 od5 an5 od6 an6 od7 an7 : Option Addr} {sl1 sl2 sl3 sl4 sl5 sl6 sl7 : Array (Option Value)} {oc1 kV1 dc1 pm1 cd1 ct1 oc2 kV2 dc2 pm2 cd2 ct2 oc3 kV3 dc3 pm3 cd3 ct3 oc4 kV4 dc4 pm4 cd4 ct4 oc5 kV5 dc5 pm5 cd5 ct5 oc6 kV6 dc6 pm6 cd6 ct6 oc7 kV7 dc7 pm7 cd7 ct7 : Value}
    (a1 : PySem.W.nsIn K mainGlobals "_without_rings" = some (some (.ref f1))) (l1 : K.lookup f1 = some ⟨oc1, od1, .func (PySem.W.fnOf "_without_rings" "_without_rings" (defArgs sWR) (defBody sWR) (defScope sWR) .none kV1 dc1 pm1 an1 cd1 ct1), sl1⟩) (c1 : PySem.W.codeIn K cd1 "_without_rings" = true) (k1 : PySem.W.keepIn K (.ref f1) = true)
    (a2 : PySem.W.nsIn K mainGlobals "rings_of" = some (some (.ref f2))) (l2 : K.lookup f2 = some ⟨oc2, od2, .func (PySem.W.fnOf "rings_of" "rings_of" (defArgs sRO) (defBody sRO) (defScope sRO) .none kV2 dc2 pm2 an2 cd2 ct2), sl2⟩) (c2 : PySem.W.codeIn K cd2 "rings_of" = true) (k2 : PySem.W.keepIn K (.ref f2) = true)
    (a3 : PySem.W.nsIn K mainGlobals "sequence" = some (some (.ref f3))) (l3 : K.lookup f3 = some ⟨oc3, od3, .func (PySem.W.fnOf "sequence" "sequence" (defArgs sSeq) (defBody sSeq) (defScope sSeq) .none kV3 dc3 pm3 an3 cd3 ct3), sl3⟩) (c3 : PySem.W.codeIn K cd3 "sequence" = true) (k3 : PySem.W.keepIn K (.ref f3) = true)
    (a4 : PySem.W.nsIn K mainGlobals "_law_draw" = some (some (.ref f4))) (l4 : K.lookup f4 = some ⟨oc4, od4, .func (PySem.W.fnOf "_law_draw" "_law_draw" (defArgs sDraw) (defBody sDraw) (defScope sDraw) .none kV4 dc4 pm4 an4 cd4 ct4), sl4⟩) (c4 : PySem.W.codeIn K cd4 "_law_draw" = true) (k4 : PySem.W.keepIn K (.ref f4) = true)
    (a5 : PySem.W.nsIn K mainGlobals "_law_take" = some (some (.ref f5))) (l5 : K.lookup f5 = some ⟨oc5, od5, .func (PySem.W.fnOf "_law_take" "_law_take" (defArgs sTake) (defBody sTake) (defScope sTake) .none kV5 dc5 pm5 an5 cd5 ct5), sl5⟩) (c5 : PySem.W.codeIn K cd5 "_law_take" = true) (k5 : PySem.W.keepIn K (.ref f5) = true)
    (a6 : PySem.W.nsIn K mainGlobals "_law_rings" = some (some (.ref f6))) (l6 : K.lookup f6 = some ⟨oc6, od6, .func (PySem.W.fnOf "_law_rings" "_law_rings" (defArgs sLR) (defBody sLR) (defScope sLR) .none kV6 dc6 pm6 an6 cd6 ct6), sl6⟩) (c6 : PySem.W.codeIn K cd6 "_law_rings" = true) (k6 : PySem.W.keepIn K (.ref f6) = true)
    (a7 : PySem.W.nsIn K mainGlobals "law" = some (some (.ref f7))) (l7 : K.lookup f7 = some ⟨oc7, od7, .func (PySem.W.fnOf "law" "law" (defArgs sLaw) (defBody sLaw) (defScope sLaw) .none kV7 dc7 pm7 an7 cd7 ct7), sl7⟩) (c7 : PySem.W.codeIn K cd7 "law" = true) (k7 : PySem.W.keepIn K (.ref f7) = true)
    (z_len : PySem.W.nsIn K mainGlobals "len" = some none)
    (z_int : PySem.W.nsIn K mainGlobals "int" = some none)
    (z_abs : PySem.W.nsIn K mainGlobals "abs" = some none)
    (z_range : PySem.W.nsIn K mainGlobals "range" = some none)
    (z_tuple : PySem.W.nsIn K mainGlobals "tuple" = some none)
    (z_sorted : PySem.W.nsIn K mainGlobals "sorted" = some none)
    (z_isinstance : PySem.W.nsIn K mainGlobals "isinstance" = some none)
    (z_list : PySem.W.nsIn K mainGlobals "list" = some none) :
    ∃ fd : FuncData, (∀ (s : Shared) (v : Value), BindsTo s fd ⟨[v], []⟩ [("script", v)]) ∧ ∀ base : Heap, K.In base → base.Ns mainGlobals mg → FnOk l.prog w K mg base CX0 4 fa fd ["script"] (spLaw K) := by
  have e := hfa.symm.trans (PySem.W.mg_of X G a7)
  cases e
  have F1 := fun_mk (st := sWR) l1 c1 k1
  have b1 := F1.binds (ps := ["pairs"]) fun _ _ _ _ _ _ us hl => match us, hl with | [_], _ => rfl
  have m1 := PySem.W.mg_of X G a1
  have F2 := fun_mk (st := sRO) l2 c2 k2
  have b2 := F2.binds (ps := ["pairs"]) fun _ _ _ _ _ _ us hl => match us, hl with | [_], _ => rfl
  have m2 := PySem.W.mg_of X G a2
  have F3 := fun_mk (st := sSeq) l3 c3 k3
  have b3 := F3.binds (ps := ["pairs", "spare"]) fun _ _ _ _ _ _ us hl => match us, hl with | [_, _], _ => rfl
  have m3 := PySem.W.mg_of X G a3
  have F4 := fun_mk (st := sDraw) l4 c4 k4
  have b4 := F4.binds (ps := ["script"]) fun _ _ _ _ _ _ us hl => match us, hl with | [_], _ => rfl
  have m4 := PySem.W.mg_of X G a4
  have F5 := fun_mk (st := sTake) l5 c5 k5
  have b5 := F5.binds (ps := ["draw", "many"]) fun _ _ _ _ _ _ us hl => match us, hl with | [_, _], _ => rfl
  have m5 := PySem.W.mg_of X G a5
  have F6 := fun_mk (st := sLR) l6 c6 k6
  have b6 := F6.binds (ps := ["left"]) fun _ _ _ _ _ _ us hl => match us, hl with | [_], _ => rfl
  have m6 := PySem.W.mg_of X G a6
  have F7 := fun_mk (st := sLaw) l7 c7 k7
  have m7 := PySem.W.mg_of X G a7
  have n_len := PySem.W.mg_none_of X G z_len
  have n_int := PySem.W.mg_none_of X G z_int
  have n_abs := PySem.W.mg_none_of X G z_abs
  have n_range := PySem.W.mg_none_of X G z_range
  have n_tuple := PySem.W.mg_none_of X G z_tuple
  have n_sorted := PySem.W.mg_none_of X G z_sorted
  have n_isinstance := PySem.W.mg_none_of X G z_isinstance
  have n_list := PySem.W.mg_none_of X G z_list
  refine ⟨PySem.W.fnOf "law" "law" (defArgs sLaw) (defBody sLaw) (defScope sLaw) .none kV7 dc7 pm7 an7 cd7 ct7, fun s v => .of_eq rfl, fun base _ _ => ?_⟩
  have gTake : Got l.prog w K mg base 1 "_law_take" ["draw", "many"] spTake := ⟨⟨f5, _, ok_take F5 n_len n_int, m5, k5, b5⟩⟩
  have gDraw : Got l.prog w K mg base 1 "_law_draw" ["script"] (spDraw K) := ⟨⟨f4, _, ok_draw F4 n_int n_abs, m4, k4, b4⟩⟩
  have gW : Got l.prog w K mg base 1 "_without_rings" ["pairs"] spWR := ⟨⟨f1, _, ok_wr F1, m1, k1, b1⟩⟩
  have gO : Got l.prog w K mg base 2 "rings_of" ["pairs"] spRO := ⟨⟨f2, _, ok_ro F2 n_sorted gW, m2, k2, b2⟩⟩
  have gS : Got l.prog w K mg base 3 "sequence" ["pairs", "spare"] spSeq := ⟨⟨f3, _, ok_seq F3 gW gO, m3, k3, b3⟩⟩
  have gL : Got l.prog w K mg base 1 "_law_rings" ["left"] spLR := ⟨⟨f6, _, ok_lr F6 n_sorted n_list, m6, k6, b6⟩⟩
  exact ok_law F7 n_range n_len n_isinstance n_tuple n_list gDraw gTake gS gL
end K0

set_option Elab.async false
set_option linter.all false

open PySem PySem.W PyProof.Rows in
set_option maxRecDepth 100000 in
set_option maxHeartbeats 0 in
theorem PySem.Challenge.cw_leasttiles_k42_moves_at_once_holds : PySem.Challenge.rw_leasttiles_k42_moves_at_once.Holds := by
  w_on; o_law; k_head; (case hw => w_witness2)
  k_fill
  refine L2.walk_of (l := PySem.Challenge.rw_leasttiles_k42_moves_at_once) (n := 63) (k := 4) (x := "script") (CX := fun _ => L2.CX0) (sp := fun w => K0.spLaw _) rfl (by decide) rfl ⟨rfl, by decide, by decide⟩ (fun w h Y => PySem.W.kIn_of Y) ?F (fun _ _ a ns hl _ hS => ⟨a, ns, rfl, hS, hl, fun _ => rfl⟩) (fun _ _ _ _ _ h => h)
  case F =>
    intro w mg fa h KX G hmg
    refine' K0.all_mk KX G hmg ?a1 ?l1 ?c1 ?k1 ?a2 ?l2 ?c2 ?k2 ?a3 ?l3 ?c3 ?k3 ?a4 ?l4 ?c4 ?k4 ?a5 ?l5 ?c5 ?k5 ?a6 ?l6 ?c6 ?k6 ?a7 ?l7 ?c7 ?k7 ?z_len ?z_int ?z_abs ?z_range ?z_tuple ?z_sorted ?z_isinstance ?z_list
    (case a1 => k_is)
    (case l1 => k_is)
    (case c1 => k_is)
    (case k1 => k_is)
    (case a2 => k_is)
    (case l2 => k_is)
    (case c2 => k_is)
    (case k2 => k_is)
    (case a3 => k_is)
    (case l3 => k_is)
    (case c3 => k_is)
    (case k3 => k_is)
    (case a4 => k_is)
    (case l4 => k_is)
    (case c4 => k_is)
    (case k4 => k_is)
    (case a5 => k_is)
    (case l5 => k_is)
    (case c5 => k_is)
    (case k5 => k_is)
    (case a6 => k_is)
    (case l6 => k_is)
    (case c6 => k_is)
    (case k6 => k_is)
    (case a7 => k_is)
    (case l7 => k_is)
    (case c7 => k_is)
    (case k7 => k_is)
    (case z_len => k_is)
    (case z_int => k_is)
    (case z_abs => k_is)
    (case z_range => k_is)
    (case z_tuple => k_is)
    (case z_sorted => k_is)
    (case z_isinstance => k_is)
    (case z_list => k_is)
