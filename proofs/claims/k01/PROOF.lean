import PyProof.Rows.All
import Wide.All
import OpenK.AllK
import Wide.FinOn
import HandS.ForMost
import HandS.Deep
import HandS.TupAny
import HandS.IsInst
import HandS.Flow
import HandS.Zip
import HandS.Rev
import HandS.RevRange
import HandS.SortInts
import HandS.Style
import HandS.Exc
import PyProof.ReprRoads
import HandS.ExcOwn
import PyProof.ReprLen
import PySem.Challenge.RW_barstay_k01_simplices_and_faces
set_option Elab.async false
set_option maxRecDepth 100000
set_option linter.all false
/-! D0: a layer of plain data over the hand layer: what an expression, a statement, a def does is a Lean function of data (PyData), the heap is dealt with once. -/
namespace Bd
open PySem L2

abbrev D := PyData
/-- an answer: a value; an exception (its class, its word, its place); or nothing is told -/
inductive R (α : Type) where
  | ok (a : α)
  | ex (c w : Str) (p : D)
  | no
def R.bind {α β : Type} : R α → (α → R β) → R β
  | .ok a, f => f a
  | .ex c w p, _ => .ex c w p
  | .no, _ => .no
instance : Monad R where
  pure := R.ok
  bind := R.bind
@[simp] theorem R.ok_bind {α β : Type} (a : α) (f : α → R β) : (R.ok a).bind f = f a := Eq.trans rfl rfl
@[simp] theorem R.no_bind {α β : Type} (f : α → R β) : (R.no : R α).bind f = R.no := Eq.trans rfl rfl
@[simp] theorem R.ex_bind {α β : Type} (c w : Str) (p : D) (f : α → R β) : (R.ex c w p : R α).bind f = R.ex c w p := Eq.trans rfl rfl

/-! ### data in the heap -/
/-- the heap without the cells at A -/
def hid (A : List Addr) (H : Hp) : Hp := fun b => if b ∈ A then none else H b
theorem hid_out {A : List Addr} {H : Hp} {b : Addr} (h : b ∉ A) : hid A H b = H b := if_neg h
theorem hid_in {A : List Addr} {H : Hp} {b : Addr} (h : b ∈ A) : hid A H b = none := if_pos h
theorem hid_some {A : List Addr} {H : Hp} {b : Addr} {o : HO} (h : hid A H b = some o) : b ∉ A ∧ H b = some o := by
  by_cases q : b ∈ A
  · rw [hid_in q] at h
    cases h
  · rw [hid_out q] at h
    exact ⟨q, h⟩
theorem hid_le (A : List Addr) (H : Hp) : Same (hid A H) H := fun _ _ e => (hid_some e).2
theorem hid_mono {A B : List Addr} {H : Hp} (h : ∀ b ∈ B, b ∈ A) : Same (hid A H) (hid B H) := fun b o e => by
  obtain ⟨n, e⟩ := hid_some e
  rw [hid_out fun q => n (h b q)]
  exact e
theorem hid_same {A : List Addr} {H H' : Hp} (s : Same H H') : Same (hid A H) (hid A H') := fun b o e => by
  obtain ⟨n, e⟩ := hid_some e
  rw [hid_out n]
  exact s b o e
/-- a cell that was free is hidden too -/
theorem hid_new {A : List Addr} {H H' : Hp} {p : Addr} (s : Same H H') (hp : H p = none) : Same (hid A H) (hid (p :: A) H') := fun b o e => by
  obtain ⟨n, e⟩ := hid_some e
  rw [hid_out fun q => (List.mem_cons.mp q).elim (fun z => by subst z; rw [hp] at e; cases e) n]
  exact s b o e
theorem hid_upd {A : List Addr} {H : Hp} {a : Addr} {o : HO} (h : a ∈ A) : hid A (upd H a o) = hid A H := by
  funext b
  by_cases q : b ∈ A
  · rw [hid_in q, hid_in q]
  · rw [hid_out q, hid_out q, upd_ne fun z => q (by rw [z]; exact h)]
theorem same_new {H : Hp} {p : Addr} {o : HO} (h : H p = none) : Same H (upd H p o) := fun b x e => by
  rw [upd_ne (ne_of_none e h)]
  exact e

section
variable {K : PySem.W.Frag} {H H' : Hp}
theorem sqT_same {a : Addr} {xs : List V} (s : Same H H') (h : SqT K H a xs) : SqT K H' a xs := by
  rcases h with (h | ⟨o, h⟩) | h
  · exact .inl (.inl (s _ _ h))
  · exact .inl (.inr ⟨o, s _ _ h⟩)
  · exact .inr h
mutual
theorem dp_same (s : Same H H') : ∀ (d : D) (v : V), Dp K H v d → Dp K H' v d
  | .none, _, h => by cases h; exact .non
  | .bool b, _, h => by cases h; exact .bl b
  | .int i, _, h => by cases h; exact .int i
  | .str x, _, h => by cases h; exact .str x
  | .list ds, _, h => by
    cases h with
    | lst h1 h2 => exact .lst (s.seq h1) (dpAll_same s ds _ h2)
  | .tuple ds, _, h => by
    cases h with
    | tup h1 h2 => exact .tup (sqT_same s h1) (dpAll_same s ds _ h2)
  | .dict _, _, h => by cases h
theorem dpAll_same (s : Same H H') : ∀ (ds : List D) (vs : List V), DpAll K H vs ds → DpAll K H' vs ds
  | [], _, h => by cases h; exact .nil
  | d :: ds, _, h => by
    cases h with
    | cons h1 h2 => exact .cons (dp_same s d _ h1) (dpAll_same s ds _ h2)
end
theorem Dp_mono {v : V} {d : D} (h : Dp K H v d) (s : Same H H') : Dp K H' v d := dp_same s d v h
theorem DpAll_mono {vs : List V} {ds : List D} (h : DpAll K H vs ds) (s : Same H H') : DpAll K H' vs ds := dpAll_same s ds vs h
theorem DpAll_length : ∀ {vs : List V} {ds : List D}, DpAll K H vs ds → vs.length = ds.length
  | _, _, .nil => rfl
  | _, _, .cons _ t => by rw [List.length_cons, List.length_cons, DpAll_length t]
theorem DpAll_get : ∀ {vs : List V} {ds : List D} {i : Nat} {d : D}, DpAll K H vs ds → ds[i]? = some d → ∃ v, vs[i]? = some v ∧ Dp K H v d
  | _, _, _, _, .nil, e => by simp at e
  | _, _, 0, _, .cons h _, e => by simp at e; subst e; exact ⟨_, rfl, h⟩
  | _, _, i + 1, d, .cons _ t, e => by
    obtain ⟨v, h1, h2⟩ := DpAll_get (i := i) (d := d) t (by simpa using e)
    exact ⟨v, by simpa using h1, h2⟩
theorem DpAll_getV : ∀ {vs : List V} {ds : List D} {i : Nat} {v : V}, DpAll K H vs ds → vs[i]? = some v → ∃ d, ds[i]? = some d ∧ Dp K H v d
  | _, _, _, _, .nil, e => by simp at e
  | _, _, 0, _, .cons h _, e => by simp at e; subst e; exact ⟨_, rfl, h⟩
  | _, _, i + 1, d, .cons _ t, e => by
    obtain ⟨v, h1, h2⟩ := DpAll_getV (i := i) (v := d) t (by simpa using e)
    exact ⟨v, by simpa using h1, h2⟩
theorem DpAll_append : ∀ {vs ws : List V} {ds es : List D}, DpAll K H vs ds → DpAll K H ws es → DpAll K H (vs ++ ws) (ds ++ es)
  | _, _, _, _, .nil, s => s
  | _, _, _, _, .cons h t, s => .cons h (DpAll_append t s)
theorem DpAll_take : ∀ {vs : List V} {ds : List D} (n : Nat), DpAll K H vs ds → DpAll K H (vs.take n) (ds.take n)
  | _, _, 0, _ => .nil
  | _, _, _ + 1, .nil => .nil
  | _, _, n + 1, .cons h t => .cons h (DpAll_take n t)
theorem DpAll_drop : ∀ {vs : List V} {ds : List D} (n : Nat), DpAll K H vs ds → DpAll K H (vs.drop n) (ds.drop n)
  | _, _, 0, h => h
  | _, _, _ + 1, .nil => .nil
  | _, _, n + 1, .cons _ t => DpAll_drop n t
theorem DpAll_rev : ∀ {vs : List V} {ds : List D}, DpAll K H vs ds → DpAll K H vs.reverse ds.reverse
  | _, _, .nil => .nil
  | _, _, .cons h t => by
    rw [List.reverse_cons, List.reverse_cons]
    exact DpAll_append (DpAll_rev t) (.cons h .nil)
theorem DpAll_ints : ∀ (ns : List Int), DpAll K H (ns.map V.int) (ns.map PyData.int)
  | [] => .nil
  | n :: ns => .cons (.int n) (DpAll_ints ns)
end

/-! ### the def's names -/
/-- a name: nothing is told; data; a list of its own that stands nowhere else -/
inductive Sl where
  | no
  | d (x : D)
  | own (xs : List D)
abbrev Nv := List Sl
def SlotR (K : PySem.W.Frag) (H : Hp) (A : List Addr) : Option V → Sl → Prop
  | _, .no => True
  | some v, .d x => Dp K (hid A H) v x
  | some (.ref a), .own xs => a ∈ A ∧ ∃ vs, H a = some (.lst vs) ∧ DpAll K (hid A H) vs xs
  | _, _ => False
structure EnvD (K : PySem.W.Frag) (H : Hp) (A : List Addr) (σ : St) (η : Nv) : Prop where
  len : σ.length = η.length
  at_ : ∀ (i : Nat) (s : Sl), η[i]? = some s → ∃ o, σ[i]? = some o ∧ SlotR K H A o s
  ap : ∀ (i j : Nat) (a : Addr) (xs ys : List D), η[i]? = some (.own xs) → η[j]? = some (.own ys) → σ[i]? = some (some (.ref a)) → σ[j]? = some (some (.ref a)) → i = j
  tr : ∀ a ∈ A, H a ≠ none
section
variable {K : PySem.W.Frag} {H H' : Hp} {A A' : List Addr} {σ : St} {η : Nv}
theorem SlotR.keep {o : Option V} {s : Sl} (h : SlotR K H A o s) (k : Same (hid A H) (hid A' H')) (hA : ∀ a ∈ A, a ∈ A') (hl : ∀ a vs, a ∈ A → H a = some (.lst vs) → H' a = some (.lst vs)) : SlotR K H' A' o s := by
  cases s with
  | no => cases o <;> trivial
  | d x =>
    cases o with
    | none => exact h
    | some v => exact Dp_mono (show Dp K (hid A H) v x from h) k
  | own xs =>
    match o, h with
    | some (.ref a), ⟨m, vs, e, q⟩ => exact ⟨hA a m, vs, hl a vs m e, DpAll_mono q k⟩
theorem EnvD.same (h : EnvD K H A σ η) (s : Same H H') : EnvD K H' A σ η where
  len := h.len
  at_ := fun i x e => by
    obtain ⟨o, e1, q⟩ := h.at_ i x e
    exact ⟨o, e1, q.keep (hid_same s) (fun _ m => m) fun a vs _ z => s _ _ z⟩
  ap := h.ap
  tr := fun a m z => by
    cases q : H a with
    | none => exact h.tr a m q
    | some o =>
      rw [s a o q] at z
      cases z
/-- a cell that was free is hidden -/
theorem EnvD.new {p : Addr} (h : EnvD K H A σ η) (s : Same H H') (hp : H p = none) (hp' : H' p ≠ none) : EnvD K H' (p :: A) σ η where
  len := h.len
  at_ := fun i x e => by
    obtain ⟨o, e1, q⟩ := h.at_ i x e
    exact ⟨o, e1, q.keep (hid_new s hp) (fun _ m => List.mem_cons_of_mem _ m) fun a vs _ z => s _ _ z⟩
  ap := h.ap
  tr := fun a m => by
    rcases List.mem_cons.mp m with rfl | m
    · exact hp'
    · exact (h.same s).tr a m
theorem EnvD.fresh {p : Addr} (h : EnvD K H A σ η) (hp : H p = none) : p ∉ A := fun m => h.tr p m hp
end

/-! ### readings of expressions -/
/-- how a value lies: the heap ahead, behind, what is hidden, the value, its data -/
abbrev Rl := Hp → Hp → List Addr → V → D → Prop
/-- data -/
def rD (K : PySem.W.Frag) : Rl := fun _ H' A v d => Dp K (hid A H') v d
/-- data, or a list of the def's own -/
def rO (K : PySem.W.Frag) : Rl := fun _ H' A v d => Dp K (hid A H') v d ∨ ∃ a vs ds, v = .ref a ∧ d = .list ds ∧ H' a = some (.lst vs) ∧ DpAll K (hid A H') vs ds
/-- a new list -/
def rF (K : PySem.W.Frag) : Rl := fun H H' A v d => ∃ p vs ds, v = .ref p ∧ d = .list ds ∧ H p = none ∧ H' p = some (.lst vs) ∧ DpAll K (hid (p :: A) H') vs ds
/-- an exception of the program: its class, word, place -/
def ExR (K : PySem.W.Frag) (mg : Str → Option Value) (H : Hp) (cls : Value) (dd : Option Addr) (c w : Str) (p : D) : Prop :=
  mg c = some cls ∧ ∃ dx v, dd = some dx ∧ H dx = some (.xd [("place", v), ("word", .str w)]) ∧ Dp K H v p
/-- what an answer asks -/
def Post (K : PySem.W.Frag) (mg : Str → Option Value) (W : WX) (rl : Rl) (σ : St) (A : List Addr) (H : Hp) (r : R D) (Q : VK) : Prop :=
  match r with
  | .ok d => ∀ v H', Same H H' → rl H H' A v d → Q v H'
  | .ex c w p => ∀ cls dd H', Same H H' → ExR K mg (hid A H') cls dd c w p → W cls dd σ H'
  | .no => False
def tR (K : PySem.W.Frag) (mg : Str → Option Value) (W : WX) (rl : Rl) (F : Nv → R D) : TE := fun σ H Q => ∃ η A, EnvD K H A σ η ∧ Post K mg W rl σ A H (F η) Q
theorem peW {X : Cx} {e : Expr} {t t' : TE} (h : PE X e t) (k : ∀ σ H Q, t' σ H Q → t σ H Q) : PE X e t' := ⟨fun pins s σ H Q I q => h.run pins s σ H Q I (k _ _ _ q)⟩
/-- the heap ahead may be an earlier one -/
def Back (rl : Rl) : Prop := ∀ H H1 H' A v d, Same H H1 → rl H1 H' A v d → rl H H' A v d
theorem back_D {K : PySem.W.Frag} : Back (rD K) := fun _ _ _ _ _ _ _ h => h
theorem back_O {K : PySem.W.Frag} : Back (rO K) := fun _ _ _ _ _ _ _ h => h
theorem back_F {K : PySem.W.Frag} : Back (rF K) := fun _ _ _ _ _ _ s ⟨p, vs, ds, a, b, c, r⟩ => ⟨p, vs, ds, a, b, s.free c, r⟩
section
variable {K : PySem.W.Frag} {mg : Str → Option Value} {W : WX} {rl : Rl} {σ : St} {A : List Addr} {H H1 : Hp} {Q : VK}
theorem Post.same {r : R D} (b : Back rl) (s : Same H H1) (h : Post K mg W rl σ A H r Q) : Post K mg W rl σ A H1 r Q := by
  cases r with
  | ok d => exact fun v H' s' q => h v H' (s.trans s') (b _ _ _ _ _ _ s q)
  | ex c w p => exact fun cls dd H' s' q => h cls dd H' (s.trans s') q
  | no => exact h
/-- THE STEP: a part's answer, then the rest's -/
theorem bindR {rl' : Rl} {F : Nv → R D} {g : Nv → D → R D} (b : Back rl) (h : tR K mg W rl (fun η => (F η).bind (g η)) σ H Q) :
    tR K mg W rl' F σ H fun v H1 => ∃ η A d, Same H H1 ∧ EnvD K H1 A σ η ∧ rl' H H1 A v d ∧ F η = .ok d ∧ Post K mg W rl σ A H1 (g η d) Q := by
  obtain ⟨η, A, E, p0⟩ := h
  refine ⟨η, A, E, ?_⟩
  have p : Post K mg W rl σ A H ((F η).bind (g η)) Q := p0
  cases e : F η with
  | ok d =>
    rw [e] at p
    exact fun v H' s q => ⟨η, A, d, s, E.same s, q, e, Post.same b s p⟩
  | ex c w p' =>
    rw [e] at p
    exact p
  | no =>
    rw [e] at p
    exact p
end

/-- an expression: data; an operand; a new list -/
def TD (X : Cx) (W : WX) (e : Expr) (F : Nv → R D) : Prop := PE X e (tR X.K X.mg W (rD X.K) F)
def TO (X : Cx) (W : WX) (e : Expr) (F : Nv → R D) : Prop := PE X e (tR X.K X.mg W (rO X.K) F)
def TF (X : Cx) (W : WX) (e : Expr) (F : Nv → R D) : Prop := PE X e (tR X.K X.mg W (rF X.K) F)
section
variable {X : Cx} {W : WX} {e : Expr} {F : Nv → R D}
theorem tR_imp {K : PySem.W.Frag} {mg : Str → Option Value} {rl rl' : Rl} {σ : St} {H : Hp} {Q : VK} (k : ∀ (η : Nv) (A : List Addr) (H' : Hp) (v : V) (d : D), EnvD K H A σ η → Same H H' → rl H H' A v d → rl' H H' A v d) (h : tR K mg W rl' F σ H Q) : tR K mg W rl F σ H Q := by
  obtain ⟨η, A, E, p⟩ := h
  refine ⟨η, A, E, ?_⟩
  cases e : F η with
  | ok d =>
    rw [e] at p
    exact fun v H' s q => p v H' s (k η A H' v d E s q)
  | ex c w p' =>
    rw [e] at p
    exact p
  | no =>
    rw [e] at p
    exact p
theorem rF_D {K : PySem.W.Frag} {H H' : Hp} {A : List Addr} {v : V} {d : D} (hA : ∀ p, H p = none → p ∉ A) (h : rF K H H' A v d) : rD K H H' A v d := by
  obtain ⟨p, vs, ds, rfl, rfl, hp, hp', q⟩ := h
  exact .lst (SqL.of (by rw [hid_out (hA p hp)]; exact hp')) (DpAll_mono q (hid_mono fun b m => List.mem_cons_of_mem _ m))
theorem TD.o (h : TD X W e F) : TO X W e F := peW h fun _ _ _ => tR_imp fun _ _ _ _ _ _ _ q => .inl q
theorem TF.d (h : TF X W e F) : TD X W e F := peW h fun _ _ _ => tR_imp fun _ _ _ _ _ E _ q => rF_D (fun _ hp => E.fresh hp) q
theorem TF.o (h : TF X W e F) : TO X W e F := h.d.o
end
end Bd
/-! D1: operators, comparisons, truth, calls of built-ins, over data. -/
namespace Bd
open PySem L2

section
variable {K : PySem.W.Frag} {H H' : Hp} {A : List Addr} {v : V} {d : D}
theorem rO_same (s : Same H H') {Ha Hb : Hp} (h : rO K Ha H A v d) : rO K Hb H' A v d := by
  rcases h with h | ⟨a, vs, ds, rfl, rfl, e, q⟩
  · exact .inl (Dp_mono h (hid_same s))
  · exact .inr ⟨a, vs, ds, rfl, rfl, s _ _ e, DpAll_mono q (hid_same s)⟩
theorem rO_dp {Ha : Hp} (h : rO K Ha H A v d) : Dp K H v d := by
  rcases h with h | ⟨a, vs, ds, rfl, rfl, e, q⟩
  · exact Dp_mono h (hid_le A H)
  · exact .lst (SqL.of e) (DpAll_mono q (hid_le A H))
theorem rO_list {Ha : Hp} {ds : List D} (h : rO K Ha H A v (.list ds)) : ∃ a vs, v = .ref a ∧ SqL K H a vs ∧ DpAll K (hid A H) vs ds := by
  rcases h with h | ⟨a, vs, ds', rfl, e1, e, q⟩
  · cases h with
    | lst h1 h2 => exact ⟨_, _, rfl, (hid_le A H).seq h1, h2⟩
  · cases e1
    exact ⟨a, vs, rfl, SqL.of e, q⟩
theorem rO_tup {Ha : Hp} {ds : List D} (h : rO K Ha H A v (.tuple ds)) : ∃ a vs, v = .ref a ∧ SqT K H a vs ∧ SqT K (hid A H) a vs ∧ DpAll K (hid A H) vs ds := by
  rcases h with h | ⟨a, vs, ds', rfl, e1, e, q⟩
  · cases h with
    | tup h1 h2 => exact ⟨_, _, rfl, sqT_same (hid_le A H) h1, h1, h2⟩
  · cases e1
theorem rO_int {Ha : Hp} {i : Int} (h : rO K Ha H A v (.int i)) : v = .int i := by
  rcases h with h | ⟨a, vs, ds', rfl, e1, e, q⟩
  · cases h; rfl
  · cases e1
theorem rO_bool {Ha : Hp} {i : Bool} (h : rO K Ha H A v (.bool i)) : v = .bl i := by
  rcases h with h | ⟨a, vs, ds', rfl, e1, e, q⟩
  · cases h; rfl
  · cases e1
theorem rO_str {Ha : Hp} {i : Str} (h : rO K Ha H A v (.str i)) : v = .str i := by
  rcases h with h | ⟨a, vs, ds', rfl, e1, e, q⟩
  · cases h; rfl
  · cases e1
theorem rO_none {Ha : Hp} (h : rO K Ha H A v .none) : v = .non := by
  rcases h with h | ⟨a, vs, ds', rfl, e1, e, q⟩
  · cases h; rfl
  · cases e1
end

/-- the answer of a built-in operation -/
def R.of : Option D → R D
  | some d => .ok d
  | none => .no
/-- a two-place operation on operands gives the data f tells, lying as rl says -/
def Op2 (X : Cx) (rl : Rl) (r : R2) (f : D → D → Option D) : Prop :=
  ∀ (H : Hp) (A : List Addr) (x y : V) (a b d : D) (Q : VK), (∀ p ∈ A, H p ≠ none) → rO X.K H H A x a → rO X.K H H A y b → f a b = some d → (∀ v H', Same H H' → rl H H' A v d → Q v H') → r x y H Q
def Op1 (X : Cx) (rl : Rl) (r : V → Hp → VK → Prop) (f : D → Option D) : Prop :=
  ∀ (H : Hp) (A : List Addr) (x : V) (a d : D) (Q : VK), (∀ p ∈ A, H p ≠ none) → rO X.K H H A x a → f a = some d → (∀ v H', Same H H' → rl H H' A v d → Q v H') → r x H Q
section
variable {X : Cx} {W : WX} {rl : Rl} {a b : Expr} {Fa Fb : Nv → R D} {f : D → D → Option D} {g : D → Option D} {r : R2}
def e2 (f : D → D → Option D) (Fa Fb : Nv → R D) : Nv → R D := fun η => (Fa η).bind fun x => (Fb η).bind fun y => .of (f x y)
def e1 (g : D → Option D) (Fa : Nv → R D) : Nv → R D := fun η => (Fa η).bind fun x => .of (g x)
theorem op2_t (hb : Back rl) (ho : Op2 X rl r f) {σ : L2.St} {H : Hp} {Q : VK} (h : tR X.K X.mg W rl (e2 f Fa Fb) σ H Q) : tOp r (tR X.K X.mg W (rO X.K) Fa) (tR X.K X.mg W (rO X.K) Fb) σ H Q := by
  have h1 := bindR (rl' := rO X.K) (F := Fa) (g := fun η x => (Fb η).bind fun y => .of (f x y)) hb h
  refine (show tR X.K X.mg W (rO X.K) Fa σ H _ from ?_)
  obtain ⟨η, A, E, p⟩ := h1
  refine ⟨η, A, E, ?_⟩
  cases e : Fa η with
  | ex c w q => rw [e] at p; exact p
  | no => rw [e] at p; exact p
  | ok d1 =>
    rw [e] at p
    intro v1 H1 s1 q1
    obtain ⟨η1, A1, dd, sm, E1, qd, _, P1⟩ := p v1 H1 s1 q1
    have h2 : tR X.K X.mg W rl (fun η => (Fb η).bind fun y => .of (f dd y)) σ H1 Q := ⟨η1, A1, E1, P1⟩
    have h3 := bindR (rl' := rO X.K) (F := Fb) (g := fun η y => .of (f dd y)) hb h2
    -- the second operand at the same names
    refine ⟨η1, A1, E1, ?_⟩
    cases e2 : Fb η1 with
    | ex c w q =>
      have P1' : Post X.K X.mg W rl σ A1 H1 ((Fb η1).bind fun y => .of (f dd y)) Q := P1
      rw [e2] at P1'
      exact P1'
    | no =>
      have P1' : Post X.K X.mg W rl σ A1 H1 ((Fb η1).bind fun y => .of (f dd y)) Q := P1
      rw [e2] at P1'
      exact P1'
    | ok d2 =>
      have P1' : Post X.K X.mg W rl σ A1 H1 ((Fb η1).bind fun y => .of (f dd y)) Q := P1
      rw [e2] at P1'
      have P2 : Post X.K X.mg W rl σ A1 H1 (.of (f dd d2)) Q := P1'
      intro v2 H2 s2 q2
      cases e3 : f dd d2 with
      | none => rw [e3] at P2; exact False.elim P2
      | some d =>
        rw [e3] at P2
        exact ho H2 A1 v1 v2 dd d2 d Q (E1.same s2).tr (rO_same s2 qd) (rO_same (Same.refl _) q2) e3 fun v H' s q => P2 v H' (s2.trans s) (hb _ _ _ _ _ _ s2 q)
theorem op1_t (hb : Back rl) {r : V → Hp → VK → Prop} (ho : Op1 X rl r g) {σ : L2.St} {H : Hp} {Q : VK} (h : tR X.K X.mg W rl (e1 g Fa) σ H Q) : tUn r (tR X.K X.mg W (rO X.K) Fa) σ H Q := by
  obtain ⟨η, A, E, p0⟩ := h
  have p : Post X.K X.mg W rl σ A H ((Fa η).bind fun x => .of (g x)) Q := p0
  refine ⟨η, A, E, ?_⟩
  cases e : Fa η with
  | ex c w q => rw [e] at p; exact p
  | no => rw [e] at p; exact p
  | ok d1 =>
    rw [e] at p
    have P2 : Post X.K X.mg W rl σ A H (.of (g d1)) Q := p
    intro v1 H1 s1 q1
    cases e3 : g d1 with
    | none => rw [e3] at P2; exact False.elim P2
    | some d =>
      rw [e3] at P2
      exact ho H1 A v1 d1 d Q (E.same s1).tr (rO_same (Same.refl _) q1) e3 fun v H' s q => P2 v H' (s1.trans s) (hb _ _ _ _ _ _ s1 q)
/-- a op b -/
theorem t_op {op : Operator} {pos : Pos} (hb : Back rl) (hop : OpR X (binaryOp op) r) (ho : Op2 X rl r f) (ha : TO X W a Fa) (hc : TO X W b Fb) : PE X (.BinOp a op b pos) (tR X.K X.mg W rl (e2 f Fa Fb)) :=
  peW (pe_op hop ha hc) fun _ _ _ => op2_t hb ho
theorem t_cmp {op : CmpOp} {pos : Pos} (hop : OpR X (compareOp op) r) (ho : Op2 X (rD X.K) r f) (ha : TO X W a Fa) (hc : TO X W b Fb) (h1 : behindInMarks op b = false) : TD X W (.Compare a [op] [b] pos) (e2 f Fa Fb) :=
  peW (pe_cmpR hop ha hc h1) fun _ _ _ => op2_t back_D ho

/-! ### ints and sequences: +, -, *, //, % -/
@[irreducible] def lineN : Nat := 16777216
theorem lineN_eq : lineN = 16777216 := by unfold lineN; rfl
theorem line_eq : sizeLine = lineN := by rw [lineN_eq]; exact sizeLine_eq
def addV : D → D → Option D
  | .int i, .int j => some (.int (i + j))
  | .list xs, .list ys => if xs.length + ys.length ≤ lineN then some (.list (xs ++ ys)) else none
  | .tuple xs, .tuple ys => if xs.length + ys.length ≤ lineN then some (.tuple (xs ++ ys)) else none
  | .str x, .str y => if x.length + y.length ≤ lineN then some (.str (x ++ y)) else none
  | _, _ => none
def rCatS (K : PySem.W.Frag) : R2 := fun x y H Q => ∃ l b xs zs, x = .ref l ∧ y = .ref b ∧ SqL K H l xs ∧ SqL K H b zs ∧ xs.length + zs.length ≤ sizeLine ∧ ∀ p, H p = none → Q (.ref p) (upd H p (.lst (xs ++ zs)))
theorem op_catS : OpR X (binaryOp .Add) (rCatS X.K) := by
  intro pins s σ H x y v u Q I rx ry h
  obtain ⟨l, b, xs, zs, rfl, rfl, h1, h2, hz, q⟩ := h
  cases rx
  cases ry
  obtain ⟨its, r, hl, e⟩ := I.list h1
  obtain ⟨its2, r2, hl2, e2⟩ := I.list h2
  obtain ⟨⟨cls, dd, data, sl⟩, ho, hc, n, hd⟩ := hl.isList
  obtain ⟨⟨cls2, dd2, data2, sl2⟩, ho2, hc2, n2, hd2⟩ := hl2.isList
  simp only at hc hd hc2 hd2
  subst hc hd hc2 hd2
  have ea : its.toArray ++ its2.toArray = (its ++ its2).toArray := by simp
  have hz2 : its.toArray.size + its2.toArray.size ≤ sizeLine := by
    rw [List.size_toArray, List.size_toArray, ← r.length, ← r2.length]
    exact hz
  refine concat_meets ⟨_, ho, rfl⟩ ⟨_, ho2, rfl⟩ noFill_list_add seq_list_add PySem.F.slot_list_add PySem.F.entry_list_add (PySem.F.args_list_add_2 _ _) (PyProof.Rows.list_addW l b its.toArray its2.toArray n n2 dd dd2 sl sl2 hz2) ⟨ho, ho2, ?_⟩
  rw [ea]
  exact ⟨.ref _, _, I.lnew (t' := s.toks) (r.append r2) (by rw [List.length_append]; omega), rfl, q _ I.fresh⟩
def rAddA (K : PySem.W.Frag) : R2 := fun x y H Q => rI0 (fun i j => .int (i + j)) x y H Q ∨ rCatS K x y H Q ∨ rCatA K x y H Q ∨ ∃ i j, x = .str i ∧ y = .str j ∧ i.length + j.length ≤ sizeLine ∧ Q (.str (i ++ j)) H
theorem op_addA : OpR X (binaryOp .Add) (rAddA X.K) := by
  intro pins s σ H x y v u Q I rx ry h
  rcases h with h | h | h | h
  · exact op_add pins s σ H x y v u Q I rx ry h
  · exact op_catS pins s σ H x y v u Q I rx ry h
  · exact op_catA pins s σ H x y v u Q I rx ry h
  · exact op_add_str pins s σ H x y v u Q I rx ry h
theorem dp_new_list {K : PySem.W.Frag} {H : Hp} {A : List Addr} {p : Addr} {vs : List V} {ds : List D} (hA : ∀ a ∈ A, H a ≠ none) (hp : H p = none) (h : DpAll K (hid A H) vs ds) : rF K H (upd H p (.lst vs)) A (.ref p) (.list ds) :=
  ⟨p, vs, ds, rfl, rfl, hp, upd_same, DpAll_mono h (hid_new (same_new hp) hp)⟩
theorem dp_new_tup {K : PySem.W.Frag} {H : Hp} {A : List Addr} {p : Addr} {vs : List V} {ds : List D} (hA : ∀ a ∈ A, H a ≠ none) (hp : H p = none) (h : DpAll K (hid A H) vs ds) : Dp K (hid A (upd H p (.tup vs))) (.ref p) (.tuple ds) :=
  .tup (SqT.of (by rw [hid_out fun m => hA p m hp, upd_same])) (DpAll_mono h (hid_same (same_new hp)))
theorem nofree {H : Hp} {A : List Addr} (hA : ∀ a ∈ A, H a ≠ none) : ∀ p, H p = none → p ∉ A := fun p hp m => hA p m hp
theorem o_add : Op2 X (rD X.K) (rAddA X.K) addV := by
  intro H A x y a b d Q hA ha hb e k
  unfold addV at e
  split at e
  · have e := Option.some.inj e
    subst e
    exact .inl ⟨_, _, rO_int ha, rO_int hb, k _ H (Same.refl _) (.int _)⟩
  · rename_i xs ys
    split at e
    · rename_i hz
      have e := Option.some.inj e
      subst e
      obtain ⟨l, vs, rfl, h1, q1⟩ := rO_list ha
      obtain ⟨l2, vs2, rfl, h2, q2⟩ := rO_list hb
      refine .inr (.inl ⟨l, l2, vs, vs2, rfl, rfl, h1, h2, ?_, fun p hp => k _ _ (same_new hp) (rF_D (nofree hA) (dp_new_list hA hp (DpAll_append q1 q2)))⟩)
      rw [DpAll_length q1, DpAll_length q2, line_eq]
      exact hz
    · cases e
  · rename_i xs ys
    split at e
    · rename_i hz
      have e := Option.some.inj e
      subst e
      obtain ⟨l, vs, rfl, h1, h1', q1⟩ := rO_tup ha
      obtain ⟨l2, vs2, rfl, h2, h2', q2⟩ := rO_tup hb
      refine .inr (.inr (.inl ⟨l, l2, vs, vs2, rfl, rfl, h1, h2, ?_, fun z => ?_, fun _ z => ?_, fun _ _ p hp => k _ _ (same_new hp) (dp_new_tup hA hp (DpAll_append q1 q2))⟩))
      · rw [DpAll_length q1, DpAll_length q2, line_eq]
        exact hz
      · subst z
        cases q1
        exact k _ H (Same.refl _) (.tup h2' q2)
      · subst z
        cases q2
        rw [List.append_nil] at k
        exact k _ H (Same.refl _) (.tup h1' q1)
    · cases e
  · split at e
    · rename_i hz
      have e := Option.some.inj e
      subst e
      exact .inr (.inr (.inr ⟨_, _, rO_str ha, rO_str hb, by rw [line_eq]; exact hz, k _ H (Same.refl _) (.str _)⟩))
    · cases e
  · cases e
/-- list + list: a new list -/
def catV : D → D → Option D
  | .list xs, .list ys => if xs.length + ys.length ≤ lineN then some (.list (xs ++ ys)) else none
  | _, _ => none
theorem o_cat : Op2 X (rF X.K) (rCatS X.K) catV := by
  intro H A x y a b d Q hA ha hb e k
  unfold catV at e
  split at e
  · rename_i xs ys
    split at e
    · rename_i hz
      have e := Option.some.inj e
      subst e
      obtain ⟨l, vs, rfl, h1, q1⟩ := rO_list ha
      obtain ⟨l2, vs2, rfl, h2, q2⟩ := rO_list hb
      refine ⟨l, l2, vs, vs2, rfl, rfl, h1, h2, ?_, fun p hp => k _ _ (same_new hp) (dp_new_list hA hp (DpAll_append q1 q2))⟩
      rw [DpAll_length q1, DpAll_length q2, line_eq]
      exact hz
    · cases e
  · cases e
def subV : D → D → Option D
  | .int i, .int j => some (.int (i - j))
  | _, _ => none
def mulV : D → D → Option D
  | .int i, .int j => if (-(2 ^ 64) < i ∧ i < 2 ^ 64) ∨ (-(2 ^ 64) < j ∧ j < 2 ^ 64) then some (.int (i * j)) else none
  | _, _ => none
def fdivV : D → D → Option D
  | .int i, .int j => if 0 < j ∧ j < 1073741824 then some (.int (i / j)) else none
  | _, _ => none
def modV : D → D → Option D
  | .int i, .int j => if 0 < j then some (.int (i % j)) else none
  | _, _ => none
def powV : D → D → Option D
  | .int i, .int j => if 0 ≤ j ∧ j ≤ 1000000 ∧ i.natAbs < 2 ^ 64 then some (.int (i ^ j.toNat)) else none
  | _, _ => none
theorem o_sub : Op2 X (rD X.K) (rI0 fun i j => .int (i - j)) subV := by
  intro H A x y a b d Q hA ha hb e k
  unfold subV at e
  split at e
  · have e := Option.some.inj e
    subst e
    exact ⟨_, _, rO_int ha, rO_int hb, k _ H (Same.refl _) (.int _)⟩
  · cases e
theorem o_ifI {C : Int → Int → Prop} [∀ i j, Decidable (C i j)] {g : Int → Int → Int} {f : D → D → Option D} (hf : ∀ a b d, f a b = some d → ∃ i j, a = .int i ∧ b = .int j ∧ C i j ∧ d = .int (g i j)) : Op2 X (rD X.K) (rI C fun i j => .int (g i j)) f := by
  intro H A x y a b d Q hA ha hb e k
  obtain ⟨i, j, rfl, rfl, hc, rfl⟩ := hf a b d e
  exact ⟨i, j, rO_int ha, rO_int hb, hc, k _ H (Same.refl _) (.int _)⟩
instance : ∀ i j, Decidable (CMul i j) := fun i j => by unfold CMul; infer_instance
instance : ∀ i j, Decidable (CDiv i j) := fun i j => by unfold CDiv; infer_instance
instance : ∀ i j, Decidable (CPow i j) := fun i j => by unfold CPow; infer_instance
theorem o_mul : Op2 X (rD X.K) (rI CMul fun i j => .int (i * j)) mulV := o_ifI fun a b d e => by
  unfold mulV at e
  split at e
  · split at e
    · rename_i h
      exact ⟨_, _, rfl, rfl, h, (Option.some.inj e).symm⟩
    · cases e
  · cases e
theorem o_fdiv : Op2 X (rD X.K) (rI CDiv fun i j => .int (i / j)) fdivV := o_ifI fun a b d e => by
  unfold fdivV at e
  split at e
  · split at e
    · rename_i h
      exact ⟨_, _, rfl, rfl, h, (Option.some.inj e).symm⟩
    · cases e
  · cases e
theorem o_mod : Op2 X (rD X.K) (rI (fun _ j => 0 < j) fun i j => .int (i % j)) modV := o_ifI (C := fun _ j => 0 < j) fun a b d e => by
  unfold modV at e
  split at e
  · split at e
    · rename_i h
      exact ⟨_, _, rfl, rfl, h, (Option.some.inj e).symm⟩
    · cases e
  · cases e
theorem o_pow : Op2 X (rD X.K) (rI CPow fun i j => .int (i ^ j.toNat)) powV := o_ifI fun a b d e => by
  unfold powV at e
  split at e
  · split at e
    · rename_i h
      exact ⟨_, _, rfl, rfl, h, (Option.some.inj e).symm⟩
    · cases e
  · cases e
end
end Bd
/-! D2: names, constants, comparisons, truth, built-ins by data. -/
namespace Bd
open PySem L2

section
variable {X : Cx} {W : WX} {rl : Rl} {a b c e : Expr} {Fa Fb Fc F : Nv → R D} {pos : Pos}
/-! ### names and constants -/
def gv (i : Nat) : Nv → R D := fun η => match η[i]? with
  | some (.d x) => .ok x
  | _ => .no
/-- a name's data -/
theorem t_var (i : Nat) {x : Str} (hN : X.N[i]? = some x := by rfl) (hv : Vis X.env.scope x := by first | exact Or.inl rfl | exact Or.inr (Or.inl rfl) | exact Or.inr (Or.inr rfl)) (hd : (x == ("__debug__" : Str)) = false := by decide)
    (hcd : (x == ("__classdict__" : Str)) = false := by decide) : TD X W (.Name x pos) (gv i) := by
  refine peW (pe_var hN hv hd hcd) fun σ H Q h => ?_
  obtain ⟨η, A, E, p0⟩ := h
  have p : Post X.K X.mg W (rD X.K) σ A H (gv i η) Q := p0
  unfold gv at p
  split at p
  · rename_i x e
    obtain ⟨o, e1, q⟩ := E.at_ i _ e
    cases o with
    | none => exact False.elim q
    | some v => exact ⟨v, e1, p v H (Same.refl _) q⟩
  · exact False.elim p
/-- a list of the def's own, read -/
def go (i : Nat) : Nv → R D := fun η => match η[i]? with
  | some (.own xs) => .ok (.list xs)
  | some (.d x) => .ok x
  | _ => .no
theorem t_own (i : Nat) {x : Str} (hN : X.N[i]? = some x := by rfl) (hv : Vis X.env.scope x := by first | exact Or.inl rfl | exact Or.inr (Or.inl rfl) | exact Or.inr (Or.inr rfl)) (hd : (x == ("__debug__" : Str)) = false := by decide)
    (hcd : (x == ("__classdict__" : Str)) = false := by decide) : TO X W (.Name x pos) (go i) := by
  refine peW (pe_var hN hv hd hcd) fun σ H Q h => ?_
  obtain ⟨η, A, E, p0⟩ := h
  have p : Post X.K X.mg W (rO X.K) σ A H (go i η) Q := p0
  unfold go at p
  split at p
  · rename_i x e
    obtain ⟨o, e1, q⟩ := E.at_ i _ e
    match o, q with
    | some (.ref a), ⟨m, vs, e2, q⟩ => exact ⟨_, e1, p _ H (Same.refl _) (.inr ⟨a, vs, _, rfl, rfl, e2, q⟩)⟩
  · rename_i x e
    obtain ⟨o, e1, q⟩ := E.at_ i _ e
    cases o with
    | none => exact False.elim q
    | some v => exact ⟨v, e1, p v H (Same.refl _) (.inl q)⟩
  · exact False.elim p
def k0 (d : D) : Nv → R D := fun _ => .ok d
theorem t_const {v : V} {d : D} (h : PE X e (tC v)) (hd : ∀ H, Dp X.K H v d) : TD X W e (k0 d) := peW h fun σ H Q ⟨η, A, E, p⟩ => p v H (Same.refl _) (hd _)
theorem t_int {i : Int} {j : Nat} : TD X W (.Constant (.int i) j pos) (k0 (.int i)) := t_const pe_int fun _ => .int i
theorem t_bool {i : Bool} {j : Nat} : TD X W (.Constant (.bool i) j pos) (k0 (.bool i)) := t_const pe_bl fun _ => .bl i
theorem t_none {j : Nat} : TD X W (.Constant .none j pos) (k0 .none) := t_const pe_non fun _ => .non
theorem t_str {i : Str} {j : Nat} : TD X W (.Constant (.str i) j pos) (k0 (.str i)) := t_const pe_str fun _ => .str i
theorem t_globI {x : Str} {i : Int} (hm : ∃ t, X.mg x = some (.int i t)) (hg : Gl X x := by rfl) (hd : (x == ("__debug__" : Str)) = false := by decide) : TD X W (.Name x pos) (k0 (.int i)) := by
  obtain ⟨t, hm⟩ := hm
  exact t_const (pe_glob (v := .int i) hg hm ⟨t, rfl⟩ hd) fun _ => .int i
/-- -a -/
def negV : D → Option D
  | .int i => some (.int (-i))
  | _ => none
theorem t_neg (ha : TO X W a Fa) : TD X W (.UnaryOp .USub a pos) (e1 negV Fa) := peW (pe_un un_neg ha) fun _ _ _ => op1_t back_D fun H A x a d Q hA hx e k => by
  unfold negV at e
  split at e
  · have e := Option.some.inj e
    subst e
    exact ⟨_, rO_int hx, k _ H (Same.refl _) (.int _)⟩
  · cases e

/-! ### comparisons -/
/-- a truth value -/
def rB : Rl := fun _ _ _ v d => ∃ k, d = .bool k ∧ v = .bl k
theorem rB_D {K : PySem.W.Frag} {H H' : Hp} {A : List Addr} {v : V} {d : D} (h : rB H H' A v d) : rD K H H' A v d := by
  obtain ⟨k, rfl, rfl⟩ := h
  exact .bl k
theorem t_cmpB {op : CmpOp} {r : R2} {f : D → D → Option D} (hop : OpR X (compareOp op) r) (ho : Op2 X rB r f) (ha : TO X W a Fa) (hc : TO X W b Fb) (h1 : behindInMarks op b = false) : TD X W (.Compare a [op] [b] pos) (e2 f Fa Fb) :=
  peW (pe_cmpR hop ha hc h1) fun _ _ _ => op2_t back_D fun H A x y a b d Q hA h1 h2 e k => ho H A x y a b d Q hA h1 h2 e fun v H' s q => k v H' s (rB_D q)
/-- of two ints -/
def cmpI (p : Int → Int → Bool) : D → D → Option D
  | .int i, .int j => some (.bool (p i j))
  | _, _ => none
theorem o_cmpI {p : Int → Int → Bool} : Op2 X rB (rI0 fun i j => .bl (p i j)) (cmpI p) := by
  intro H A x y a b d Q hA ha hb e k
  unfold cmpI at e
  split at e
  · have e := Option.some.inj e
    subst e
    exact ⟨_, _, rO_int ha, rO_int hb, k _ H (Same.refl _) ⟨_, rfl, rfl⟩⟩
  · cases e
def ltV := cmpI fun i j => decide (i < j)
def leV := cmpI fun i j => decide (i ≤ j)
def gtV := cmpI fun i j => decide (j < i)
def geV := cmpI fun i j => decide (j ≤ i)
theorem t_lt (ha : TO X W a Fa) (hb : TO X W b Fb) : TD X W (.Compare a [.Lt] [b] pos) (e2 ltV Fa Fb) := t_cmpB op_lt o_cmpI ha hb (nomark _)
theorem t_le (ha : TO X W a Fa) (hb : TO X W b Fb) : TD X W (.Compare a [.LtE] [b] pos) (e2 leV Fa Fb) := t_cmpB op_le o_cmpI ha hb (nomark _)
theorem t_gt (ha : TO X W a Fa) (hb : TO X W b Fb) : TD X W (.Compare a [.Gt] [b] pos) (e2 gtV Fa Fb) := t_cmpB op_gt o_cmpI ha hb (nomark _)
theorem t_ge (ha : TO X W a Fa) (hb : TO X W b Fb) : TD X W (.Compare a [.GtE] [b] pos) (e2 geV Fa Fb) := t_cmpB op_ge o_cmpI ha hb (nomark _)
/-- == of data -/
def eqV' : D → D → Option D
  | .str a, .str b => some (.bool (decide (a = b)))
  | x, y => if SeqAt.shaped x = true ∧ SeqAt.shaped y = true then some (.bool (PyData.eqv x y)) else none
def neV' : D → D → Option D
  | .str a, .str b => some (.bool (!decide (a = b)))
  | x, y => if SeqAt.shaped x = true ∧ SeqAt.shaped y = true then some (.bool (!PyData.eqv x y)) else none
def rEqA (K : PySem.W.Frag) : R2 := fun x y H Q => rEq x y H Q ∨ rEqD K x y H Q
def rNeA (K : PySem.W.Frag) : R2 := fun x y H Q => rNe x y H Q ∨ rNeD K x y H Q
theorem op_eqA (hu : X.A.units + 64 < cLine) : OpR X (compareOp .Eq) (rEqA X.K) := fun pins s σ H x y v u Q I rx ry h => h.elim (op_eq pins s σ H x y v u Q I rx ry) (op_eqD hu pins s σ H x y v u Q I rx ry)
theorem op_neA (hu : X.A.units + 64 < cLine) : OpR X (compareOp .NotEq) (rNeA X.K) := fun pins s σ H x y v u Q I rx ry h => h.elim (op_ne pins s σ H x y v u Q I rx ry) (op_neD hu pins s σ H x y v u Q I rx ry)
theorem dec_V {a b : Str} : decide (V.str a = V.str b) = decide (a = b) := by
  by_cases e : a = b
  · rw [decide_eq_true e, e]
    exact decide_eq_true rfl
  · rw [decide_eq_false e]
    exact decide_eq_false fun z => e (V.str.inj z)
theorem o_eq : Op2 X rB (rEqA X.K) eqV' := fun H A x y a b d Q hA ha hb e k => by
  unfold eqV' at e
  split at e
  · have e := Option.some.inj e
    subst e
    refine .inl ?_
    rw [rO_str ha, rO_str hb]
    exact ⟨rfl, by rw [dec_V]; exact k _ H (Same.refl _) ⟨_, rfl, rfl⟩⟩
  · split at e
    · rename_i h
      have e := Option.some.inj e
      subst e
      exact .inr ⟨_, _, rO_dp ha, rO_dp hb, h.1, h.2, k _ H (Same.refl _) ⟨_, rfl, rfl⟩⟩
    · cases e
theorem o_ne : Op2 X rB (rNeA X.K) neV' := fun H A x y a b d Q hA ha hb e k => by
  unfold neV' at e
  split at e
  · have e := Option.some.inj e
    subst e
    refine .inl ?_
    rw [rO_str ha, rO_str hb]
    exact ⟨rfl, by rw [dec_V]; exact k _ H (Same.refl _) ⟨_, rfl, rfl⟩⟩
  · split at e
    · rename_i h
      have e := Option.some.inj e
      subst e
      exact .inr ⟨_, _, rO_dp ha, rO_dp hb, h.1, h.2, k _ H (Same.refl _) ⟨_, rfl, rfl⟩⟩
    · cases e
theorem t_eq (hu : X.A.units + 64 < cLine) (ha : TO X W a Fa) (hb : TO X W b Fb) : TD X W (.Compare a [.Eq] [b] pos) (e2 eqV' Fa Fb) := t_cmpB (op_eqA hu) o_eq ha hb (nomark _)
theorem t_ne (hu : X.A.units + 64 < cLine) (ha : TO X W a Fa) (hb : TO X W b Fb) : TD X W (.Compare a [.NotEq] [b] pos) (e2 neV' Fa Fb) := t_cmpB (op_neA hu) o_ne ha hb (nomark _)
/-- is None -/
def isNone : D → Bool
  | .none => true
  | _ => false
theorem isNone_of {K : PySem.W.Frag} {H : Hp} {v : V} {d : D} (h : Dp K H v d) : decide (v = .non) = isNone d := by
  cases h <;> first | rfl | (exact decide_eq_false fun z => by cases z)
def isV (x y : D) : Option D := match y with
  | .none => some (.bool (isNone x))
  | _ => none
def isnotV (x y : D) : Option D := match y with
  | .none => some (.bool (!isNone x))
  | _ => none
theorem o_is : Op2 X rB (fun x y H Q => y = .non ∧ Q (.bl (decide (x = .non))) H) isV := fun H A x y a b d Q hA ha hb e k => by
  unfold isV at e
  split at e
  · have e := Option.some.inj e
    subst e
    exact ⟨rO_none hb, by rw [isNone_of (rO_dp ha)]; exact k _ H (Same.refl _) ⟨_, rfl, rfl⟩⟩
  · cases e
theorem t_is (ha : TO X W a Fa) (hb : TO X W b Fb) : TD X W (.Compare a [.Is] [b] pos) (e2 isV Fa Fb) := t_cmpB op_isN o_is ha hb (nomark _)
theorem o_isnot : Op2 X rB (fun x y H Q => y = .non ∧ Q (.bl (!decide (x = .non))) H) isnotV := fun H A x y a b d Q hA ha hb e k => by
  unfold isnotV at e
  split at e
  · have e := Option.some.inj e
    subst e
    exact ⟨rO_none hb, by rw [isNone_of (rO_dp ha)]; exact k _ H (Same.refl _) ⟨_, rfl, rfl⟩⟩
  · cases e
theorem t_isnot (ha : TO X W a Fa) (hb : TO X W b Fb) : TD X W (.Compare a [.IsNot] [b] pos) (e2 isnotV Fa Fb) := t_cmpB op_notN o_isnot ha hb (nomark _)
/-! in, not in -/
def flatD : D → Bool
  | .none => true
  | .bool _ => true
  | .int _ => true
  | .str _ => true
  | _ => false
theorem flat_of {K : PySem.W.Frag} {H : Hp} {v : V} {d : D} (h : Dp K H v d) : flatV v = flatD d := by
  cases h <;> rfl
theorem eqV_of {K : PySem.W.Frag} {H : Hp} {v w : V} {d e : D} (h : Dp K H v d) (h' : Dp K H w e) (f : flatD d = true) (f' : flatD e = true) : eqV v w = PyData.eqv d e := by
  cases h with
  | lst _ _ => exact absurd f Bool.false_ne_true
  | tup _ _ => exact absurd f Bool.false_ne_true
  | _ => cases h' with
    | lst _ _ => exact absurd f' Bool.false_ne_true
    | tup _ _ => exact absurd f' Bool.false_ne_true
    | _ => first | rfl | (unfold PyData.eqv; rfl) | (simp [eqV, PyData.eqv])
theorem flats_of {K : PySem.W.Frag} {H : Hp} : ∀ {vs : List V} {ds : List D}, DpAll K H vs ds → vs.all flatV = ds.all flatD
  | _, _, .nil => rfl
  | _, _, .cons h t => by rw [List.all_cons, List.all_cons, flat_of h, flats_of t]
theorem inV_of {K : PySem.W.Frag} {H : Hp} {w : V} {e : D} (h' : Dp K H w e) (f' : flatD e = true) : ∀ {vs : List V} {ds : List D}, DpAll K H vs ds → ds.all flatD = true → inV w vs = ds.any fun z => PyData.eqv z e
  | _, _, .nil, _ => rfl
  | _, _, .cons (ds := ds) h t, f => by
    rw [List.all_cons, Bool.and_eq_true] at f
    have q := inV_of h' f' t f.2
    unfold inV at q ⊢
    rw [List.any_cons, List.any_cons, eqV_of h h' f.1 f', q]
def inD (x c : D) : Option Bool := match c with
  | .list ds => if SeqAt.shaped x = true ∧ SeqAt.shaped (.list ds) = true then some (ds.any fun z => PyData.eqv z x) else none
  | .tuple ds => if flatD x = true ∧ ds.all flatD = true then some (ds.any fun z => PyData.eqv z x) else none
  | _ => none
def inV' (x c : D) : Option D := (inD x c).map .bool
def ninV' (x c : D) : Option D := (inD x c).map fun b => .bool (!b)
def rInA (K : PySem.W.Frag) : R2 := fun x y H Q => rInD K x y H Q ∨ rIn K false x y H Q
def rNotInA (K : PySem.W.Frag) : R2 := fun x y H Q => rNotInD K x y H Q ∨ rIn K true x y H Q
theorem op_inA (hu : X.A.units + 65 < cLine) : OpR X (compareOp .In) (rInA X.K) := by
  intro pins s σ H x y v u Q I rx ry h
  rcases h with h | h
  · exact op_inD hu pins s σ H x y v u Q I rx ry h
  · exact op_in_seq pins s σ H x y v u Q I rx ry h
theorem op_notInA (hu : X.A.units + 65 < cLine) : OpR X (compareOp .NotIn) (rNotInA X.K) := by
  intro pins s σ H x y v u Q I rx ry h
  rcases h with h | h
  · exact op_notInD hu pins s σ H x y v u Q I rx ry h
  · exact op_notIn_seq pins s σ H x y v u Q I rx ry h
theorem o_in : Op2 X rB (rInA X.K) inV' := fun H A x y a b d Q hA ha hb e k => by
  unfold inV' inD at e
  split at e
  · rename_i ds
    split at e
    · rename_i h
      have e := Option.some.inj e
      subst e
      exact .inl ⟨_, _, rO_dp ha, rO_dp hb, h.1, h.2, k _ H (Same.refl _) ⟨_, rfl, rfl⟩⟩
    · cases e
  · rename_i ds
    split at e
    · rename_i h
      have e := Option.some.inj e
      subst e
      obtain ⟨l, vs, rfl, h1, h2, q⟩ := rO_tup hb
      have q := DpAll_mono q (hid_le A H)
      refine .inr ⟨l, vs, rfl, .inr h1, by rw [flat_of (rO_dp ha)]; exact h.1, by rw [flats_of q]; exact h.2, ?_⟩
      rw [inV_of (rO_dp ha) h.1 q h.2]
      exact k _ H (Same.refl _) ⟨_, rfl, rfl⟩
    · cases e
  · cases e
theorem t_in (hu : X.A.units + 65 < cLine) (ha : TO X W a Fa) (hb : TO X W b Fb) (h1 : behindInMarks .In b = false := by with_unfolding_all rfl) : TD X W (.Compare a [.In] [b] pos) (e2 inV' Fa Fb) := t_cmpB (op_inA hu) o_in ha hb h1
theorem o_notin : Op2 X rB (rNotInA X.K) ninV' := fun H A x y a b d Q hA ha hb e k => by
  unfold ninV' inD at e
  split at e
  · rename_i ds
    split at e
    · rename_i h
      have e := Option.some.inj e
      subst e
      exact .inl ⟨_, _, rO_dp ha, rO_dp hb, h.1, h.2, k _ H (Same.refl _) ⟨_, rfl, rfl⟩⟩
    · cases e
  · rename_i ds
    split at e
    · rename_i h
      have e := Option.some.inj e
      subst e
      obtain ⟨l, vs, rfl, h1, h2, q⟩ := rO_tup hb
      have q := DpAll_mono q (hid_le A H)
      refine .inr ⟨l, vs, rfl, .inr h1, by rw [flat_of (rO_dp ha)]; exact h.1, by rw [flats_of q]; exact h.2, ?_⟩
      rw [inV_of (rO_dp ha) h.1 q h.2]
      exact k _ H (Same.refl _) ⟨_, rfl, rfl⟩
    · cases e
  · cases e
theorem t_notin (hu : X.A.units + 65 < cLine) (ha : TO X W a Fa) (hb : TO X W b Fb) (h1 : behindInMarks .NotIn b = false := by with_unfolding_all rfl) : TD X W (.Compare a [.NotIn] [b] pos) (e2 ninV' Fa Fb) := t_cmpB (op_notInA hu) o_notin ha hb h1

/-! ### truth and tests -/
def tru : D → R Bool
  | .none => .ok false
  | .bool b => .ok b
  | .int i => .ok (i != 0)
  | .str y => if y.length ≤ lineN then .ok ((y.length : Int) != 0) else .no
  | .list xs => .ok !xs.isEmpty
  | .tuple xs => .ok !xs.isEmpty
  | .dict _ => .no
/-- what a test's answer asks -/
def PostB (K : PySem.W.Frag) (mg : Str → Option Value) (W : WX) (σ : L2.St) (A : List Addr) (H : Hp) (r : R Bool) (Q : Bool → Hp → Prop) : Prop :=
  match r with
  | .ok b => ∀ H', Same H H' → Q b H'
  | .ex c w p => ∀ cls dd H', Same H H' → ExR K mg (hid A H') cls dd c w p → W cls dd σ H'
  | .no => False
def tT (K : PySem.W.Frag) (mg : Str → Option Value) (W : WX) (G : Nv → R Bool) : TT := fun σ H Q => ∃ η A, EnvD K H A σ η ∧ PostB K mg W σ A H (G η) Q
def TB (X : Cx) (W : WX) (e : Expr) (G : Nv → R Bool) : Prop := PT X e (tT X.K X.mg W G)
theorem ptW {t t' : TT} (h : PT X e t) (k : ∀ σ H Q, t' σ H Q → t σ H Q) : PT X e t' := ⟨fun pins s σ H Q I q => h.run pins s σ H Q I (k _ _ _ q)⟩
theorem PostB.same {K : PySem.W.Frag} {mg : Str → Option Value} {σ : L2.St} {A : List Addr} {H H1 : Hp} {r : R Bool} {Q : Bool → Hp → Prop} (s : Same H H1) (h : PostB K mg W σ A H r Q) : PostB K mg W σ A H1 r Q := by
  cases r with
  | ok d => exact fun H' s' => h H' (s.trans s')
  | ex c w p => exact fun cls dd H' s' q => h cls dd H' (s.trans s') q
  | no => exact h
def tb (F : Nv → R D) : Nv → R Bool := fun η => (F η).bind tru
theorem tru_of {K : PySem.W.Frag} {H : Hp} {v : V} {d : D} {k : Bool} (h : Dp K H v d) (e : tru d = .ok k) : TruV K v H k := by
  cases h with
  | non => unfold tru at e; cases e; rfl
  | bl b => unfold tru at e; cases e; rfl
  | int i => unfold tru at e; cases e; rfl
  | str y =>
    have e : (if y.length ≤ lineN then R.ok ((y.length : Int) != 0) else R.no) = .ok k := e
    by_cases hz : y.length ≤ lineN
    · rw [if_pos hz] at e
      cases e
      exact ⟨by rw [line_eq]; exact hz, rfl⟩
    · rw [if_neg hz] at e
      cases e
  | @lst a xs ds h1 h2 =>
    unfold tru at e
    cases e
    refine .inl ⟨xs, h1, ?_⟩
    cases h2 <;> rfl
  | @tup a xs ds h1 h2 =>
    unfold tru at e
    cases e
    refine .inr (.inl ⟨xs, h1, ?_⟩)
    cases h2 <;> rfl
/-- from a value's answer to a test's -/
theorem tT_of {t : TE} {rl : Rl} {K : PySem.W.Frag} {mg : Str → Option Value} {σ : L2.St} {H : Hp} {Q : Bool → Hp → Prop} {R1 : V → Hp → Prop} (h : tT K mg W (tb F) σ H Q)
    (k : ∀ (A : List Addr) (H1 : Hp) (v : V) (d : D) (b : Bool), rl H H1 A v d → tru d = .ok b → Q b H1 → R1 v H1) : tR K mg W rl F σ H R1 := by
  obtain ⟨η, A, E, p0⟩ := h
  have p : PostB K mg W σ A H ((F η).bind tru) Q := p0
  refine ⟨η, A, E, ?_⟩
  cases e : F η with
  | ex c w q => rw [e] at p; exact p
  | no => rw [e] at p; exact p
  | ok d =>
    rw [e] at p
    have p : PostB K mg W σ A H (tru d) Q := p
    intro v H1 s q
    cases e2 : tru d with
    | ex c w q =>
      exfalso
      unfold tru at e2
      split at e2 <;> first | cases e2 | (split at e2 <;> cases e2)
    | no => rw [e2] at p; exact False.elim p
    | ok b =>
      rw [e2] at p
      exact k A H1 v d b q e2 (p H1 s)
theorem b_val (ha : TO X W a Fa) (he : ∀ whole, isTrue a X.env whole = (do let v ← whole; standAt a.pos; holding [v] (truthy v)) := by intro _; rfl) : TB X W a (tb Fa) :=
  ptW (pt_truth ha he) fun σ H Q h => tT_of (t := fun _ _ _ => True) h fun A H1 v d b q e r => ⟨b, tru_of (rO_dp q) e, r⟩
/-- a comparison as a test -/
theorem b_cmp {op : CmpOp} {r : R2} {f : D → D → Option D} (hop : OpR X (compareOp op) r) (ho : Op2 X rB r f) (ha : TO X W a Fa) (hb : TO X W b Fb) (h1 : behindInMarks op b = false) : TB X W (.Compare a [op] [b] pos) (tb (e2 f Fa Fb)) :=
  ptW (pt_cmpR hop ha hb h1) fun σ H Q h => op2_t (fun _ _ _ _ _ _ _ q => q) ho (tT_of (t := fun _ _ _ => True) (rl := rB) h fun A H1 v d b q e r => by
    obtain ⟨k, rfl, rfl⟩ := q
    cases e
    exact ⟨_, rfl, r⟩)
theorem b_lt (ha : TO X W a Fa) (hb : TO X W b Fb) : TB X W (.Compare a [.Lt] [b] pos) (tb (e2 ltV Fa Fb)) := b_cmp op_lt o_cmpI ha hb (nomark _)
theorem b_le (ha : TO X W a Fa) (hb : TO X W b Fb) : TB X W (.Compare a [.LtE] [b] pos) (tb (e2 leV Fa Fb)) := b_cmp op_le o_cmpI ha hb (nomark _)
theorem b_gt (ha : TO X W a Fa) (hb : TO X W b Fb) : TB X W (.Compare a [.Gt] [b] pos) (tb (e2 gtV Fa Fb)) := b_cmp op_gt o_cmpI ha hb (nomark _)
theorem b_ge (ha : TO X W a Fa) (hb : TO X W b Fb) : TB X W (.Compare a [.GtE] [b] pos) (tb (e2 geV Fa Fb)) := b_cmp op_ge o_cmpI ha hb (nomark _)
theorem b_eq (hu : X.A.units + 64 < cLine) (ha : TO X W a Fa) (hb : TO X W b Fb) : TB X W (.Compare a [.Eq] [b] pos) (tb (e2 eqV' Fa Fb)) := b_cmp (op_eqA hu) o_eq ha hb (nomark _)
theorem b_ne (hu : X.A.units + 64 < cLine) (ha : TO X W a Fa) (hb : TO X W b Fb) : TB X W (.Compare a [.NotEq] [b] pos) (tb (e2 neV' Fa Fb)) := b_cmp (op_neA hu) o_ne ha hb (nomark _)
theorem b_is (ha : TO X W a Fa) (hb : TO X W b Fb) : TB X W (.Compare a [.Is] [b] pos) (tb (e2 isV Fa Fb)) := b_cmp op_isN o_is ha hb (nomark _)
theorem b_isnot (ha : TO X W a Fa) (hb : TO X W b Fb) : TB X W (.Compare a [.IsNot] [b] pos) (tb (e2 isnotV Fa Fb)) := b_cmp op_notN o_isnot ha hb (nomark _)
theorem b_in (hu : X.A.units + 65 < cLine) (ha : TO X W a Fa) (hb : TO X W b Fb) (h1 : behindInMarks .In b = false := by with_unfolding_all rfl) : TB X W (.Compare a [.In] [b] pos) (tb (e2 inV' Fa Fb)) := b_cmp (op_inA hu) o_in ha hb h1
theorem b_notin (hu : X.A.units + 65 < cLine) (ha : TO X W a Fa) (hb : TO X W b Fb) (h1 : behindInMarks .NotIn b = false := by with_unfolding_all rfl) : TB X W (.Compare a [.NotIn] [b] pos) (tb (e2 ninV' Fa Fb)) := b_cmp (op_notInA hu) o_notin ha hb h1
end
end Bd
/-! D3: and, or, not, if-else, chains; arguments; built-ins and own defs called; displays, subscripts, slices. -/
namespace Bd
open PySem L2

section
variable {X : Cx} {W : WX} {rl : Rl} {a b c e : Expr} {rest : List Expr} {Fa Fb Fc F : Nv → R D} {Ga Gb G : Nv → R Bool} {pos : Pos}
/-! ### tests joined -/
def TW (X : Cx) (W : WX) (e : Expr) (G : Nv → R Bool) : Prop := PW X e (tT X.K X.mg W G)
theorem pwW {t t' : TT} (h : PW X e t) (k : ∀ σ H Q, t' σ H Q → t σ H Q) : PW X e t' := ⟨fun w pins s σ H Q I q => h.run w pins s σ H Q I (k _ _ _ q)⟩
def andB (Ga Gb : Nv → R Bool) : Nv → R Bool := fun η => (Ga η).bind fun k => if k then Gb η else .ok false
def orB (Ga Gb : Nv → R Bool) : Nv → R Bool := fun η => (Ga η).bind fun k => if k then .ok true else Gb η
def notB (Ga : Nv → R Bool) : Nv → R Bool := fun η => (Ga η).bind fun k => .ok !k
theorem tT_bind {K : PySem.W.Frag} {mg : Str → Option Value} {g : Nv → Bool → R Bool} {σ : L2.St} {H : Hp} {Q : Bool → Hp → Prop} {R1 : Bool → Hp → Prop} (h : tT K mg W (fun η => (Ga η).bind (g η)) σ H Q)
    (k : ∀ (η : Nv) (A : List Addr) (H1 : Hp) (b : Bool), EnvD K H1 A σ η → PostB K mg W σ A H1 (g η b) Q → R1 b H1) : tT K mg W Ga σ H R1 := by
  obtain ⟨η, A, E, p0⟩ := h
  have p : PostB K mg W σ A H ((Ga η).bind (g η)) Q := p0
  refine ⟨η, A, E, ?_⟩
  cases e : Ga η with
  | ex c w q => rw [e] at p; exact p
  | no => rw [e] at p; exact p
  | ok d =>
    rw [e] at p
    have p : PostB K mg W σ A H (g η d) Q := p
    exact fun H1 s => k η A H1 d (E.same s) (p.same s)
theorem w_and1 (ha : TB X W a Ga) : TW X W (.BoolOp .And [a] pos) Ga := pw_and1 ha
theorem w_or1 (ha : TB X W a Ga) : TW X W (.BoolOp .Or [a] pos) Ga := pw_or1 ha
theorem w_and (ha : TB X W a Ga) (hb : TW X W (.BoolOp .And (b :: rest) pos) Gb) : TW X W (.BoolOp .And (a :: b :: rest) pos) (andB Ga Gb) := pwW (pw_and ha hb) fun σ H Q h => tT_bind h fun η A H1 b E p => by
  cases b with
  | true => exact iteT ⟨η, A, E, p⟩
  | false => exact iteF (p H1 (Same.refl _))
theorem w_or (ha : TB X W a Ga) (hb : TW X W (.BoolOp .Or (b :: rest) pos) Gb) : TW X W (.BoolOp .Or (a :: b :: rest) pos) (orB Ga Gb) := pwW (pw_or ha hb) fun σ H Q h => tT_bind h fun η A H1 b E p => by
  cases b with
  | true => exact iteT (p H1 (Same.refl _))
  | false => exact iteF ⟨η, A, E, p⟩
theorem b_w (h : TW X W e G) : TB X W e G := PW.pt h
theorem b_not (ha : TB X W a Ga) : TB X W (.UnaryOp .Not a pos) (notB Ga) := ptW (pt_not ha) fun σ H Q h => tT_bind h fun η A H1 b E p => p H1 (Same.refl _)
/-! as values -/
def andV (Fa Fb : Nv → R D) : Nv → R D := fun η => (Fa η).bind fun x => (tru x).bind fun k => if k then Fb η else .ok x
def orV (Fa Fb : Nv → R D) : Nv → R D := fun η => (Fa η).bind fun x => (tru x).bind fun k => if k then .ok x else Fb η
def notV (Fa : Nv → R D) : Nv → R D := fun η => (Fa η).bind fun x => (tru x).bind fun k => .ok (.bool !k)
theorem tru_noex {d : D} {c w : Str} {p : D} : tru d ≠ .ex c w p := by
  intro e
  cases d <;> first | (cases e; done) | skip
  rename_i y
  have e : (if y.length ≤ lineN then R.ok ((y.length : Int) != 0) else R.no) = .ex c w p := e
  split at e <;> cases e
theorem bindT {g : Nv → D → Bool → R D} {σ : L2.St} {H : Hp} {Q : VK} {R1 : V → Hp → Prop} {rl' : Rl} (hb : Back rl) (h : tR X.K X.mg W rl (fun η => (F η).bind fun x => (tru x).bind fun k => g η x k) σ H Q)
    (k : ∀ (η : Nv) (A : List Addr) (H0 H1 : Hp) (v : V) (d : D) (b : Bool), EnvD X.K H1 A σ η → rl' H0 H1 A v d → tru d = .ok b → Post X.K X.mg W rl σ A H1 (g η d b) Q → R1 v H1) : tR X.K X.mg W rl' F σ H R1 := by
  obtain ⟨η, A, E, p⟩ := bindR (rl' := rl') hb h
  refine ⟨η, A, E, ?_⟩
  cases e : F η with
  | ex c w q => rw [e] at p; exact p
  | no => rw [e] at p; exact p
  | ok d =>
    rw [e] at p
    intro v1 H1 s1 q1
    obtain ⟨η1, A1, d1, s2, E1, q2, _, P⟩ := p v1 H1 s1 q1
    have P : Post X.K X.mg W rl σ A1 H1 ((tru d1).bind fun k => g η1 d1 k) Q := P
    cases e2 : tru d1 with
    | ex c w q => exact absurd e2 tru_noex
    | no => rw [e2] at P; exact False.elim P
    | ok b =>
      rw [e2] at P
      exact k η1 A1 H H1 v1 d1 b E1 q2 e2 P
theorem t_one {op : BoolOp} (h : TD X W a Fa) : TD X W (.BoolOp op [a] pos) Fa := pe_one h
theorem t_and (ha : TD X W a Fa) (hb : TD X W (.BoolOp .And (b :: rest) pos) Fb) : TD X W (.BoolOp .And (a :: b :: rest) pos) (andV Fa Fb) := peW (pe_andT ha hb) fun σ H Q h => bindT (rl' := rD X.K) back_D h fun η A H0 H1 v d k E q e p => by
  refine ⟨k, tru_of (Dp_mono q (hid_le A H1)) e, ?_⟩
  cases k with
  | true => exact iteT ⟨η, A, E, p⟩
  | false => exact iteF (p v H1 (Same.refl _) q)
theorem t_or (ha : TD X W a Fa) (hb : TD X W (.BoolOp .Or (b :: rest) pos) Fb) : TD X W (.BoolOp .Or (a :: b :: rest) pos) (orV Fa Fb) := peW (pe_orT ha hb) fun σ H Q h => bindT (rl' := rD X.K) back_D h fun η A H0 H1 v d k E q e p => by
  refine ⟨k, tru_of (Dp_mono q (hid_le A H1)) e, ?_⟩
  cases k with
  | true => exact iteT (p v H1 (Same.refl _) q)
  | false => exact iteF ⟨η, A, E, p⟩
theorem t_not (ha : TO X W a Fa) : TD X W (.UnaryOp .Not a pos) (notV Fa) := peW (pe_notT ha) fun σ H Q h => bindT (rl' := rO X.K) back_D h fun η A H0 H1 v d k E q e p =>
  ⟨k, tru_of (rO_dp q) e, p _ H1 (Same.refl _) (.bl _)⟩
/-! ### a if t else b -/
def ifV (G : Nv → R Bool) (Fa Fb : Nv → R D) : Nv → R D := fun η => (G η).bind fun k => if k then Fa η else Fb η
theorem tT_bindR {K : PySem.W.Frag} {mg : Str → Option Value} {g : Nv → Bool → R D} {σ : L2.St} {H : Hp} {Q : VK} {R1 : Bool → Hp → Prop} (hb : Back rl) (h : tR K mg W rl (fun η => (Ga η).bind (g η)) σ H Q)
    (k : ∀ (η : Nv) (A : List Addr) (H1 : Hp) (b : Bool), EnvD K H1 A σ η → Post K mg W rl σ A H1 (g η b) Q → R1 b H1) : tT K mg W Ga σ H R1 := by
  obtain ⟨η, A, E, p0⟩ := h
  have p : Post K mg W rl σ A H ((Ga η).bind (g η)) Q := p0
  refine ⟨η, A, E, ?_⟩
  cases e : Ga η with
  | ex c w q => rw [e] at p; exact p
  | no => rw [e] at p; exact p
  | ok d =>
    rw [e] at p
    have p : Post K mg W rl σ A H (g η d) Q := p
    exact fun H1 s => k η A H1 d (E.same s) (Post.same hb s p)
theorem t_if (hc : TB X W c G) (ha : TD X W a Fa) (hb : TD X W b Fb) : TD X W (.IfExp c a b pos) (ifV G Fa Fb) := peW (pe_ifExp hc ha hb) fun σ H Q h => tT_bindR back_D h fun η A H1 k E p => by
  cases k with
  | true => exact iteT ⟨η, A, E, p⟩
  | false => exact iteF ⟨η, A, E, p⟩
/-! ### a op b op' c -/
def chainV (f g : D → D → Option D) (Fa Fb Fc : Nv → R D) : Nv → R D := fun η => (Fa η).bind fun x => (Fb η).bind fun y => (R.of (f x y)).bind fun z => (tru z).bind fun k => if k then (Fc η).bind fun w => .of (g y w) else .ok (.bool false)
theorem chain_t {r r' : R2} {f g : D → D → Option D} (ho : Op2 X rB r f) (ho' : Op2 X rB r' g) {σ : L2.St} {H : Hp} {Q : VK} (h : tR X.K X.mg W rB (chainV f g Fa Fb Fc) σ H Q) :
    tChain r r' (tR X.K X.mg W (rO X.K) Fa) (tR X.K X.mg W (rO X.K) Fb) (tR X.K X.mg W (rO X.K) Fc) σ H Q := by
  have bk : Back rB := fun _ _ _ _ _ _ _ q => q
  obtain ⟨η, A, E, p0⟩ := h
  have p : Post X.K X.mg W rB σ A H ((Fa η).bind fun x => (Fb η).bind fun y => (R.of (f x y)).bind fun z => (tru z).bind fun k => if k then (Fc η).bind fun w => .of (g y w) else .ok (.bool false)) Q := p0
  refine ⟨η, A, E, ?_⟩
  cases e1 : Fa η with
  | ex c w q => rw [e1] at p; exact p
  | no => rw [e1] at p; exact p
  | ok x =>
    rw [e1] at p
    have p : Post X.K X.mg W rB σ A H ((Fb η).bind fun y => (R.of (f x y)).bind fun z => (tru z).bind fun k => if k then (Fc η).bind fun w => .of (g y w) else .ok (.bool false)) Q := p
    intro v1 H1 s1 q1
    refine ⟨η, A, E.same s1, ?_⟩
    cases e2 : Fb η with
    | ex c w q => rw [e2] at p; exact Post.same bk s1 (rl := rB) (r := .ex c w q) p
    | no => rw [e2] at p; exact p
    | ok y =>
      rw [e2] at p
      have p : Post X.K X.mg W rB σ A H ((R.of (f x y)).bind fun z => (tru z).bind fun k => if k then (Fc η).bind fun w => .of (g y w) else .ok (.bool false)) Q := p
      intro v2 H2 s2 q2
      cases e3 : f x y with
      | none => rw [e3] at p; exact False.elim p
      | some z =>
        rw [e3] at p
        have p : Post X.K X.mg W rB σ A H ((tru z).bind fun k => if k then (Fc η).bind fun w => .of (g y w) else .ok (.bool false)) Q := p
        refine ho H2 A v1 v2 x y z _ ((E.same s1).same s2).tr (rO_same s2 q1) (rO_same (Same.refl _) q2) e3 fun v3 H3 s3 q3 => ?_
        obtain ⟨k, rfl, rfl⟩ := q3
        have s13 := (s1.trans s2).trans s3
        refine ⟨k, rfl, ?_⟩
        cases k with
        | false => exact iteF (p (.bl false) H3 s13 ⟨_, rfl, rfl⟩)
        | true =>
          have p : Post X.K X.mg W rB σ A H ((Fc η).bind fun w => .of (g y w)) Q := p
          refine iteT ⟨η, A, E.same s13, ?_⟩
          cases e4 : Fc η with
          | ex c w q => rw [e4] at p; exact Post.same bk s13 (rl := rB) (r := .ex c w q) p
          | no => rw [e4] at p; exact p
          | ok u =>
            rw [e4] at p
            have p : Post X.K X.mg W rB σ A H (.of (g y u)) Q := p
            intro v4 H4 s4 q4
            cases e5 : g y u with
            | none => rw [e5] at p; exact False.elim p
            | some z' =>
              rw [e5] at p
              have s24 := s3.trans s4
              exact ho' H4 A v2 v4 y u z' Q (E.same (s13.trans s4)).tr (rO_same s24 q2) (rO_same (Same.refl _) q4) e5 fun v5 H5 s5 q5 => p v5 H5 ((s13.trans s4).trans s5) q5
theorem t_chain {op op' : CmpOp} {r r' : R2} {f g : D → D → Option D} (hop : OpR X (compareOp op) r) (hop' : OpR X (compareOp op') r') (ho : Op2 X rB r f) (ho' : Op2 X rB r' g) (ha : TO X W a Fa) (hb : TO X W b Fb) (hc : TO X W c Fc)
    (hm : lastMarks [op, op'] [b, c] = false := by with_unfolding_all rfl) : TD X W (.Compare a [op, op'] [b, c] pos) (chainV f g Fa Fb Fc) :=
  peW (pe_chain hop hop' ha hb hc hm) fun σ H Q h => chain_t ho ho' (tR_imp (fun _ _ _ _ _ _ _ q => rB_D q) h)
theorem b_chain {op op' : CmpOp} {r r' : R2} {f g : D → D → Option D} (hop : OpR X (compareOp op) r) (hop' : OpR X (compareOp op') r') (ho : Op2 X rB r f) (ho' : Op2 X rB r' g) (ha : TO X W a Fa) (hb : TO X W b Fb) (hc : TO X W c Fc)
    (hm : lastMarks [op, op'] [b, c] = false := by with_unfolding_all rfl) : TB X W (.Compare a [op, op'] [b, c] pos) (tb (chainV f g Fa Fb Fc)) :=
  ptW (pt_chain hop hop' ha hb hc hm) fun σ H Q h => chain_t ho ho' (tT_of (t := fun _ _ _ => True) (rl := rB) h fun A H1 v d b q e r => by
    obtain ⟨k, rfl, rfl⟩ := q
    cases e
    exact ⟨_, rfl, r⟩)

/-! ### arguments -/
/-- how a value lies, without a heap ahead -/
abbrev Rv := Hp → List Addr → V → D → Prop
def vO (K : PySem.W.Frag) : Rv := fun H A v d => rO K H H A v d
def vD (K : PySem.W.Frag) : Rv := fun H A v d => Dp K (hid A H) v d
def Keeps (rv : Rv) : Prop := ∀ H H' A v d, Same H H' → rv H A v d → rv H' A v d
theorem keeps_O {K : PySem.W.Frag} : Keeps (vO K) := fun _ _ _ _ _ s h => rO_same s h
theorem keeps_D {K : PySem.W.Frag} : Keeps (vD K) := fun _ _ _ _ _ s h => Dp_mono h (hid_same s)
def AllV (rv : Rv) (H : Hp) (A : List Addr) : List V → List D → Prop
  | [], [] => True
  | v :: vs, d :: ds => rv H A v d ∧ AllV rv H A vs ds
  | _, _ => False
theorem AllV.dp {K : PySem.W.Frag} {H : Hp} {A : List Addr} : ∀ {vs : List V} {ds : List D}, AllV (vD K) H A vs ds → DpAll K (hid A H) vs ds
  | [], [], _ => .nil
  | _ :: _, _ :: _, h => .cons h.1 (AllV.dp h.2)
  | [], _ :: _, h => h.elim
  | _ :: _, [], h => h.elim
theorem AllV.len {rv : Rv} {H : Hp} {A : List Addr} : ∀ {vs : List V} {ds : List D}, AllV rv H A vs ds → vs.length = ds.length
  | [], [], _ => rfl
  | _ :: _, _ :: _, h => by rw [List.length_cons, List.length_cons, AllV.len h.2]
  | [], _ :: _, h => h.elim
  | _ :: _, [], h => h.elim
def PostA (K : PySem.W.Frag) (mg : Str → Option Value) (W : WX) (rv : Rv) (σ : L2.St) (A : List Addr) (H : Hp) (r : R (List D)) (Q : List V → Hp → Prop) : Prop :=
  match r with
  | .ok ds => ∀ vs H', Same H H' → AllV rv H' A vs ds → Q vs H'
  | .ex c w p => ∀ cls dd H', Same H H' → ExR K mg (hid A H') cls dd c w p → W cls dd σ H'
  | .no => False
def tA (K : PySem.W.Frag) (mg : Str → Option Value) (W : WX) (rv : Rv) (Fs : Nv → R (List D)) : TA := fun σ H Q => ∃ η A, EnvD K H A σ η ∧ PostA K mg W rv σ A H (Fs η) Q
def TAs (X : Cx) (W : WX) (rv : Rv) (es : List Expr) (Fs : Nv → R (List D)) : Prop := PA X es (tA X.K X.mg W rv Fs)
def TV (X : Cx) (W : WX) (rv : Rv) (e : Expr) (F : Nv → R D) : Prop := PE X e (tR X.K X.mg W (fun _ H' A v d => rv H' A v d) F)
theorem TD.v (h : TD X W e F) : TV X W (vD X.K) e F := h
theorem TO.v (h : TO X W e F) : TV X W (vO X.K) e F := peW h fun _ _ _ => tR_imp fun _ _ _ _ _ _ _ q => rO_same (Same.refl _) q
def a0 : Nv → R (List D) := fun _ => .ok []
def aC (Fa : Nv → R D) (Fs : Nv → R (List D)) : Nv → R (List D) := fun η => (Fa η).bind fun x => (Fs η).bind fun xs => .ok (x :: xs)
theorem paW {es : List Expr} {t t' : TA} (h : PA X es t) (k : ∀ σ H Q, t' σ H Q → t σ H Q) : PA X es t' := ⟨fun pos pins s σ H Q I q => h.run pos pins s σ H Q I (k _ _ _ q)⟩
theorem as_nil {rv : Rv} : TAs X W rv [] a0 := paW pa_nil fun σ H Q ⟨η, A, E, p⟩ => p [] H (Same.refl _) trivial
theorem as_cons {rv : Rv} {es : List Expr} {Fs : Nv → R (List D)} (hk : Keeps rv) (ha : TV X W rv a Fa) (hs : TAs X W rv es Fs) (h1 : starEach (a :: es) X.env = (false, eval a X.env) :: starEach es X.env := by rfl) : TAs X W rv (a :: es) (aC Fa Fs) :=
  paW (pa_cons ha hs h1) fun σ H Q h => by
    obtain ⟨η, A, E, p0⟩ := h
    have p : PostA X.K X.mg W rv σ A H ((Fa η).bind fun x => (Fs η).bind fun xs => .ok (x :: xs)) Q := p0
    refine (show tR X.K X.mg W (fun _ H' A v d => rv H' A v d) Fa σ H _ from ⟨η, A, E, ?_⟩)
    cases e1 : Fa η with
    | ex c w q => rw [e1] at p; exact p
    | no => rw [e1] at p; exact p
    | ok x =>
      rw [e1] at p
      have p : PostA X.K X.mg W rv σ A H ((Fs η).bind fun xs => .ok (x :: xs)) Q := p
      intro v H1 s1 q1
      refine (show tA X.K X.mg W rv Fs σ H1 _ from ⟨η, A, E.same s1, ?_⟩)
      cases e2 : Fs η with
      | ex c w q =>
        rw [e2] at p
        exact fun cls dd H' s q' => p cls dd H' (s1.trans s) q'
      | no => rw [e2] at p; exact p
      | ok xs =>
        rw [e2] at p
        exact fun vs H2 s2 q2 => p (v :: vs) H2 (s1.trans s2) ⟨hk _ _ _ _ _ s2 q1, q2⟩
/-- a built-in function's answer by data -/
def OpN (X : Cx) (rl : Rl) (r : List V → Hp → VK → Prop) (f : List D → Option D) : Prop :=
  ∀ (H : Hp) (A : List Addr) (vs : List V) (ds : List D) (d : D) (Q : VK), (∀ p ∈ A, H p ≠ none) → AllV (vO X.K) H A vs ds → f ds = some d → (∀ v H', Same H H' → rl H H' A v d → Q v H') → r vs H Q
def eN (f : List D → Option D) (Fs : Nv → R (List D)) : Nv → R D := fun η => (Fs η).bind fun ds => .of (f ds)
theorem opN_t {r : List V → Hp → VK → Prop} {f : List D → Option D} {Fs : Nv → R (List D)} (hb : Back rl) (ho : OpN X rl r f) {σ : L2.St} {H : Hp} {Q : VK} (h : tR X.K X.mg W rl (eN f Fs) σ H Q) : tCB r (tA X.K X.mg W (vO X.K) Fs) σ H Q := by
  obtain ⟨η, A, E, p0⟩ := h
  have p : Post X.K X.mg W rl σ A H ((Fs η).bind fun ds => .of (f ds)) Q := p0
  refine (show tA X.K X.mg W (vO X.K) Fs σ H _ from ⟨η, A, E, ?_⟩)
  cases e1 : Fs η with
  | ex c w q => rw [e1] at p; exact p
  | no => rw [e1] at p; exact p
  | ok ds =>
    rw [e1] at p
    have p : Post X.K X.mg W rl σ A H (.of (f ds)) Q := p
    intro vs H1 s1 q1
    cases e2 : f ds with
    | none => rw [e2] at p; exact False.elim p
    | some d =>
      rw [e2] at p
      exact ho H1 A vs ds d Q (E.same s1).tr q1 e2 fun v H' s q => p v H' (s1.trans s) (hb _ _ _ _ _ _ s1 q)
theorem t_callB {id : String} {x : Str} {p : Pos} {es : List Expr} {r : List V → Hp → VK → Prop} {f : List D → Option D} {Fs : Nv → R (List D)} (hb : Back rl) (hc : CallR X (.builtin id) r) (ho : OpN X rl r f) (hg : Gl X x) (hm : X.mg x = none) (hv : bootBuiltins x = some (.builtin id))
    (ha : TAs X W (vO X.K) (e :: es) Fs) (hn : x ≠ "__name__" := by decide) (hdb : (x == ("__debug__" : Str)) = false := by decide) (he : starEach (e :: es) X.env = (false, eval e X.env) :: starEach es X.env := by rfl)
    (hpl : (backTo pos (starEach es X.env)).any (·.1) = false := by rfl) : PE X (.Call (.Name x p) (e :: es) [] pos) (tR X.K X.mg W rl (eN f Fs)) :=
  peW (pe_callB hc hg hm hv ha hn hdb he hpl) fun _ _ _ => opN_t hb ho
theorem t_callTy {T : String} {x : Str} {p : Pos} {es : List Expr} {r : List V → Hp → VK → Prop} {f : List D → Option D} {Fs : Nv → R (List D)} (hb : Back rl) (hc : CallR X (.type T) r) (ho : OpN X rl r f) (hg : Gl X x) (hm : X.mg x = none) (hv : bootBuiltins x = some (.type T))
    (ha : TAs X W (vO X.K) (e :: es) Fs) (hn : x ≠ "__name__" := by decide) (hdb : (x == ("__debug__" : Str)) = false := by decide) (he : starEach (e :: es) X.env = (false, eval e X.env) :: starEach es X.env := by rfl)
    (hpl : (backTo pos (starEach es X.env)).any (·.1) = false := by rfl) : PE X (.Call (.Name x p) (e :: es) [] pos) (tR X.K X.mg W rl (eN f Fs)) :=
  peW (pe_callTy hc hg hm hv ha hn hdb he hpl) fun _ _ _ => opN_t hb ho
/-! ### displays -/
def tupV (Fs : Nv → R (List D)) : Nv → R D := eN (fun ds => if ds.length ≤ lineN then some (.tuple ds) else none) Fs
def lstV (Fs : Nv → R (List D)) : Nv → R D := eN (fun ds => if ds.length ≤ lineN then some (.list ds) else none) Fs
theorem t_tup {es : List Expr} {x1 : Nat} {Fs : Nv → R (List D)} (h : TAs X W (vD X.K) es Fs) : TD X W (.Tuple es x1 pos) (tupV Fs) := peW (pe_tup h) fun σ H Q hq => by
  obtain ⟨η, A, E, p0⟩ := hq
  have p : Post X.K X.mg W (rD X.K) σ A H ((Fs η).bind fun ds => .of (if ds.length ≤ lineN then some (.tuple ds) else none)) Q := p0
  refine (show tA X.K X.mg W (vD X.K) Fs σ H _ from ⟨η, A, E, ?_⟩)
  cases e1 : Fs η with
  | ex c w q => rw [e1] at p; exact p
  | no => rw [e1] at p; exact p
  | ok ds =>
    rw [e1] at p
    have p : Post X.K X.mg W (rD X.K) σ A H (.of (if ds.length ≤ lineN then some (.tuple ds) else none)) Q := p
    intro vs H1 s1 q1
    split at p
    · rename_i hz
      exact ⟨by rw [q1.len, line_eq]; exact hz, fun q hq => p _ _ (s1.trans (same_new hq)) (dp_new_tup (E.same s1).tr hq q1.dp)⟩
    · exact False.elim p
theorem t_lst {es : List Expr} {Fs : Nv → R (List D)} (h : TAs X W (vD X.K) es Fs) : TF X W (.List es pos) (lstV Fs) := peW (pe_lst h) fun σ H Q hq => by
  obtain ⟨η, A, E, p0⟩ := hq
  have p : Post X.K X.mg W (rF X.K) σ A H ((Fs η).bind fun ds => .of (if ds.length ≤ lineN then some (.list ds) else none)) Q := p0
  refine (show tA X.K X.mg W (vD X.K) Fs σ H _ from ⟨η, A, E, ?_⟩)
  cases e1 : Fs η with
  | ex c w q => rw [e1] at p; exact p
  | no => rw [e1] at p; exact p
  | ok ds =>
    rw [e1] at p
    have p : Post X.K X.mg W (rF X.K) σ A H (.of (if ds.length ≤ lineN then some (.list ds) else none)) Q := p
    intro vs H1 s1 q1
    split at p
    · rename_i hz
      exact ⟨by rw [q1.len, line_eq]; exact hz, fun q hq => p _ _ (s1.trans (same_new hq)) (back_F _ _ _ _ _ _ s1 (dp_new_list (E.same s1).tr hq q1.dp))⟩
    · exact False.elim p
/-! ### subscripts and slices -/
def atD (xs : List D) (i : Int) : Option D := (ixN xs.length i).bind fun j => xs[j]?
def ixV : D → D → Option D
  | .list xs, .int i => atD xs i
  | .tuple xs, .int i => atD xs i
  | _, _ => none
theorem atI_of {K : PySem.W.Frag} {H : Hp} {vs : List V} {ds : List D} {i : Int} {d : D} (h : DpAll K H vs ds) (e : atD ds i = some d) : ∃ v, atI vs i = some v ∧ Dp K H v d := by
  unfold atD at e
  unfold atI
  rw [DpAll_length h]
  cases q : ixN ds.length i with
  | none => rw [q] at e; cases e
  | some j =>
    rw [q] at e
    exact DpAll_get h e
theorem o_ix : Op2 X (rD X.K) (rIx X.K) ixV := by
  intro H A x y a b d Q hA ha hb e k
  unfold ixV at e
  split at e
  · obtain ⟨l, vs, rfl, h1, q⟩ := rO_list ha
    obtain ⟨v, e1, q1⟩ := atI_of q e
    exact .inl ⟨l, vs, _, v, rfl, rO_int hb, h1, e1, k v H (Same.refl _) q1⟩
  · obtain ⟨l, vs, rfl, h1, _, q⟩ := rO_tup ha
    obtain ⟨v, e1, q1⟩ := atI_of q e
    exact .inr (.inl ⟨l, vs, _, v, rfl, rO_int hb, h1, e1, k v H (Same.refl _) q1⟩)
  · cases e
theorem t_ix (ha : TO X W a Fa) (hb : TO X W b Fb) (hs : PlainIx b := by exact fun _ _ => rfl) : TD X W (.Subscript a b pos) (e2 ixV Fa Fb) := peW (pe_ix ix_seq ha hb hs) fun _ _ _ => op2_t back_D o_ix
def cutD (xs : List D) (lo hi : Option Int) : List D := (xs.drop (HT.sIx xs.length 0 lo)).take (HT.sIx xs.length xs.length hi - HT.sIx xs.length 0 lo)
theorem cut_of {K : PySem.W.Frag} {H : Hp} {vs : List V} {ds : List D} {lo hi : Option Int} (h : DpAll K H vs ds) : DpAll K H (cutV vs lo hi) (cutD ds lo hi) := by
  unfold cutV cutD
  rw [DpAll_length h]
  exact DpAll_take _ (DpAll_drop _ h)
def slV (lo hi : Option Int) : D → Option D
  | .list xs => some (.list (cutD xs lo hi))
  | .tuple xs => some (.tuple (cutD xs lo hi))
  | _ => none
def slL (lo hi : Option Int) : D → Option D
  | .list xs => some (.list (cutD xs lo hi))
  | _ => none
/-- a slice's part: left out, or an int -/
def TPt (X : Cx) (W : WX) (e : Option Expr) (F : Nv → R (Option Int)) : Prop :=
  ∃ t : L2.TO, PO X e t ∧ ∀ σ H (Q : Option Int → Hp → Prop), (∃ η A, EnvD X.K H A σ η ∧ match F η with
    | .ok o => ∀ H', Same H H' → Q o H'
    | .ex c w p => ∀ cls dd H', Same H H' → ExR X.K X.mg (hid A H') cls dd c w p → W cls dd σ H'
    | .no => False) → t σ H Q
def p0 : Nv → R (Option Int) := fun _ => .ok none
def asInt : D → R (Option Int)
  | .int i => .ok (some i)
  | _ => .no
def p1 (F : Nv → R D) : Nv → R (Option Int) := fun η => (F η).bind asInt
theorem pt_0 : TPt X W none p0 := ⟨_, po_none, fun σ H Q ⟨η, A, E, p⟩ => p H (Same.refl _)⟩
theorem pt_1 (h : TO X W e F) : TPt X W (some e) (p1 F) := ⟨_, po_some h, fun σ H Q ⟨η, A, E, p⟩ => by
  refine (show tR X.K X.mg W (rO X.K) F σ H _ from ⟨η, A, E, ?_⟩)
  unfold p1 at p
  cases e1 : F η with
  | ex c w q => rw [e1] at p; exact p
  | no => rw [e1] at p; exact p
  | ok d =>
    rw [e1] at p
    intro v H1 s1 q1
    cases d with
    | int i => exact ⟨i, rO_int q1, p H1 s1⟩
    | _ => exact False.elim p⟩
def slE (sl : Option Int → Option Int → D → Option D) (F : Nv → R D) (Lo Hi : Nv → R (Option Int)) : Nv → R D := fun η => (F η).bind fun x => (Lo η).bind fun l => (Hi η).bind fun h => .of (sl l h x)
theorem slice_t {r : V → Option Int → Option Int → Hp → VK → Prop} {sl : Option Int → Option Int → D → Option D} {lo hi : Option Expr} {Lo Hi : Nv → R (Option Int)} {p2 : Pos} (hb : Back rl) (hr : SlR X r)
    (ho : ∀ (H : Hp) (A : List Addr) (x : V) (a d : D) (l h : Option Int) (Q : VK), (∀ p ∈ A, H p ≠ none) → rO X.K H H A x a → sl l h a = some d → (∀ v H', Same H H' → rl H H' A v d → Q v H') → r x l h H Q)
    (ha : TO X W a Fa) (hl : TPt X W lo Lo) (hh : TPt X W hi Hi) : PE X (.Subscript a (.Slice lo hi none p2) pos) (tR X.K X.mg W rl (slE sl Fa Lo Hi)) := by
  obtain ⟨tl, pl, kl⟩ := hl
  obtain ⟨th, ph, kh⟩ := hh
  refine peW (pe_slice hr ha pl ph) fun σ H Q h => ?_
  obtain ⟨η, A, E, q0⟩ := h
  have p : Post X.K X.mg W rl σ A H ((Fa η).bind fun x => (Lo η).bind fun l => (Hi η).bind fun h => .of (sl l h x)) Q := q0
  refine (show tR X.K X.mg W (rO X.K) Fa σ H _ from ⟨η, A, E, ?_⟩)
  cases e1 : Fa η with
  | ex c w q => rw [e1] at p; exact p
  | no => rw [e1] at p; exact p
  | ok x =>
    rw [e1] at p
    have p : Post X.K X.mg W rl σ A H ((Lo η).bind fun l => (Hi η).bind fun h => .of (sl l h x)) Q := p
    intro v H1 s1 q1
    refine kl σ H1 _ ⟨η, A, E.same s1, ?_⟩
    cases e2 : Lo η with
    | ex c w q => rw [e2] at p; exact fun cls dd H' s q' => p cls dd H' (s1.trans s) q'
    | no => rw [e2] at p; exact p
    | ok l =>
      rw [e2] at p
      have p : Post X.K X.mg W rl σ A H ((Hi η).bind fun h => .of (sl l h x)) Q := p
      intro H2 s2
      have s12 := s1.trans s2
      refine kh σ H2 _ ⟨η, A, E.same s12, ?_⟩
      cases e3 : Hi η with
      | ex c w q => rw [e3] at p; exact fun cls dd H' s q' => p cls dd H' (s12.trans s) q'
      | no => rw [e3] at p; exact p
      | ok h =>
        rw [e3] at p
        have p : Post X.K X.mg W rl σ A H (.of (sl l h x)) Q := p
        intro H3 s3
        have s13 := s12.trans s3
        cases e4 : sl l h x with
        | none => rw [e4] at p; exact False.elim p
        | some d =>
          rw [e4] at p
          exact ho H3 A v x d l h Q (E.same s13).tr (rO_same (s2.trans s3) q1) e4 fun v' H' s q => p v' H' (s13.trans s) (hb _ _ _ _ _ _ s13 q)
theorem cut_whole {xs : List D} {lo hi : Option Int} (h : HT.sIx xs.length 0 lo = 0 ∧ HT.sIx xs.length xs.length hi = xs.length) : cutD xs lo hi = xs := by
  unfold cutD
  rw [h.1, h.2]
  simp
theorem t_slice {lo hi : Option Expr} {Lo Hi : Nv → R (Option Int)} {p2 : Pos} (ha : TO X W a Fa) (hl : TPt X W lo Lo) (hh : TPt X W hi Hi) : TD X W (.Subscript a (.Slice lo hi none p2) pos) (slE slV Fa Lo Hi) :=
  slice_t back_D (SlR.or sl_list sl_tupA) (fun H A x a d l h Q hA ha e k => by
    unfold slV at e
    split at e
    · have e := Option.some.inj e
      subst e
      obtain ⟨p, vs, rfl, h1, q⟩ := rO_list ha
      exact .inl ⟨p, vs, rfl, h1, fun z hz => k _ _ (same_new hz) (rF_D (nofree hA) (dp_new_list hA hz (cut_of q)))⟩
    · have e := Option.some.inj e
      subst e
      obtain ⟨p, vs, rfl, h1, h1', q⟩ := rO_tup ha
      refine .inr ⟨p, vs, rfl, h1, fun w => ?_, fun _ z hz => k _ _ (same_new hz) (dp_new_tup hA hz (cut_of q))⟩
      rw [DpAll_length q] at w
      refine k _ H (Same.refl _) ?_
      rw [cut_whole w]
      exact .tup h1' q
    · cases e) ha hl hh
/-- of a list: a new list -/
theorem t_sliceL {lo hi : Option Expr} {Lo Hi : Nv → R (Option Int)} {p2 : Pos} (ha : TO X W a Fa) (hl : TPt X W lo Lo) (hh : TPt X W hi Hi) : TF X W (.Subscript a (.Slice lo hi none p2) pos) (slE slL Fa Lo Hi) :=
  slice_t back_F sl_list (fun H A x a d l h Q hA ha e k => by
    unfold slL at e
    split at e
    · have e := Option.some.inj e
      subst e
      obtain ⟨p, vs, rfl, h1, q⟩ := rO_list ha
      exact ⟨p, vs, rfl, h1, fun z hz => k _ _ (same_new hz) (dp_new_list hA hz (cut_of q))⟩
    · cases e) ha hl hh
end
end Bd
/-! D4: targets, what is walked, comprehensions, statements. -/
namespace Bd
open PySem L2

section
variable {X : Cx} {W : WX} {rl : Rl} {a b c e tg iter : Expr} {Fa Fb Fc F : Nv → R D} {Ga Gb G : Nv → R Bool} {pos : Pos}
/-! ### targets -/
abbrev Tgt := D → Nv → Option Nv
abbrev Tgts := List D → Nv → Option Nv
structure Stored (σ σ' : L2.St) (η η' : Nv) (js : List Nat) : Prop where
  len : σ'.length = σ.length
  rest : ∀ j, j ∉ js → σ'[j]? = σ[j]?
  own : ∀ i xs, η'[i]? = some (.own xs) → i ∉ js ∧ η[i]? = some (.own xs)
theorem Stored.trans {σ σ1 σ2 : L2.St} {η η1 η2 : Nv} {js ks : List Nat} (h : Stored σ σ1 η η1 js) (k : Stored σ1 σ2 η1 η2 ks) : Stored σ σ2 η η2 (js ++ ks) where
  len := k.len.trans h.len
  rest := fun j n => by
    rw [List.mem_append, not_or] at n
    rw [k.rest j n.2, h.rest j n.1]
  own := fun i xs e => by
    obtain ⟨n1, e1⟩ := k.own i xs e
    obtain ⟨n2, e2⟩ := h.own i xs e1
    exact ⟨by rw [List.mem_append, not_or]; exact ⟨n2, n1⟩, e2⟩
def gD (K : PySem.W.Frag) (T : Tgt) (js : List Nat) : TG := fun v σ H Q => ∃ η A x η', EnvD K H A σ η ∧ Dp K (hid A H) v x ∧ T x η = some η' ∧ ∀ σ', EnvD K H A σ' η' → Stored σ σ' η η' js → Q σ' H
def gsD (K : PySem.W.Frag) (T : Tgts) (js : List Nat) : TGs := fun vs σ H Q => ∃ η A xs η', EnvD K H A σ η ∧ DpAll K (hid A H) vs xs ∧ T xs η = some η' ∧ ∀ σ', EnvD K H A σ' η' → Stored σ σ' η η' js → Q σ' H
def TT' (X : Cx) (tg : Expr) (T : Tgt) (js : List Nat) : Prop := PG X tg (gD X.K T js)
def TTs (X : Cx) (tgs : List Expr) (T : Tgts) (js : List Nat) : Prop := PGs X tgs (gsD X.K T js)
theorem pgW {t t' : TG} (h : PG X e t) (k : ∀ v σ H Q, t' v σ H Q → t v σ H Q) : PG X e t' := ⟨fun pins s σ H v u Q r I q => h.run pins s σ H v u Q r I (k _ _ _ _ q)⟩
theorem pgsW {es : List Expr} {t t' : TGs} (h : PGs X es t) (k : ∀ v σ H Q, t' v σ H Q → t v σ H Q) : PGs X es t' := ⟨fun pins s σ H v u Q r I q => h.run pins s σ H v u Q r I (k _ _ _ _ q)⟩
def gN (i : Nat) : Tgt := fun x η => some (η.set i (.d x))
theorem EnvD.set {K : PySem.W.Frag} {H : Hp} {A : List Addr} {σ : L2.St} {η : Nv} {i : Nat} {v : V} {x : D} (E : EnvD K H A σ η) (q : Dp K (hid A H) v x) : EnvD K H A (σ.set i (some v)) (η.set i (.d x)) where
  len := by rw [List.length_set, List.length_set, E.len]
  at_ := fun j s e => by
    by_cases hj : i = j
    · subst hj
      have hl : i < η.length := by
        have := (List.getElem?_eq_some_iff.mp e).1
        rwa [List.length_set] at this
      rw [List.getElem?_set_self hl] at e
      cases e
      exact ⟨some v, by rw [List.getElem?_set_self (by rw [E.len]; exact hl)], q⟩
    · rw [List.getElem?_set_ne hj] at e ⊢
      exact E.at_ j s e
  ap := fun j k a xs ys e1 e2 e3 e4 => by
    by_cases hj : i = j
    · subst hj
      by_cases hl : i < η.length
      · rw [List.getElem?_set_self hl] at e1
        cases e1
      · rw [List.getElem?_eq_none (by rw [List.length_set]; omega)] at e1
        cases e1
    · by_cases hk : i = k
      · subst hk
        by_cases hl : i < η.length
        · rw [List.getElem?_set_self hl] at e2
          cases e2
        · rw [List.getElem?_eq_none (by rw [List.length_set]; omega)] at e2
          cases e2
      · rw [List.getElem?_set_ne hj] at e1 e3
        rw [List.getElem?_set_ne hk] at e2 e4
        exact E.ap j k a xs ys e1 e2 e3 e4
  tr := E.tr
theorem own_set {η : Nv} {i j : Nat} {x : D} {xs : List D} (h : (η.set i (.d x))[j]? = some (.own xs)) : j ≠ i ∧ η[j]? = some (.own xs) := by
  by_cases hj : i = j
  · subst hj
    by_cases hl : i < η.length
    · rw [List.getElem?_set_self hl] at h
      cases h
    · rw [List.getElem?_eq_none (by rw [List.length_set]; omega)] at h
      cases h
  · rw [List.getElem?_set_ne hj] at h
    exact ⟨fun z => hj z.symm, h⟩
theorem g_name (i : Nat) {x : Str} (hN : X.N.Nodup) (hi : X.N[i]? = some x := by rfl) (hx : Loc X.env.scope x := by first | exact Or.inl rfl | exact Or.inr rfl) (hf : X.fn x = true ∨ X.env.scope.names.lookup x = some .local := by first | exact .inl rfl | exact .inr rfl) : TT' X (.Name x pos) (gN i) [i] :=
  pgW (pg_name hN hi hx hf) fun v σ H Q ⟨η, A, x, η', E, q, e, k⟩ => by
    cases e
    refine k _ (E.set q) ⟨List.length_set, fun j n => ?_, fun j xs e => ?_⟩
    · rw [List.getElem?_set_ne fun z => n (by rw [z]; exact List.mem_cons_self)]
    · obtain ⟨n, e⟩ := own_set e
      exact ⟨by simpa using n, e⟩
def gs0 : Tgts := fun xs η => match xs with
  | [] => some η
  | _ => none
def gsC (T : Tgt) (U : Tgts) : Tgts := fun xs η => match xs with
  | x :: r => (T x η).bind (U r)
  | _ => none
theorem g_nil : TTs X [] gs0 [] := pgsW pgs_nil fun v σ H Q ⟨η, A, xs, η', E, q, e, k⟩ => by
  unfold gs0 at e
  split at e
  · cases e
    cases q
    exact ⟨rfl, k σ E ⟨rfl, fun _ _ => rfl, fun i xs e => ⟨by simp, e⟩⟩⟩
  · cases e
theorem g_cons {es : List Expr} {T : Tgt} {U : Tgts} {js ks : List Nat} (h1 : TT' X e T js) (h2 : TTs X es U ks) (hs : (assignEach (e :: es) X.env).map (·.2) = assign e X.env :: (assignEach es X.env).map (·.2) := by rfl) : TTs X (e :: es) (gsC T U) (js ++ ks) := pgsW (pgs_cons h1 h2 hs) fun v σ H Q ⟨η, A, xs, η', E, q, e, k⟩ => by
  unfold gsC at e
  split at e
  · rename_i x r
    cases q with
    | cons q1 q2 =>
      cases e1 : T x η with
      | none => rw [e1] at e; cases e
      | some η1 =>
        rw [e1] at e
        exact ⟨_, _, rfl, η, A, x, η1, E, q1, e1, fun σ1 E1 S1 => ⟨η1, A, r, η', E1, q2, e, fun σ2 E2 S2 => k σ2 E2 (S1.trans S2)⟩⟩
  · cases e
def gT (n : Nat) (U : Tgts) : Tgt := fun x η => match x with
  | .tuple xs => if xs.length = n then U xs η else none
  | _ => none
theorem g_tup {es : List Expr} {k : Nat} {U : Tgts} {js : List Nat} {n : Nat} (hc : X.calm = true) (h : TTs X es U js) (hn : (assignEach es X.env).length = n := by rfl) (hst : (assignEach es X.env).findIdx? (·.1) = none := by rfl) : TT' X (.Tuple es k pos) (gT n U) js := by
  refine pgW (pg_tup hc h hn hst) fun v σ H Q ⟨η, A, x, η', E, q, e, k⟩ => ?_
  unfold gT at e
  split at e
  · split at e
    · rename_i hl
      cases q with
      | tup h1 h2 => exact ⟨_, _, rfl, sqT_same (hid_le A H) h1, by rw [DpAll_length h2]; exact hl, η, A, _, η', E, h2, e, k⟩
    · cases e
  · cases e

/-! ### what is walked -/
structure Walks (K : PySem.W.Frag) (J : It) (H1 : Hp) (A : List Addr) (ds : List D) : Prop where
  step : ∀ (i : Nat) (x : D), ds[i]? = some x → ∀ (A' : List Addr) (H2 : Hp), Same (hid A H1) (hid A' H2) → (∀ p ∈ A', H2 p ≠ none) → J.go i H2 ∧ ∀ v H3, J.yld i H2 v H3 → Same H2 H3 ∧ Dp K (hid A' H3) v x
  stop : ∀ (A' : List Addr) (H2 : Hp), Same (hid A H1) (hid A' H2) → J.stop ds.length H2
def PostI (K : PySem.W.Frag) (mg : Str → Option Value) (W : WX) (σ : L2.St) (A : List Addr) (H : Hp) (r : R (List D)) (Q : It → Hp → Prop) : Prop :=
  match r with
  | .ok ds => ∀ J H', Same H H' → Walks K J H' A ds → Q J H'
  | .ex c w p => ∀ cls dd H', Same H H' → ExR K mg (hid A H') cls dd c w p → W cls dd σ H'
  | .no => False
def tI (K : PySem.W.Frag) (mg : Str → Option Value) (W : WX) (F : Nv → R (List D)) : TI := fun σ H Q => ∃ η A, EnvD K H A σ η ∧ PostI K mg W σ A H (F η) Q
def TI' (X : Cx) (W : WX) (tg iter : Expr) (F : Nv → R (List D)) : Prop := PI X tg iter (tI X.K X.mg W F)
theorem piW {t t' : TI} (h : PI X tg iter t) (k : ∀ σ H Q, t' σ H Q → t σ H Q) : PI X tg iter t' := ⟨fun pins s σ H Q I q => h.run pins s σ H Q I (k _ _ _ q)⟩
theorem walks_list {K : PySem.W.Frag} {H1 : Hp} {A : List Addr} {a : Addr} {vs : List V} {ds : List D} (h1 : SqL K (hid A H1) a vs) (q : DpAll K (hid A H1) vs ds) : Walks K (Itl K a) H1 A ds where
  step := fun i x e A' H2 s _ => by
    obtain ⟨v, e1, q1⟩ := DpAll_get q e
    have h2 : SqL K H2 a vs := (hid_le A' H2).seq (s.seq h1)
    refine ⟨⟨vs, v, h2, e1⟩, fun u H3 y => ?_⟩
    obtain ⟨rfl, y⟩ := y
    have z := y vs h2
    rw [e1] at z
    cases z
    exact ⟨Same.refl _, Dp_mono q1 s⟩
  stop := fun A' H2 s => ⟨vs, (hid_le A' H2).seq (s.seq h1), Nat.le_of_eq (DpAll_length q)⟩
theorem walks_tup {K : PySem.W.Frag} {H1 : Hp} {A : List Addr} {a : Addr} {vs : List V} {ds : List D} (h1 : SqT K (hid A H1) a vs) (q : DpAll K (hid A H1) vs ds) : Walks K (Itt K a) H1 A ds where
  step := fun i x e A' H2 s _ => by
    obtain ⟨v, e1, q1⟩ := DpAll_get q e
    have h2 : SqT K H2 a vs := sqT_same (hid_le A' H2) (sqT_same s h1)
    refine ⟨⟨vs, v, h2, e1⟩, fun u H3 y => ?_⟩
    obtain ⟨rfl, y⟩ := y
    have z := y vs h2
    rw [e1] at z
    cases z
    exact ⟨Same.refl _, Dp_mono q1 s⟩
  stop := fun A' H2 s => ⟨vs, sqT_same (hid_le A' H2) (sqT_same s h1), Nat.le_of_eq (DpAll_length q)⟩
def asL : D → R (List D)
  | .list xs => .ok xs
  | _ => .no
def asT : D → R (List D)
  | .tuple xs => .ok xs
  | _ => .no
def iL (F : Nv → R D) : Nv → R (List D) := fun η => (F η).bind asL
def iT (F : Nv → R D) : Nv → R (List D) := fun η => (F η).bind asT
theorem i_list (h : TD X W iter F) : TI' X W tg iter (iL F) := piW (pi_list h) fun σ H Q ⟨η, A, E, p0⟩ => by
  have p : PostI X.K X.mg W σ A H ((F η).bind asL) Q := p0
  refine (show tR X.K X.mg W (rD X.K) F σ H _ from ⟨η, A, E, ?_⟩)
  cases e1 : F η with
  | ex c w q => rw [e1] at p; exact p
  | no => rw [e1] at p; exact p
  | ok d =>
    rw [e1] at p
    intro v H1 s1 q1
    cases d with
    | list xs =>
      cases q1 with
      | lst h1 h2 => exact ⟨_, rfl, ⟨_, (hid_le A H1).seq h1⟩, p _ H1 s1 (walks_list h1 h2)⟩
    | _ => exact False.elim p
theorem i_tup (h : TD X W iter F) : TI' X W tg iter (iT F) := piW (pi_tup h) fun σ H Q ⟨η, A, E, p0⟩ => by
  have p : PostI X.K X.mg W σ A H ((F η).bind asT) Q := p0
  refine (show tR X.K X.mg W (rD X.K) F σ H _ from ⟨η, A, E, ?_⟩)
  cases e1 : F η with
  | ex c w q => rw [e1] at p; exact p
  | no => rw [e1] at p; exact p
  | ok d =>
    rw [e1] at p
    intro v H1 s1 q1
    cases d with
    | tuple xs =>
      cases q1 with
      | tup h1 h2 => exact ⟨_, rfl, ⟨_, sqT_same (hid_le A H1) h1⟩, p _ H1 s1 (walks_tup h1 h2)⟩
    | _ => exact False.elim p
def rangeD (lo : Int) (n : Nat) : List D := (List.range n).map fun i => PyData.int (lo + (i : Nat))
theorem walks_range {K : PySem.W.Frag} {H1 : Hp} {A : List Addr} {lo : Int} {n : Nat} : Walks K (Itr lo n) H1 A (rangeD lo n) where
  step := fun i x e A' H2 s _ => by
    unfold rangeD at e
    rw [List.getElem?_map] at e
    by_cases hi : i < n
    · rw [List.getElem?_range hi] at e
      cases e
      refine ⟨hi, fun u H3 y => ?_⟩
      obtain ⟨rfl, rfl⟩ := y
      exact ⟨Same.refl _, .int _⟩
    · rw [List.getElem?_eq_none (by simp; omega)] at e
      cases e
  stop := fun A' H2 s => by
    unfold rangeD
    rw [List.length_map, List.length_range]
    exact Nat.le_refl _
def rng1 (ds : List D) : R (List D) := match ds with
  | [.int j] => if -(2 ^ 62) ≤ j ∧ j < 2 ^ 62 then .ok (rangeD 0 j.toNat) else .no
  | _ => .no
def rng2 (ds : List D) : R (List D) := match ds with
  | [.int i, .int j] => if -(2 ^ 62) ≤ i ∧ i < 2 ^ 62 ∧ -(2 ^ 62) ≤ j ∧ j < 2 ^ 62 then .ok (rangeD i (j - i).toNat) else .no
  | _ => .no
def iR1 (Fs : Nv → R (List D)) : Nv → R (List D) := fun η => (Fs η).bind rng1
def iR2 (Fs : Nv → R (List D)) : Nv → R (List D) := fun η => (Fs η).bind rng2
theorem vO_int {K : PySem.W.Frag} {H : Hp} {A : List Addr} {v : V} {i : Int} (h : vO K H A v (.int i)) : v = .int i := rO_int h
theorem allI1 {K : PySem.W.Frag} {H : Hp} {A : List Addr} : ∀ {vs : List V} {i : Int}, AllV (vO K) H A vs [.int i] → vs = [.int i]
  | [v], i, h => by rw [vO_int h.1]
  | [], _, h => h.elim
  | _ :: _ :: _, _, h => h.2.elim
theorem allI2 {K : PySem.W.Frag} {H : Hp} {A : List Addr} : ∀ {vs : List V} {i j : Int}, AllV (vO K) H A vs [.int i, .int j] → vs = [.int i, .int j]
  | [v, w], i, j, h => by rw [vO_int h.1, vO_int h.2.1]
  | [], _, _, h => h.elim
  | [_], _, _, h => h.2.elim
  | _ :: _ :: _ :: _, _, _, h => h.2.2.elim
theorem i_range1 {Fs : Nv → R (List D)} {p : Pos} (hg : Gl X "range") (hm : X.mg "range" = none) (ha : TAs X W (vO X.K) [a] Fs) (hs : starEach [a] X.env = [(false, eval a X.env)] := by rfl) : TI' X W tg (.Call (.Name "range" p) [a] [] pos) (iR1 Fs) := piW (pi_range1 hg hm ha hs) fun σ H Q ⟨η, A, E, p0⟩ => by
  have p : PostI X.K X.mg W σ A H ((Fs η).bind rng1) Q := p0
  refine (show tA X.K X.mg W (vO X.K) Fs σ H _ from ⟨η, A, E, ?_⟩)
  cases e1 : Fs η with
  | ex c w q => rw [e1] at p; exact p
  | no => rw [e1] at p; exact p
  | ok ds =>
    rw [e1] at p
    have p : PostI X.K X.mg W σ A H (rng1 ds) Q := p
    intro vs H1 s1 q1
    unfold rng1 at p
    split at p
    · split at p
      · rename_i h
        exact ⟨_, allI1 q1, h.1, h.2, p _ H1 s1 walks_range⟩
      · exact False.elim p
    · exact False.elim p
theorem i_range2 {Fs : Nv → R (List D)} {p : Pos} (hg : Gl X "range") (hm : X.mg "range" = none) (ha : TAs X W (vO X.K) [a, b] Fs) (hs : starEach [a, b] X.env = [(false, eval a X.env), (false, eval b X.env)] := by rfl) (hs2 : starEach [b] X.env = [(false, eval b X.env)] := by rfl) :
    TI' X W tg (.Call (.Name "range" p) [a, b] [] pos) (iR2 Fs) := piW (pi_range2 hg hm ha hs hs2) fun σ H Q ⟨η, A, E, p0⟩ => by
  have p : PostI X.K X.mg W σ A H ((Fs η).bind rng2) Q := p0
  refine (show tA X.K X.mg W (vO X.K) Fs σ H _ from ⟨η, A, E, ?_⟩)
  cases e1 : Fs η with
  | ex c w q => rw [e1] at p; exact p
  | no => rw [e1] at p; exact p
  | ok ds =>
    rw [e1] at p
    have p : PostI X.K X.mg W σ A H (rng2 ds) Q := p
    intro vs H1 s1 q1
    unfold rng2 at p
    split at p
    · split at p
      · rename_i h
        exact ⟨_, _, allI2 q1, ⟨h.1, h.2.1, h.2.2.1, h.2.2.2⟩, p _ H1 s1 walks_range⟩
      · exact False.elim p
    · exact False.elim p

/-! ### comprehensions -/
def wipeE (η : Nv) : List Nat → Nv
  | [] => η
  | v :: vs => (wipeE η vs).set v .no
theorem wipe_get (σ : L2.St) : ∀ (vs : List Nat) (j : Nat), (wipe σ vs)[j]? = if j ∈ vs then (σ[j]?).map fun _ => none else σ[j]?
  | [], j => by simp [wipe]
  | v :: vs, j => by
    unfold wipe
    have ih := wipe_get σ vs j
    by_cases hj : v = j
    · subst hj
      rw [if_pos List.mem_cons_self]
      by_cases hl : v < (wipe σ vs).length
      · rw [List.getElem?_set_self hl]
        rw [wipe_length] at hl
        rw [List.getElem?_eq_getElem hl]
        rfl
      · rw [List.getElem?_eq_none (by rw [List.length_set]; omega)]
        rw [wipe_length] at hl
        rw [List.getElem?_eq_none (by omega)]
        rfl
    · rw [List.getElem?_set_ne hj, ih]
      have : (j ∈ v :: vs) ↔ j ∈ vs := ⟨fun m => (List.mem_cons.mp m).elim (fun z => absurd z.symm hj) id, List.mem_cons_of_mem _⟩
      simp only [this]
theorem wipeE_get (η : Nv) : ∀ (vs : List Nat) (j : Nat), (wipeE η vs)[j]? = if j ∈ vs then (η[j]?).map fun _ => Sl.no else η[j]?
  | [], j => by simp [wipeE]
  | v :: vs, j => by
    unfold wipeE
    have ih := wipeE_get η vs j
    have hlen : (wipeE η vs).length = η.length := by
      clear ih
      induction vs with
      | nil => rfl
      | cons w ws ih => unfold wipeE; rw [List.length_set, ih]
    by_cases hj : v = j
    · subst hj
      rw [if_pos List.mem_cons_self]
      by_cases hl : v < (wipeE η vs).length
      · rw [List.getElem?_set_self hl]
        rw [hlen] at hl
        rw [List.getElem?_eq_getElem hl]
        rfl
      · rw [List.getElem?_eq_none (by rw [List.length_set]; omega)]
        rw [hlen] at hl
        rw [List.getElem?_eq_none (by omega)]
        rfl
    · rw [List.getElem?_set_ne hj, ih]
      have : (j ∈ v :: vs) ↔ j ∈ vs := ⟨fun m => (List.mem_cons.mp m).elim (fun z => absurd z.symm hj) id, List.mem_cons_of_mem _⟩
      simp only [this]
theorem wipeE_length (η : Nv) : ∀ vs : List Nat, (wipeE η vs).length = η.length
  | [] => rfl
  | v :: vs => by unfold wipeE; rw [List.length_set, wipeE_length η vs]
theorem EnvD.wipe {K : PySem.W.Frag} {H : Hp} {A : List Addr} {σ : L2.St} {η : Nv} (E : EnvD K H A σ η) (vs : List Nat) : EnvD K H A (wipe σ vs) (wipeE η vs) where
  len := by rw [wipe_length, wipeE_length, E.len]
  at_ := fun j s e => by
    rw [wipeE_get] at e
    rw [wipe_get]
    split at e
    · rename_i hj
      cases q : η[j]? with
      | none => rw [q] at e; cases e
      | some s0 =>
        rw [q] at e
        cases e
        obtain ⟨o, e1, _⟩ := E.at_ j s0 q
        exact ⟨none, by rw [if_pos hj, e1]; rfl, trivial⟩
    · rename_i hj
      rw [if_neg hj]
      exact E.at_ j s e
  ap := fun j k a xs ys e1 e2 e3 e4 => by
    rw [wipeE_get] at e1 e2
    rw [wipe_get] at e3 e4
    split at e1
    · cases q : η[j]? <;> (rw [q] at e1; cases e1)
    · rename_i hj
      rw [if_neg hj] at e3
      split at e2
      · cases q : η[k]? <;> (rw [q] at e2; cases e2)
      · rename_i hk
        rw [if_neg hk] at e4
        exact E.ap j k a xs ys e1 e2 e3 e4
  tr := E.tr
/-- .. where nothing is raised -/
def R.bindN {α β : Type} : R α → (α → R β) → R β
  | .ok a, f => f a
  | _, _ => .no
@[simp] theorem R.ok_bindN {α β : Type} (a : α) (f : α → R β) : (R.ok a).bindN f = f a := Eq.trans rfl rfl
theorem R.bindN_ok {α β : Type} {r : R α} {f : α → R β} {y : β} (h : r.bindN f = .ok y) : ∃ x, r = .ok x ∧ f x = .ok y := by
  cases r with
  | ok a => exact ⟨a, rfl, h⟩
  | ex c w p => cases h
  | no => cases h
def compD (T : Tgt) (C : Nv → R Bool) (El : Nv → R D) (η : Nv) : List D → R (List D)
  | [] => .ok []
  | x :: xs => match T x η with
    | none => .no
    | some η1 => (C η1).bindN fun b => if b then (El η1).bindN fun y => (compD T C El η xs).bindN fun ys => .ok (y :: ys) else compD T C El η xs
def compE (Fi : Nv → R (List D)) (T : Tgt) (C : Nv → R Bool) (El : Nv → R D) (vs : List Nat) : Nv → R D := fun η => (Fi η).bind fun xs => (compD T C El (wipeE η vs) xs).bindN fun ys => if ys.length ≤ lineN then .ok (.list ys) else .no
def W0 : WX := fun _ _ _ _ => False
theorem stored_wipe {σ σ' : L2.St} {η η' : Nv} {js vs : List Nat} (S : Stored (wipe σ vs) σ' η η' js) (h : ∀ j ∈ js, j ∈ vs) (hl : σ'.length = σ.length) : wipe σ' vs = wipe σ vs := by
  apply List.ext_getElem?
  intro j
  rw [wipe_get, wipe_get]
  by_cases hj : j ∈ vs
  · rw [if_pos hj, if_pos hj]
    by_cases hb : j < σ.length
    · rw [List.getElem?_eq_getElem hb, List.getElem?_eq_getElem (by rw [hl]; exact hb)]
      rfl
    · rw [List.getElem?_eq_none (by omega), List.getElem?_eq_none (by omega)]
  · rw [if_neg hj, if_neg hj, S.rest j fun m => hj (h j m), wipe_get, if_neg hj]
theorem lc_t {Fi : Nv → R (List D)} {T : Tgt} {js vs : List Nat} {C : Nv → R Bool} {El : Nv → R D} (hj : ∀ j ∈ js, j ∈ vs) {σ : L2.St} {H : Hp} {Q : VK} (h : tR X.K X.mg W (rF X.K) (compE Fi T C El vs) σ H Q) :
    tLc (tI X.K X.mg W Fi) (gD X.K T js) (tT X.K X.mg W0 C) (tR X.K X.mg W0 (rD X.K) El) vs σ H Q := by
  obtain ⟨η, A, E, p0⟩ := h
  have p : Post X.K X.mg W (rF X.K) σ A H ((Fi η).bind fun xs => (compD T C El (wipeE η vs) xs).bindN fun ys => if ys.length ≤ lineN then .ok (.list ys) else .no) Q := p0
  refine (show tI X.K X.mg W Fi σ H _ from ⟨η, A, E, ?_⟩)
  cases e1 : Fi η with
  | ex c w q => rw [e1] at p; exact p
  | no => rw [e1] at p; exact p
  | ok ds =>
    rw [e1] at p
    have p : Post X.K X.mg W (rF X.K) σ A H ((compD T C El (wipeE η vs) ds).bindN fun ys => if ys.length ≤ lineN then .ok (.list ys) else .no) Q := p
    cases e2 : compD T C El (wipeE η vs) ds with
    | ex c w q => rw [e2] at p; exact False.elim p
    | no => rw [e2] at p; exact False.elim p
    | ok ys =>
      rw [e2] at p
      have p : Post X.K X.mg W (rF X.K) σ A H (if ys.length ≤ lineN then .ok (.list ys) else .no) Q := p
      split at p
      · rename_i hz
        intro J H1 s1 wk M nM
        have E1 := E.same s1
        refine ⟨fun i m H2 => m + i = ds.length ∧ Same H1 H2 ∧ ∃ done rest acc, ys = done ++ rest ∧ compD T C El (wipeE η vs) (ds.drop i) = .ok rest ∧ H2 M = some (.lst acc) ∧ DpAll X.K (hid (M :: A) H2) acc done,
          ⟨ds.length, rfl, same_new nM, [], ys, [], rfl, e2, upd_same, .nil⟩, fun i m H2 hw => ?_⟩
        obtain ⟨em, s2, done, rest, acc, ey, er, hM, hd⟩ := hw
        have sh : Same (hid A H1) (hid (M :: A) H2) := hid_new s2 nM
        have E2 : EnvD X.K H2 (M :: A) σ η := E1.new s2 nM (by rw [hM]; exact fun z => nomatch z)
        cases hx : ds[i]? with
        | none =>
          have hi : ds.length ≤ i := List.getElem?_eq_none_iff.mp hx
          have ei : i = ds.length := by omega
          subst ei
          rw [List.drop_length] at er
          have er : R.ok ([] : List D) = .ok rest := er
          cases er
          rw [List.append_nil] at ey
          subst ey
          exact .inl ⟨wk.stop _ _ sh, p _ H2 (s1.trans s2) ⟨M, acc, _, rfl, rfl, s1.free nM, hM, hd⟩⟩
        | some x =>
          have hi : i < ds.length := (List.getElem?_eq_some_iff.mp hx).1
          have ed : ds.drop i = x :: ds.drop (i + 1) := by
            rw [List.drop_eq_getElem_cons hi]
            congr 1
            exact (List.getElem?_eq_some_iff.mp hx).2
          obtain ⟨g1, g2⟩ := wk.step i x hx _ _ sh E2.tr
          refine .inr ⟨g1, fun H' => ∃ m', m' < m ∧ (m' + (i + 1) = ds.length ∧ Same H1 H' ∧ ∃ done rest acc, ys = done ++ rest ∧ compD T C El (wipeE η vs) (ds.drop (i + 1)) = .ok rest ∧ H' M = some (.lst acc) ∧ DpAll X.K (hid (M :: A) H') acc done), fun H' hN => hN, fun v H3 y => ?_⟩
          obtain ⟨s3, qv⟩ := g2 v H3 y
          rw [ed] at er
          unfold compD at er
          cases et : T x (wipeE η vs) with
          | none => rw [et] at er; cases er
          | some η1 =>
            rw [et] at er
            obtain ⟨bk, ec, er⟩ := R.bindN_ok er
            refine ⟨wipeE η vs, M :: A, x, η1, (E2.same s3).wipe vs, qv, et, fun σ2 E3 S => ⟨stored_wipe S hj (S.len.trans (wipe_length σ vs)), ?_⟩⟩
            · refine (show tT X.K X.mg W0 C σ2 H3 _ from ⟨η1, M :: A, E3, ?_⟩)
              rw [ec]
              intro H4 s4
              cases bk with
              | false =>
                refine iteF ⟨m - 1, by omega, by omega, (s2.trans s3).trans s4, done, rest, acc, ey, er, s4 _ _ (s3 _ _ hM), DpAll_mono hd (hid_same (s3.trans s4))⟩
              | true =>
                obtain ⟨y, ee, er⟩ := R.bindN_ok er
                obtain ⟨rest', er', e3⟩ := R.bindN_ok er
                cases e3
                refine iteT (show tR X.K X.mg W0 (rD X.K) El σ2 H4 _ from ⟨η1, M :: A, E3.same s4, ?_⟩)
                rw [ee]
                intro w H5 s5 qw
                have sM : H5 M = some (.lst acc) := s5 _ _ (s4 _ _ (s3 _ _ hM))
                have hidM : hid (M :: A) (upd H5 M (.lst (acc ++ [w]))) = hid (M :: A) H5 := hid_upd List.mem_cons_self
                have hl : acc.length = done.length := DpAll_length hd
                refine ⟨acc, sM, ?_, m - 1, by omega, by omega, ?_, done ++ [y], rest', acc ++ [w], by rw [ey, List.append_assoc]; rfl, er', upd_same, ?_⟩
                · rw [line_eq, hl]
                  have : ys.length = done.length + (rest'.length + 1) := by rw [ey, List.length_append, List.length_cons]
                  omega
                · intro b o eb
                  rw [upd_ne fun z => by subst z; rw [nM] at eb; cases eb]
                  exact s5 _ _ (s4 _ _ (s3 _ _ (s2 _ _ eb)))
                · rw [hidM]
                  exact DpAll_append (DpAll_mono hd (hid_same ((s3.trans s4).trans s5))) (.cons qw .nil)
      · exact False.elim p
end
end Bd
/-! D5: comprehensions as values; statements; defs and their calls. -/
namespace Bd
open PySem L2

section
variable {X : Cx} {W : WX} {rl : Rl} {a b c e tg iter elt : Expr} {Fa Fb Fc F : Nv → R D} {Ga Gb G : Nv → R Bool} {pos : Pos}
theorem cs_nil {X : Cx} : PTs X [] (tT X.K X.mg W0 fun _ => .ok true) := ⟨fun pins s σ H Q I q => pts_nil.run pins s σ H Q I (by obtain ⟨η, A, E, p⟩ := q; exact p H (Same.refl _))⟩
theorem cs_one {X : Cx} {c : Expr} {G : Nv → R Bool} (h : TB X W0 c G) : PTs X [c] (tT X.K X.mg W0 G) := pts_one h
section
variable {ifs : List Expr} {scope : Scope} {own : List (Str × Nat)} {Fi : Nv → R (List D)} {T : Tgt} {js : List Nat} {C : Nv → R Bool} {El : Nv → R D}
theorem t_lc (hc : X.calm = true) (hN : X.N.Nodup) (hi : TI' X W tg iter Fi) (ok : BlkOk X.N X.env.scope scope own)
    (hg : ∀ (s : Shared) (H : Hp) (C : Addr) (cl : List (Str × Addr)) (fp : List Addr), TT' (X.blk s H scope (compEnvC scope cl C X.env) fp) tg T js)
    (ht : ∀ (s : Shared) (H : Hp) (D : Addr) (cl : List (Str × Addr)) (fp : List Addr), PTs (X.blk s H scope (compEnvC scope cl D X.env) fp) ifs (tT X.K X.mg W0 C))
    (he : ∀ (s : Shared) (H : Hp) (D : Addr) (cl : List (Str × Addr)) (fp : List Addr), TD (X.blk s H scope (compEnvC scope cl D X.env) fp) W0 elt El)
    {vs : List Nat} (hv : own.map (·.2) = vs := by rfl) (hj : ∀ j ∈ js, j ∈ own.map (·.2) := by decide) (hs : ∀ x, foldedSetIterable iter X.env x = pure x := by intro _; rfl) : TF X W (.ListComp elt [⟨tg, iter, ifs, 0⟩] scope pos) (compE Fi T C El vs) := by
  subst hv
  exact peW (pe_lc hc hN hi ok (fun s H C cl fp => show PG _ tg (gD X.K T js) from hg s H C cl fp) ht (fun s H C cl fp => show PE _ elt (tR X.K X.mg W0 (rD X.K) El) from he s H C cl fp) hs) fun σ H Q h => lc_t hj h
end

/-! ### statements -/
structure EnvS (K : PySem.W.Frag) (H0 : Hp) (A0 : List Addr) (H : Hp) (B : List Addr) (σ : L2.St) (η : Nv) : Prop where
  env : EnvD K H (B ++ A0) σ η
  same : Same H0 H
  new : ∀ p ∈ B, H0 p = none
  own : ∀ (i : Nat) (a : Addr) (xs : List D), η[i]? = some (.own xs) → σ[i]? = some (some (.ref a)) → a ∈ B
inductive Rs where
  | nx (η : Nv) | rt (d : D) | bk (η : Nv) | ct (η : Nv) | ex (c w : Str) (p : D) | no
/-- where a statement leads -/
def Goes (K : PySem.W.Frag) (H0 : Hp) (A0 : List Addr) (H : Hp) (B : List Addr) (η : Nv) (P : L2.St → Hp → Prop) : Prop :=
  ∀ σ' H' B', EnvS K H0 A0 H' B' σ' η → Same (hid (B ++ A0) H) (hid (B' ++ A0) H') → P σ' H'
def PostS (K : PySem.W.Frag) (mg : Str → Option Value) (W : WX) (rl : Rl) (H0 : Hp) (A0 : List Addr) (H : Hp) (B : List Addr) (r : Rs) (E : Ends) : Prop :=
  match r with
  | .nx η => Goes K H0 A0 H B η E.nx
  | .bk η => Goes K H0 A0 H B η E.bk
  | .ct η => Goes K H0 A0 H B η E.ct
  | .rt d => ∀ v H', Same H0 H' → rl H0 H' A0 v d → E.rt v H'
  | .ex c w p => ∀ cls dd σ' H', Same H0 H' → ExR K mg (hid A0 H') cls dd c w p → W cls dd σ' H'
  | .no => False
theorem PostS.keep {K : PySem.W.Frag} {mg : Str → Option Value} {H0 : Hp} {A0 : List Addr} {H H1 : Hp} {B B1 : List Addr} {r : Rs} {E : Ends} (s : Same (hid (B ++ A0) H) (hid (B1 ++ A0) H1)) (h : PostS K mg W rl H0 A0 H B r E) : PostS K mg W rl H0 A0 H1 B1 r E := by
  cases r with
  | nx η => exact fun σ' H' B' e q => h σ' H' B' e (s.trans q)
  | bk η => exact fun σ' H' B' e q => h σ' H' B' e (s.trans q)
  | ct η => exact fun σ' H' B' e q => h σ' H' B' e (s.trans q)
  | rt d => exact h
  | ex c w p => exact h
  | no => exact h
def tS (K : PySem.W.Frag) (mg : Str → Option Value) (W : WX) (rl : Rl) (H0 : Hp) (A0 : List Addr) (G : Nv → Rs) : TS := fun E σ H => ∃ η B, EnvS K H0 A0 H B σ η ∧ PostS K mg W rl H0 A0 H B (G η) E
/-- what is the same in a whole def: the wish, how its answer lies, the heap at its entry -/
structure Fx where
  W : WX
  rl : Rl
  H0 : Hp
  A0 : List Addr
def TS' (X : Cx) (f : Fx) (st : Stmt) (G : Nv → Rs) : Prop := PS X st (tS X.K X.mg f.W f.rl f.H0 f.A0 G)
def TSs (X : Cx) (f : Fx) (st : List Stmt) (G : Nv → Rs) : Prop := PSs X st (tS X.K X.mg f.W f.rl f.H0 f.A0 G)
variable {f : Fx} {st : Stmt} {sts : List Stmt} {Gs Gt : Nv → Rs}
theorem psW {t t' : TS} (h : PS X st t) (k : ∀ E σ H, t' E σ H → t E σ H) : PS X st t' := ⟨fun pins s σ H E I q => h.run pins s σ H E I (k _ _ _ q)⟩
theorem pssW {t t' : TS} (h : PSs X sts t) (k : ∀ E σ H, t' E σ H → t E σ H) : PSs X sts t' := ⟨fun pins s σ H E I q => h.run pins s σ H E I (k _ _ _ q)⟩
def Rs.bind : Rs → (Nv → Rs) → Rs
  | .nx η, f => f η
  | r, _ => r
def seqS (Gs Gt : Nv → Rs) : Nv → Rs := fun η => (Gs η).bind Gt
theorem ss_nil : TSs X f [] .nx := pssW pss_nil fun E σ H ⟨η, B, e, p⟩ => p σ H B e (Same.refl _)
theorem ss_cons (h1 : TS' X f st Gs) (h2 : TSs X f sts Gt) : TSs X f (st :: sts) (seqS Gs Gt) := pssW (pss_cons h1 h2) fun E σ H ⟨η, B, e, p0⟩ => by
  have p : PostS X.K X.mg f.W f.rl f.H0 f.A0 H B ((Gs η).bind Gt) E := p0
  refine ⟨η, B, e, ?_⟩
  cases e1 : Gs η with
  | nx η1 =>
    rw [e1] at p
    exact fun σ' H' B' e' s => ⟨η1, B', e', PostS.keep s p⟩
  | _ => rw [e1] at p; exact p
theorem s_pass : TS' X f (.Pass pos) .nx := psW ps_pass fun E σ H ⟨η, B, e, p⟩ => p σ H B e (Same.refl _)
theorem s_break : TS' X f (.Break pos) .bk := psW ps_break fun E σ H ⟨η, B, e, p⟩ => p σ H B e (Same.refl _)
theorem s_continue : TS' X f (.Continue pos) .ct := psW ps_continue fun E σ H ⟨η, B, e, p⟩ => p σ H B e (Same.refl _)
theorem EnvS.step {K : PySem.W.Frag} {H0 : Hp} {A0 : List Addr} {H H1 : Hp} {B : List Addr} {σ : L2.St} {η : Nv} (e : EnvS K H0 A0 H B σ η) (s : Same H H1) : EnvS K H0 A0 H1 B σ η := ⟨e.env.same s, e.same.trans s, e.new, e.own⟩
/-- an expression's answer, then the statement's -/
def R.toS {α : Type} : R α → (α → Rs) → Rs
  | .ok a, f => f a
  | .ex c w p, _ => .ex c w p
  | .no, _ => .no
theorem hid_app {B A : List Addr} {H : Hp} : Same (hid (B ++ A) H) (hid A H) := hid_mono fun _ m => List.mem_append_right _ m
theorem exS {K : PySem.W.Frag} {mg : Str → Option Value} {H : Hp} {A B : List Addr} {cls : Value} {dd : Option Addr} {c w : Str} {p : D} (h : ExR K mg (hid (B ++ A) H) cls dd c w p) : ExR K mg (hid A H) cls dd c w p := by
  obtain ⟨m, dx, v, rfl, e, q⟩ := h
  exact ⟨m, dx, v, rfl, hid_app _ _ e, Dp_mono q hid_app⟩
theorem toS_R {g : Nv → D → Rs} {E : Ends} {σ : L2.St} {H : Hp} (h : tS X.K X.mg f.W f.rl f.H0 f.A0 (fun η => (F η).toS (g η)) E σ H) {R1 : V → Hp → Prop}
    (k : ∀ (η : Nv) (B : List Addr) (H1 : Hp) (v : V) (d : D), EnvS X.K f.H0 f.A0 H B σ η → EnvS X.K f.H0 f.A0 H1 B σ η → Same H H1 → rl H H1 (B ++ f.A0) v d → PostS X.K X.mg f.W f.rl f.H0 f.A0 H B (g η d) E → R1 v H1) : tR X.K X.mg f.W rl F σ H R1 := by
  obtain ⟨η, B, e, p0⟩ := h
  have p : PostS X.K X.mg f.W f.rl f.H0 f.A0 H B ((F η).toS (g η)) E := p0
  refine ⟨η, B ++ f.A0, e.env, ?_⟩
  cases e1 : F η with
  | ok d =>
    rw [e1] at p
    have p : PostS X.K X.mg f.W f.rl f.H0 f.A0 H B (g η d) E := p
    exact fun v H1 s q => k η B H1 v d e (e.step s) s q p
  | ex c w q =>
    rw [e1] at p
    exact fun cls dd H' s x => p cls dd σ H' (e.same.trans s) (exS x)
  | no => rw [e1] at p; exact p
/-- name = e -/
def setS (i : Nat) (F : Nv → R D) : Nv → Rs := fun η => (F η).toS fun x => .nx (η.set i (.d x))
theorem EnvS.set {K : PySem.W.Frag} {H0 : Hp} {A0 : List Addr} {H : Hp} {B : List Addr} {σ : L2.St} {η : Nv} {i : Nat} {v : V} {x : D} (e : EnvS K H0 A0 H B σ η) (q : Dp K (hid (B ++ A0) H) v x) : EnvS K H0 A0 H B (σ.set i (some v)) (η.set i (.d x)) where
  env := e.env.set q
  same := e.same
  new := e.new
  own := fun j a xs h1 h2 => by
    obtain ⟨n, h1⟩ := own_set h1
    rw [List.getElem?_set_ne fun z => n z.symm] at h2
    exact e.own j a xs h1 h2
theorem s_set (i : Nat) {x : Str} {pos' : Pos} (hN : X.N.Nodup) (he : TD X f.W e F) (hi : X.N[i]? = some x := by rfl) (hx : Loc X.env.scope x := by first | exact Or.inl rfl | exact Or.inr rfl) (hs : swapsWith e (some (.Name x pos')) pos.line X.env = pure false := by rfl)
    (hf : X.fn x = true ∨ X.env.scope.names.lookup x = some .local := by first | exact .inl rfl | exact .inr rfl) : TS' X f (.Assign [.Name x pos'] e pos) (setS i F) :=
  psW (ps_set hN hi hx he hs hf) fun E σ H h => toS_R h fun η B H1 v d e0 e s q p => p _ H1 B (e.set q) (hid_same s)
/-- target = e -/
def asgS (T : Tgt) (F : Nv → R D) : Nv → Rs := fun η => (F η).toS fun x => match T x η with
  | some η' => .nx η'
  | none => .no
theorem s_asg {T : Tgt} {js : List Nat} (he : TD X f.W e F) (hg : TT' X tg T js) (hs : swapsWithSole [tg] e pos.line X.env = pure false := by rfl) (hw : swappedStores [tg] e X.env = pure none := by rfl) (h1 : (assignEach [tg] X.env).map (·.2) = [assign tg X.env] := by rfl) :
    TS' X f (.Assign [tg] e pos) (asgS T F) :=
  psW (ps_asg he hg hs hw h1) fun E σ H h => toS_R h fun η B H1 v d e0 e s q p => by
    cases et : T d η with
    | none => rw [et] at p; exact False.elim p
    | some η' =>
      rw [et] at p
      refine ⟨η, B ++ f.A0, d, η', e.env, q, et, fun σ' E' S => p σ' H1 B ⟨E', e.same, e.new, fun j a xs h1 h2 => ?_⟩ (hid_same s)⟩
      obtain ⟨n, h1⟩ := S.own j xs h1
      rw [S.rest j n] at h2
      exact e.own j a xs h1 h2
/-- name = a new list, the def's own -/
def ownS (i : Nat) (F : Nv → R D) : Nv → Rs := fun η => (F η).toS fun x => match x with
  | .list xs => .nx (η.set i (.own xs))
  | _ => .no
theorem EnvS.setOwn {K : PySem.W.Frag} {H0 : Hp} {A0 : List Addr} {H H1 : Hp} {B : List Addr} {σ : L2.St} {η : Nv} {i : Nat} {p : Addr} {vs : List V} {xs : List D} (e : EnvS K H0 A0 H B σ η) (s : Same H H1) (hp : H p = none) (hp1 : H1 p = some (.lst vs)) (q : DpAll K (hid (p :: (B ++ A0)) H1) vs xs) :
    EnvS K H0 A0 H1 (p :: B) (σ.set i (some (.ref p))) (η.set i (.own xs)) := by
  have E1 : EnvD K H1 (p :: (B ++ A0)) σ η := e.env.new s hp (by rw [hp1]; exact fun z => nomatch z)
  have gt : ∀ (j : Nat) (sl : Sl), (η.set i (.own xs))[j]? = some sl → (j = i ∧ i < η.length ∧ sl = .own xs) ∨ (j ≠ i ∧ η[j]? = some sl) := fun j sl h => by
    by_cases hj : i = j
    · subst hj
      by_cases hl : i < η.length
      · rw [List.getElem?_set_self hl] at h
        cases h
        exact .inl ⟨rfl, hl, rfl⟩
      · rw [List.getElem?_eq_none (by rw [List.length_set]; omega)] at h
        cases h
    · rw [List.getElem?_set_ne hj] at h
      exact .inr ⟨fun z => hj z.symm, h⟩
  have ot : ∀ j, j ≠ i → (σ.set i (some (.ref p)))[j]? = σ[j]? := fun j n => List.getElem?_set_ne fun z => n z.symm
  have oi : i < η.length → (σ.set i (some (.ref p)))[i]? = some (some (.ref p)) := fun hl => List.getElem?_set_self (by rw [e.env.len]; exact hl)
  have fr : ∀ (j : Nat) (ys : List D), η[j]? = some (.own ys) → σ[j]? ≠ some (some (.ref p)) := fun j ys h z => by
    obtain ⟨o, e1, q1⟩ := e.env.at_ j _ h
    rw [z] at e1
    cases e1
    obtain ⟨_, ws, e2, _⟩ := q1
    rw [hp] at e2
    cases e2
  refine ⟨⟨by rw [List.length_set, List.length_set, e.env.len], fun j sl h => ?_, fun j k a ys zs h1 h2 h3 h4 => ?_, E1.tr⟩, e.same.trans s, fun b m => ?_, fun j a ys h1 h2 => ?_⟩
  · rcases gt j sl h with ⟨rfl, hl, rfl⟩ | ⟨n, h⟩
    · exact ⟨_, oi hl, List.mem_cons_self, vs, hp1, q⟩
    · rw [ot j n]
      exact E1.at_ j sl h
  · rcases gt j _ h1 with ⟨ej, hl, _⟩ | ⟨n, g1⟩
    · rcases gt k _ h2 with ⟨ek, _, _⟩ | ⟨n2, g2⟩
      · rw [ej, ek]
      · rw [ej, oi hl] at h3
        cases h3
        rw [ot k n2] at h4
        exact absurd h4 (fr k zs g2)
    · rcases gt k _ h2 with ⟨ek, hl, _⟩ | ⟨n2, g2⟩
      · rw [ek, oi hl] at h4
        cases h4
        rw [ot j n] at h3
        exact absurd h3 (fr j ys g1)
      · rw [ot j n] at h3
        rw [ot k n2] at h4
        exact E1.ap j k a ys zs g1 g2 h3 h4
  · rcases List.mem_cons.mp m with rfl | m
    · exact e.same.free hp
    · exact e.new b m
  · rcases gt j _ h1 with ⟨rfl, hl, _⟩ | ⟨n, h1⟩
    · rw [oi hl] at h2
      cases h2
      exact List.mem_cons_self
    · rw [ot j n] at h2
      exact List.mem_cons_of_mem _ (e.own j a ys h1 h2)
theorem s_own (i : Nat) {x : Str} {pos' : Pos} (hN : X.N.Nodup) (he : TF X f.W e F) (hi : X.N[i]? = some x := by rfl) (hx : Loc X.env.scope x := by first | exact Or.inl rfl | exact Or.inr rfl) (hs : swapsWith e (some (.Name x pos')) pos.line X.env = pure false := by rfl)
    (hf : X.fn x = true ∨ X.env.scope.names.lookup x = some .local := by first | exact .inl rfl | exact .inr rfl) : TS' X f (.Assign [.Name x pos'] e pos) (ownS i F) :=
  psW (ps_set hN hi hx he hs hf) fun E σ H h => toS_R h fun η B H1 v d e0 e s q p => by
    obtain ⟨l, vs, ds, rfl, rfl, hp, hp1, qs⟩ := q
    exact p _ H1 (l :: B) (e0.setOwn s hp hp1 qs) (hid_new s hp)
/-- name = [.. for ..] -/
theorem s_setLc (i : Nat) {y : Str} {py spos : Pos} {ifs : List Expr} {scope : Scope} {own : List (Str × Nat)} {Fi : Nv → R (List D)} {T : Tgt} {js : List Nat} {C : Nv → R Bool} {El : Nv → R D} (hc : X.calm = true) (hN : X.N.Nodup)
    (hsw : swapsWith (.ListComp elt [⟨tg, iter, ifs, 0⟩] scope pos) (some (.Name y py)) spos.line X.env = pure true) (hi : TI' X f.W tg iter Fi) (ok : BlkOk X.N X.env.scope scope own)
    (hg : ∀ (s : Shared) (H : Hp) (C : Addr) (cl : List (Str × Addr)) (fp : List Addr), TT' (X.blk s H scope (compEnvC scope cl C X.env) fp) tg T js)
    (ht : ∀ (s : Shared) (H : Hp) (D : Addr) (cl : List (Str × Addr)) (fp : List Addr), PTs (X.blk s H scope (compEnvC scope cl D X.env) fp) ifs (tT X.K X.mg W0 C))
    (he : ∀ (s : Shared) (H : Hp) (D : Addr) (cl : List (Str × Addr)) (fp : List Addr), TD (X.blk s H scope (compEnvC scope cl D X.env) fp) W0 elt El)
    (hy : X.N[i]? = some y := by rfl) (hyl : X.env.scope.names.lookup y = some .local := by rfl) {vs : List Nat} (hv : own.map (·.2) = vs := by rfl) (hj : ∀ j ∈ js, j ∈ own.map (·.2) := by decide) (hs : ∀ x, foldedSetIterable iter X.env x = pure x := by intro _; rfl) :
    TS' X f (.Assign [.Name y py] (.ListComp elt [⟨tg, iter, ifs, 0⟩] scope pos) spos) (setS i (compE Fi T C El vs)) := by
  subst hv
  exact psW (ps_setLc hc hN hy hyl hsw hi ok (fun s H C cl fp => show PG _ tg (gD X.K T js) from hg s H C cl fp) ht (fun s H C cl fp => show PE _ elt (tR X.K X.mg W0 (rD X.K) El) from he s H C cl fp) hs) fun E σ H h =>
    lc_t hj (toS_R h fun η B H1 v d e0 e s q p => p _ H1 B (e.set (rF_D (fun _ hp => e0.env.fresh hp) q)) (hid_same s))
theorem s_ownLc (i : Nat) {y : Str} {py spos : Pos} {ifs : List Expr} {scope : Scope} {own : List (Str × Nat)} {Fi : Nv → R (List D)} {T : Tgt} {js : List Nat} {C : Nv → R Bool} {El : Nv → R D} (hc : X.calm = true) (hN : X.N.Nodup)
    (hsw : swapsWith (.ListComp elt [⟨tg, iter, ifs, 0⟩] scope pos) (some (.Name y py)) spos.line X.env = pure true) (hi : TI' X f.W tg iter Fi) (ok : BlkOk X.N X.env.scope scope own)
    (hg : ∀ (s : Shared) (H : Hp) (C : Addr) (cl : List (Str × Addr)) (fp : List Addr), TT' (X.blk s H scope (compEnvC scope cl C X.env) fp) tg T js)
    (ht : ∀ (s : Shared) (H : Hp) (D : Addr) (cl : List (Str × Addr)) (fp : List Addr), PTs (X.blk s H scope (compEnvC scope cl D X.env) fp) ifs (tT X.K X.mg W0 C))
    (he : ∀ (s : Shared) (H : Hp) (D : Addr) (cl : List (Str × Addr)) (fp : List Addr), TD (X.blk s H scope (compEnvC scope cl D X.env) fp) W0 elt El)
    (hy : X.N[i]? = some y := by rfl) (hyl : X.env.scope.names.lookup y = some .local := by rfl) {vs : List Nat} (hv : own.map (·.2) = vs := by rfl) (hj : ∀ j ∈ js, j ∈ own.map (·.2) := by decide) (hs : ∀ x, foldedSetIterable iter X.env x = pure x := by intro _; rfl) :
    TS' X f (.Assign [.Name y py] (.ListComp elt [⟨tg, iter, ifs, 0⟩] scope pos) spos) (ownS i (compE Fi T C El vs)) := by
  subst hv
  exact psW (ps_setLc hc hN hy hyl hsw hi ok (fun s H C cl fp => show PG _ tg (gD X.K T js) from hg s H C cl fp) ht (fun s H C cl fp => show PE _ elt (tR X.K X.mg W0 (rD X.K) El) from he s H C cl fp) hs) fun E σ H h =>
    lc_t hj (toS_R h fun η B H1 v d e0 e s q p => by
      obtain ⟨l, vs, ds, rfl, rfl, hp, hp1, qs⟩ := q
      exact p _ H1 (l :: B) (e0.setOwn s hp hp1 qs) (hid_new s hp))
/-- an expression alone -/
def exprS (F : Nv → R D) : Nv → Rs := fun η => (F η).toS fun _ => .nx η
theorem s_expr (he : TD X f.W e F) (hs : swapsWith e none pos.line X.env = pure false := by rfl) : TS' X f (.Expr e pos) (exprS F) :=
  psW (ps_expr he hs) fun E σ H h => toS_R h fun η B H1 v d e0 e s q p => p σ H1 B e (hid_same s)
/-- name.append(e), the list the def's own -/
def appS (i : Nat) (F : Nv → R D) : Nv → Rs := fun η => match η[i]? with
  | some (.own xs) => (F η).toS fun y => if xs.length < lineN then .nx (η.set i (.own (xs ++ [y]))) else .no
  | _ => .no
theorem EnvS.app {K : PySem.W.Frag} {H0 : Hp} {A0 : List Addr} {H : Hp} {B : List Addr} {σ : L2.St} {η : Nv} {i : Nat} {a : Addr} {vs : List V} {w : V} {xs : List D} {y : D} (e : EnvS K H0 A0 H B σ η) (hi : η[i]? = some (.own xs)) (ho : σ[i]? = some (some (.ref a))) (ha : H a = some (.lst vs)) (qa : DpAll K (hid (B ++ A0) H) vs xs)
    (qw : Dp K (hid (B ++ A0) H) w y) : EnvS K H0 A0 (upd H a (.lst (vs ++ [w]))) B σ (η.set i (.own (xs ++ [y]))) := by
  have hB : a ∈ B := e.own i a xs hi ho
  have hA : a ∈ B ++ A0 := List.mem_append_left _ hB
  have eh : hid (B ++ A0) (upd H a (.lst (vs ++ [w]))) = hid (B ++ A0) H := hid_upd hA
  have hl : i < η.length := (List.getElem?_eq_some_iff.mp hi).1
  have gt : ∀ (j : Nat) (sl : Sl), (η.set i (.own (xs ++ [y])))[j]? = some sl → (j = i ∧ sl = .own (xs ++ [y])) ∨ (j ≠ i ∧ η[j]? = some sl) := fun j sl h => by
    by_cases hj : i = j
    · subst hj
      rw [List.getElem?_set_self hl] at h
      cases h
      exact .inl ⟨rfl, rfl⟩
    · rw [List.getElem?_set_ne hj] at h
      exact .inr ⟨fun z => hj z.symm, h⟩
  refine ⟨⟨by rw [List.length_set, e.env.len], fun j sl h => ?_, fun j k b ys zs h1 h2 h3 h4 => ?_, fun b m => ?_⟩, fun b o z => ?_, e.new, fun j b ys h1 h2 => ?_⟩
  · rcases gt j sl h with ⟨rfl, rfl⟩ | ⟨n, h⟩
    · exact ⟨_, ho, hA, vs ++ [w], upd_same, by rw [eh]; exact DpAll_append qa (.cons qw .nil)⟩
    · obtain ⟨o, e1, q⟩ := e.env.at_ j sl h
      refine ⟨o, e1, ?_⟩
      cases sl with
      | no => cases o <;> trivial
      | d x =>
        cases o with
        | none => exact q
        | some v =>
          show Dp K (hid (B ++ A0) (upd H a _)) v x
          rw [eh]
          exact q
      | own zs =>
        match o, q, e1 with
        | some (.ref b), ⟨m, ws, e2, q⟩, e1 =>
          have nb : b ≠ a := fun z => by
            subst z
            exact n (e.env.ap j i b zs xs h hi e1 ho)
          refine ⟨m, ws, by rw [upd_ne nb]; exact e2, ?_⟩
          rw [eh]
          exact q
  · rcases gt j _ h1 with ⟨ej, _⟩ | ⟨n, g1⟩
    · rcases gt k _ h2 with ⟨ek, _⟩ | ⟨n2, g2⟩
      · rw [ej, ek]
      · rw [ej] at h3 ⊢
        exact e.env.ap i k b xs zs hi g2 h3 h4
    · rcases gt k _ h2 with ⟨ek, _⟩ | ⟨n2, g2⟩
      · rw [ek] at h4 ⊢
        exact e.env.ap j i b ys xs g1 hi h3 h4
      · exact e.env.ap j k b ys zs g1 g2 h3 h4
  · by_cases hb : b = a
    · rw [hb, upd_same]
      exact fun z => nomatch z
    · rw [upd_ne hb]
      exact e.env.tr b m
  · have nb : b ≠ a := fun q => by
      rw [q, e.new a hB] at z
      cases z
    rw [upd_ne nb]
    exact e.same b o z
  · rcases gt j _ h1 with ⟨ej, _⟩ | ⟨n, g1⟩
    · rw [ej] at h2
      exact e.own i b xs hi h2
    · exact e.own j b ys g1 h2
theorem s_app (i : Nat) {x : Str} {p apos cpos epos : Pos} (he : TD X f.W e F) (hi : X.N[i]? = some x := by rfl) (hv : Vis X.env.scope x := by first | exact Or.inl rfl | exact Or.inr (Or.inl rfl)) (h1 : starEach [e] X.env = (false, eval e X.env) :: starEach [] X.env := by rfl)
    (hd : (x == ("__debug__" : Str)) = false := by decide) (hcd : (x == ("__classdict__" : Str)) = false := by decide)
    (hbase : attributeBase (.Name x p) "append" X.env (eval (.Name x p) X.env) = eval (.Name x p) X.env := by rfl)
    (hfew : ((backTo cpos (starEach [e] X.env)).all (fun x => !x.1) && (backToKw cpos (keywordEach [] X.env)).all (fun x => x.1.isSome) && decide ([e].length + ([] : List Keyword).length + (if ([] : List Keyword).isEmpty then 0 else 1) < 30)) = true := by rfl)
    (hline : (apos.endLine == cpos.line) = true := by rfl) (hplain : (backTo cpos (starEach [] X.env)).any (·.1) = false := by rfl) (hs : swapsWith (.Call (.Attribute (.Name x p) "append" apos) [e] [] cpos) none epos.line X.env = pure false := by rfl) :
    TS' X f (.Expr (.Call (.Attribute (.Name x p) "append" apos) [e] [] cpos) epos) (appS i F) :=
  psW (ps_expr (pe_bm PySem.F.plainAttrs_list PySem.F.slot_list_append PySem.F.type_list_append mt_append (pe_var hi hv hd hcd) (pa_cons he pa_nil h1) hbase hfew hline h1 hplain) hs) fun E σ H h => by
    obtain ⟨η, B, e0, p0⟩ := h
    have p : PostS X.K X.mg f.W f.rl f.H0 f.A0 H B (appS i F η) E := p0
    unfold appS at p
    split at p
    · rename_i xs hx
      obtain ⟨o, e1, q⟩ := e0.env.at_ i _ hx
      match o, q, e1 with
      | some (.ref a), ⟨m, vs, e2, q⟩, e1 =>
        refine ⟨.ref a, e1, .inl ⟨rfl, vs, SqL.of e2⟩, ?_⟩
        refine (show tR X.K X.mg f.W (rD X.K) F σ H _ from ⟨η, B ++ f.A0, e0.env, ?_⟩)
        cases ef : F η with
        | ex c w z =>
          rw [ef] at p
          exact fun cls dd H' s x => p cls dd σ H' (e0.same.trans s) (exS x)
        | no => rw [ef] at p; exact p
        | ok y =>
          rw [ef] at p
          have p : PostS X.K X.mg f.W f.rl f.H0 f.A0 H B (if xs.length < lineN then .nx (η.set i (.own (xs ++ [y]))) else .no) E := p
          split at p
          · rename_i hz
            intro w H1 s1 qw
            have q1 := DpAll_mono q (hid_same (A := B ++ f.A0) s1)
            refine ⟨a, vs, w, rfl, rfl, s1 _ _ e2, by rw [DpAll_length q, line_eq]; exact hz, ?_⟩
            refine p σ _ B ((e0.step s1).app hx e1 (s1 _ _ e2) q1 qw) ?_
            rw [hid_upd m]
            exact hid_same s1
          · exact False.elim p
    · exact False.elim p
/-! ### return -/
def retS (F : Nv → R D) : Nv → Rs := fun η => (F η).toS .rt
theorem s_ret (he : TD X f.W e F) (hr : f.rl = rD X.K) : TS' X f (.Return (some e) pos) (retS F) :=
  psW (ps_ret he) fun E σ H h => toS_R h fun η B H1 v d e0 e s q p => p v H1 e.same (by rw [hr]; exact Dp_mono q hid_app)
theorem s_retF (he : TF X f.W e F) (hr : f.rl = rF X.K) : TS' X f (.Return (some e) pos) (retS F) :=
  psW (ps_ret he) fun E σ H h => toS_R h fun η B H1 v d e0 e s q p => p v H1 e.same (by
    rw [hr]
    obtain ⟨l, vs, ds, rfl, rfl, hp, hp1, qs⟩ := q
    exact ⟨l, vs, ds, rfl, rfl, e0.same.free hp, hp1, DpAll_mono qs (hid_mono fun b m => (List.mem_cons.mp m).elim (fun z => by rw [z]; exact List.mem_cons_self) fun z => List.mem_cons_of_mem _ (List.mem_append_right _ z))⟩)
/-- a list of the def's own -/
def retO (i : Nat) : Nv → Rs := fun η => match η[i]? with
  | some (.own xs) => .rt (.list xs)
  | _ => .no
theorem s_retO (i : Nat) {x : Str} {p : Pos} (hr : f.rl = rF X.K) (hi : X.N[i]? = some x := by rfl) (hv : Vis X.env.scope x := by first | exact Or.inl rfl | exact Or.inr (Or.inl rfl)) (hd : (x == ("__debug__" : Str)) = false := by decide) (hcd : (x == ("__classdict__" : Str)) = false := by decide) :
    TS' X f (.Return (some (.Name x p)) pos) (retO i) := psW (ps_ret (pe_var hi hv hd hcd)) fun E σ H h => by
  obtain ⟨η, B, e0, p0⟩ := h
  have p : PostS X.K X.mg f.W f.rl f.H0 f.A0 H B (retO i η) E := p0
  unfold retO at p
  split at p
  · rename_i xs hx
    obtain ⟨o, e1, q⟩ := e0.env.at_ i _ hx
    match o, q, e1 with
    | some (.ref a), ⟨m, vs, e2, q⟩, e1 =>
      have hB := e0.own i a xs hx e1
      refine ⟨_, e1, p _ H e0.same ?_⟩
      rw [hr]
      exact ⟨a, vs, _, rfl, rfl, e0.new a hB, e2, DpAll_mono q (hid_mono fun b m => (List.mem_cons.mp m).elim (fun z => by rw [z]; exact List.mem_append_left _ hB) fun z => List.mem_append_right _ z)⟩
  · exact False.elim p
theorem s_retN (hr : f.rl = rD X.K) : TS' X f (.Return none pos) fun _ => .rt .none := psW ps_retN fun E σ H ⟨η, B, e, p⟩ => p _ H e.same (by rw [hr]; exact .non)
/-! ### if, for -/
def ifS (G : Nv → R Bool) (Gs Gt : Nv → Rs) : Nv → Rs := fun η => (G η).toS fun k => if k then Gs η else Gt η
theorem s_if {as bs : List Stmt} (hc : TB X f.W c G) (ha : TSs X f as Gs) (hb : TSs X f bs Gt) : TS' X f (.If c as bs pos) (ifS G Gs Gt) := psW (ps_if hc ha hb) fun E σ H h => by
  obtain ⟨η, B, e, p0⟩ := h
  have p : PostS X.K X.mg f.W f.rl f.H0 f.A0 H B ((G η).toS fun k => if k then Gs η else Gt η) E := p0
  refine (show tT X.K X.mg f.W G σ H _ from ⟨η, B ++ f.A0, e.env, ?_⟩)
  cases e1 : G η with
  | ex c w q =>
    rw [e1] at p
    exact fun cls dd H' s x => p cls dd σ H' (e.same.trans s) (exS x)
  | no => rw [e1] at p; exact p
  | ok k =>
    rw [e1] at p
    intro H1 s1
    have p : PostS X.K X.mg f.W f.rl f.H0 f.A0 H B (if k then Gs η else Gt η) E := p
    cases k with
    | true => exact iteT ⟨η, B, e.step s1, PostS.keep (hid_same s1) p⟩
    | false => exact iteF ⟨η, B, e.step s1, PostS.keep (hid_same s1) p⟩
def loopG (T : Tgt) (Gb : Nv → Rs) : List D → Nv → Rs
  | [], η => .nx η
  | x :: xs, η => match T x η with
    | none => .no
    | some η1 => match Gb η1 with
      | .nx η2 => loopG T Gb xs η2
      | .ct η2 => loopG T Gb xs η2
      | .bk η2 => .nx η2
      | .rt d => .rt d
      | .ex c w p => .ex c w p
      | .no => .no
def forS (Fi : Nv → R (List D)) (T : Tgt) (Gb : Nv → Rs) : Nv → Rs := fun η => (Fi η).toS fun xs => loopG T Gb xs η
theorem s_for {body : List Stmt} {Fi : Nv → R (List D)} {T : Tgt} {js : List Nat} {Gb : Nv → Rs} (hp : PassesOwn (model X.prog X.w) X.A X.env X.xe) (hc : X.calm = true) (hi : TI' X f.W tg iter Fi) (hg : TT' X tg T js) (hb : TSs X f body Gb) (hs : ∀ x, foldedSetIterable iter X.env x = pure x := by intro _; rfl) :
    TS' X f (.For tg iter body [] pos) (forS Fi T Gb) := psW (ps_for hp hc hi hg hb (hs := hs)) fun E σ H h => by
  obtain ⟨η, B, e, p0⟩ := h
  have p : PostS X.K X.mg f.W f.rl f.H0 f.A0 H B ((Fi η).toS fun xs => loopG T Gb xs η) E := p0
  refine (show tI X.K X.mg f.W Fi σ H _ from ⟨η, B ++ f.A0, e.env, ?_⟩)
  cases e1 : Fi η with
  | ex c w q =>
    rw [e1] at p
    exact fun cls dd H' s x => p cls dd σ H' (e.same.trans s) (exS x)
  | no => rw [e1] at p; exact p
  | ok ds =>
    rw [e1] at p
    have p : PostS X.K X.mg f.W f.rl f.H0 f.A0 H B (loopG T Gb ds η) E := p
    intro J H1 s1 wk
    refine ⟨fun i m σ' H' => m + i = ds.length ∧ ∃ η' B', EnvS X.K f.H0 f.A0 H' B' σ' η' ∧ Same (hid (B ++ f.A0) H1) (hid (B' ++ f.A0) H') ∧ PostS X.K X.mg f.W f.rl f.H0 f.A0 H' B' (loopG T Gb (ds.drop i) η') E,
      ⟨ds.length, rfl, η, B, e.step s1, Same.refl _, PostS.keep (hid_same s1) p⟩, fun i m σ' H' hw => ?_⟩
    obtain ⟨em, η', B', e', sh, p⟩ := hw
    cases hx : ds[i]? with
    | none =>
      have hl : ds.length ≤ i := List.getElem?_eq_none_iff.mp hx
      have ei : i = ds.length := by omega
      subst ei
      rw [List.drop_length] at p
      exact .inl ⟨wk.stop _ _ sh, p σ' H' B' e' (Same.refl _)⟩
    | some x =>
      have hl : i < ds.length := (List.getElem?_eq_some_iff.mp hx).1
      have ed : ds.drop i = x :: ds.drop (i + 1) := by
        rw [List.drop_eq_getElem_cons hl]
        congr 1
        exact (List.getElem?_eq_some_iff.mp hx).2
      obtain ⟨g1, g2⟩ := wk.step i x hx _ _ sh e'.env.tr
      rw [ed] at p
      unfold loopG at p
      cases et : T x η' with
      | none => rw [et] at p; exact False.elim p
      | some η1 =>
        rw [et] at p
        have p : PostS X.K X.mg f.W f.rl f.H0 f.A0 H' B' (match Gb η1 with
          | .nx η2 => loopG T Gb (ds.drop (i + 1)) η2
          | .ct η2 => loopG T Gb (ds.drop (i + 1)) η2
          | .bk η2 => .nx η2
          | .rt d => .rt d
          | .ex c w p => .ex c w p
          | .no => .no) E := p
        refine .inr ⟨g1, fun σ2 H2 => ∃ m', m' < m ∧ (m' + (i + 1) = ds.length ∧ ∃ η' B', EnvS X.K f.H0 f.A0 H2 B' σ2 η' ∧ Same (hid (B ++ f.A0) H1) (hid (B' ++ f.A0) H2) ∧ PostS X.K X.mg f.W f.rl f.H0 f.A0 H2 B' (loopG T Gb (ds.drop (i + 1)) η') E), fun σ2 H2 hN => hN, fun v H3 y => ?_⟩
        obtain ⟨s3, qv⟩ := g2 v H3 y
        refine ⟨η', B' ++ f.A0, x, η1, e'.env.same s3, qv, et, fun σ2 E2 S => ?_⟩
        have e2 : EnvS X.K f.H0 f.A0 H3 B' σ2 η1 := ⟨E2, e'.same.trans s3, e'.new, fun j a xs h1 h2 => by
          obtain ⟨n, h1⟩ := S.own j xs h1
          rw [S.rest j n] at h2
          exact e'.own j a xs h1 h2⟩
        have sh3 : Same (hid (B' ++ f.A0) H') (hid (B' ++ f.A0) H3) := hid_same s3
        refine (show tS X.K X.mg f.W f.rl f.H0 f.A0 Gb _ σ2 H3 from ⟨η1, B', e2, ?_⟩)
        have on : ∀ η2 : Nv, PostS X.K X.mg f.W f.rl f.H0 f.A0 H' B' (loopG T Gb (ds.drop (i + 1)) η2) E → Goes X.K f.H0 f.A0 H3 B' η2 fun σ2 H2 => ∃ m', m' < m ∧ (m' + (i + 1) = ds.length ∧ ∃ η' B', EnvS X.K f.H0 f.A0 H2 B' σ2 η' ∧ Same (hid (B ++ f.A0) H1) (hid (B' ++ f.A0) H2) ∧ PostS X.K X.mg f.W f.rl f.H0 f.A0 H2 B' (loopG T Gb (ds.drop (i + 1)) η') E) :=
          fun η2 pp σ4 H4 B4 e4 s4 => ⟨m - 1, by omega, by omega, η2, B4, e4, (sh.trans sh3).trans s4, PostS.keep (sh3.trans s4) pp⟩
        cases eb : Gb η1 with
        | nx η2 => rw [eb] at p; exact on η2 p
        | ct η2 => rw [eb] at p; exact on η2 p
        | bk η2 =>
          rw [eb] at p
          exact fun σ4 H4 B4 e4 s4 => p σ4 H4 B4 e4 (sh3.trans s4)
        | rt d => rw [eb] at p; exact p
        | ex c w q => rw [eb] at p; exact p
        | no => rw [eb] at p; exact p
end
end Bd
/-! D6: defs and their calls by data; built-ins. -/
namespace Bd
open PySem L2

/-! ### a def's promise, where no repr is going on -/
structure FnG (P : Program) (w : World) (K : PySem.W.Frag) (mg : Str → Option Value) (base : Heap) (k : Nat) (f : Addr) (fd : FuncData) (ps : List Str) (sp : Sp) : Prop where
  len : ∀ vs H Q E, sp vs H Q E → vs.length = ps.length
  run : ∀ (A : Around) (outer : List Env) (s : Shared) (H : Hp) (args : Args) (us : List Value) (vs : List V) (Q : VK) (E : XK), Room k A → A.guards = some [] → Env0 P w K mg base A outer s H → BindsTo s fd args (ps.zip us) → Vals vs us →
    sp vs H Q E → codeAny (model P w) A (.call (.ref f) args) (CR (L2.CX P w) outer P w H s Q E) s
theorem FnG.mono {P : Program} {w : World} {K : PySem.W.Frag} {mg : Str → Option Value} {base : Heap} {j k : Nat} {f : Addr} {fd : FuncData} {ps : List Str} {sp : Sp} (F : FnG P w K mg base j f fd ps sp) (h : j ≤ k) : FnG P w K mg base k f fd ps sp :=
  ⟨F.len, fun A o s H as us vs Q E hr => F.run A o s H as us vs Q E (hr.mono h)⟩
section
variable {P : Program} {w : World} {K : PySem.W.Frag} {mg : Str → Option Value} {base : Heap}
theorem okG {x qual : Str} {st : Stmt} {f : Addr} {fd : FuncData} {N ps : List Str} {k : Nat} {sp : Sp} (F : Fun K x qual st f fd) (S : FnScope N ps (defScope st)) (len : ∀ vs H Q E, sp vs H Q E → vs.length = ps.length)
    (hbody : ∀ (cdv : Value) (A : Around) (outer : List Env) (s : Shared) (H : Hp) (vs : List V) (Q : VK) (E : XK), Room k (A.deeper (PyProof.Rows.envOfC qual (defScope st) s.heap.objs.size f cdv)) → A.guards = some [] → sp vs H Q E →
      ∃ t, PSs (cxOf (L2.CX P w) P w K mg base N qual (defScope st) f cdv A outer s H E) (defBody st) t ∧ t { nx := fun _ H' => Q .non H', rt := Q } (L2.start N vs) H) : FnG P w K mg base (k + 1) f fd ps sp := by
  obtain ⟨oc, od, kV, doc, pm, an, cdv, ct, osl, rfl, lk, hcd⟩ := F.ex
  refine ⟨len, fun A outer s H args us vs Q E room gds env bnd rel prm => ?_⟩
  have lenV := len vs H Q E prm
  have Kin : K.In s.heap := env.mod.kin.keeps fun b o e => (env.bs b o e).1
  have nolim : s.heap.NoLimit := env.mod.nolimit.keeps fun b o e => (env.bs b o e).1
  have kinds : ∀ y ∈ ps.zip us, (defScope st).names.lookup y.1 = some .local ∨ ((defScope st).names.lookup y.1 = some .cell ∧ ((cellsFrom (s.heap.objs.size + 1) (defScope st).names []).lookup y.1).isSome = true) := by
    rintro ⟨n, v⟩ hy
    rcases S.par n (List.of_mem_zip hy).1 with h | h
    · exact .inl h
    · exact .inr ⟨h, PySem.W.cellsFrom_some _ _ _ (.inl h)⟩
  refine codeAny_call_function room.depth (Kin _ _ lk) rfl S.co S.gen rfl (PySem.W.codeRec_of Kin hcd) (bnd _ _ _ _ ?_)
  refine wpAny_newFunctionEnv_cells S.kind kinds fun e1 he s1 inc => ?_
  subst he
  refine ⟨nolim.keeps inc.toInCall.keep, codeAny_func ?_⟩
  obtain ⟨t, ht, hq⟩ := hbody cdv A outer s H vs Q E (room.deeper _) gds prm
  have I0 : Inv (cxOf (L2.CX P w) P w K mg base N qual (defScope st) f cdv A outer s H E) [] (L2.start N vs) H s1 := inv_start S room.hd env lenV rel inc
  refine wpAny_mono (ht.run [] s1 _ H _ I0 hq) (fun fl s2 out => ?_) fun _ _ out => out
  cases fl with
  | ret u =>
    obtain ⟨v, σ2, H2, J, rv, z⟩ := out
    exact ⟨v, H2, J.os, J.bare, J.base, J.hok, rv, z⟩
  | next =>
    obtain ⟨σ2, H2, J, z⟩ := out
    exact ⟨V.non, H2, J.os, J.bare, J.base, J.hok, rfl, z⟩
  | brk => exact out.elim fun _ z => z.elim fun _ z => z.2.elim
  | cont => exact out.elim fun _ z => z.elim fun _ z => z.2.elim
/-- what a def does to data -/
def spD (K : PySem.W.Frag) (mg : Str → Option Value) (rl : Rl) (n : Nat) (F : List D → R D) : Sp := fun vs H Q E => ∃ ds A, ds.length = n ∧ (∀ p ∈ A, H p ≠ none) ∧ DpAll K (hid A H) vs ds ∧ match F ds with
  | .ok d => ∀ v H', Same H H' → rl H H' A v d → Q v H'
  | .ex c w p => ∀ cls dd H', Same H H' → ExR K mg (hid A H') cls dd c w p → E cls dd H'
  | .no => False
def initD (m : Nat) (ds : List D) : Nv := ds.map Sl.d ++ List.replicate (m - ds.length) Sl.no
def runD (m : Nat) (fall : R D) (G : Nv → Rs) : List D → R D := fun ds => match G (initD m ds) with
  | .rt d => .ok d
  | .nx _ => fall
  | .ex c w p => .ex c w p
  | _ => .no
theorem env_start {H : Hp} {A : List Addr} {N : List Str} {vs : List V} {ds : List D} (hA : ∀ p ∈ A, H p ≠ none) (q : DpAll K (hid A H) vs ds) : EnvD K H A (L2.start N vs) (initD N.length ds) where
  len := by
    unfold L2.start initD
    rw [List.length_append, List.length_append, List.length_map, List.length_map, List.length_replicate, List.length_replicate, DpAll_length q]
  at_ := fun i s e => by
    have hl := DpAll_length q
    unfold initD at e
    unfold L2.start
    by_cases hi : i < ds.length
    · rw [List.getElem?_append_left (by rw [List.length_map]; exact hi), List.getElem?_map] at e
      rw [List.getElem?_append_left (by rw [List.length_map, hl]; exact hi), List.getElem?_map]
      cases hd : ds[i]? with
      | none => rw [hd] at e; cases e
      | some d =>
        rw [hd] at e
        cases e
        obtain ⟨v, hv, q1⟩ := DpAll_get q hd
        exact ⟨some v, by rw [hv]; rfl, q1⟩
    · rw [List.getElem?_append_right (by rw [List.length_map]; omega), List.length_map, List.getElem?_replicate] at e
      rw [List.getElem?_append_right (by rw [List.length_map]; omega), List.length_map, List.getElem?_replicate]
      split at e
      · rename_i h
        cases e
        exact ⟨none, by rw [if_pos (by rw [hl]; exact h)], trivial⟩
      · cases e
  ap := fun i j a xs ys e _ _ _ => by
    unfold initD at e
    by_cases hi : i < ds.length
    · rw [List.getElem?_append_left (by rw [List.length_map]; exact hi), List.getElem?_map] at e
      cases hd : ds[i]? <;> (rw [hd] at e; cases e)
    · rw [List.getElem?_append_right (by rw [List.length_map]; omega), List.getElem?_replicate] at e
      split at e <;> cases e
  tr := hA
theorem no_own {m i : Nat} {ds : List D} {xs : List D} : (initD m ds)[i]? ≠ some (.own xs) := fun e => by
  unfold initD at e
  by_cases hi : i < ds.length
  · rw [List.getElem?_append_left (by rw [List.length_map]; exact hi), List.getElem?_map] at e
    cases hd : ds[i]? <;> (rw [hd] at e; cases e)
  · rw [List.getElem?_append_right (by rw [List.length_map]; omega), List.getElem?_replicate] at e
    split at e <;> cases e
/-- THE RULE: a def by the data that its body tells -/
theorem fn_rule {x qual : Str} {st : Stmt} {f : Addr} {fd : FuncData} {N ps : List Str} {k : Nat} {rl : Rl} {fall : R D} {G : Nv → Rs} (F : Fun K x qual st f fd) (S : FnScope N ps (defScope st)) (hf : (fall = .ok .none ∧ rl = rD K) ∨ fall = .no)
    (hbody : ∀ (cdv : Value) (A : Around) (outer : List PySem.Env) (s : Shared) (H : Hp) (E : XK) (A0 : List Addr), Room k (A.deeper (PyProof.Rows.envOfC qual (defScope st) s.heap.objs.size f cdv)) → A.guards = some [] →
      TSs (cxOf (L2.CX P w) P w K mg base N qual (defScope st) f cdv A outer s H E) ⟨fun cls d _ H => E cls d H, rl, H, A0⟩ (defBody st) G) : FnG P w K mg base (k + 1) f fd ps (spD K mg rl ps.length (runD N.length fall G)) := by
  refine okG F S (fun vs H Q E h => ?_) fun cdv A outer s H vs Q E room gds prm => ?_
  · obtain ⟨ds, A, h1, _, h2, _⟩ := h
    rw [DpAll_length h2, h1]
  · obtain ⟨ds, A0, hl, hA, qd, hm⟩ := prm
    refine ⟨_, hbody cdv A outer s H E A0 room gds, ?_⟩
    refine ⟨initD N.length ds, [], ⟨env_start hA qd, Same.refl _, (fun p z => (List.not_mem_nil z).elim), fun i a xs e => absurd e no_own⟩, ?_⟩
    unfold runD at hm
    cases eg : G (initD N.length ds) with
    | rt d => rw [eg] at hm; exact hm
    | nx η =>
      rw [eg] at hm
      rcases hf with ⟨rfl, rfl⟩ | rfl
      · exact fun σ' H' B' e' _ => hm .non H' e'.same .non
      · exact False.elim hm
    | ex c w p => rw [eg] at hm; exact fun cls dd σ' H' s1 q => hm cls dd H' s1 q
    | bk η => rw [eg] at hm; exact False.elim hm
    | ct η => rw [eg] at hm; exact False.elim hm
    | no => rw [eg] at hm; exact hm
end

/-! ### calls of own defs -/
section
variable {X : Cx} {W : WX} {rl : Rl} {e : Expr} {es : List Expr} {x : Str} {p pos : Pos} {f : Addr} {fd : FuncData} {ps : List Str} {k n : Nat} {Fn : List D → R D} {Fs : Nv → R (List D)}
theorem run_g {pins : List (Addr × Obj)} {σ : L2.St} {H : Hp} {s : Shared} {Q : VK} {us : List Value} {vs : List V} {sp : Sp} {E : XK} (F : FnG X.prog X.w X.K X.mg X.base k f fd ps sp) (hr : Room k X.A) (hgd : X.A.guards = some []) (hb : Binds X.K fd ps [])
    (hx : PassesAt (L2.CX X.prog X.w) X σ E) (I : Inv X pins σ H s) (r : Vals vs us) (h : sp vs H Q E) : wpAny (model X.prog X.w) X.A (call (.ref f) us) (EP X pins σ Q) X.xe s := by
  have hl : (us ++ []).length = ps.length := by
    rw [List.append_nil, ← r.length]
    exact F.len _ _ _ _ h
  have bt := hb s us I.kIn hl
  rw [List.append_nil] at bt
  refine wpAny_call (codeAny_mono (F.run X.A X.stack s H ⟨us, []⟩ us vs Q E hr hgd I.env0 bt r h) fun res s2 out => ?_)
  match res, out with
  | .error e, out => exact hx pins H s e s2 I out
  | .ok (.ret u), out => exact I.after out
  | .ok .next, out => exact out.elim
  | .ok .brk, out => exact out.elim
  | .ok .cont, out => exact out.elim
def noex : R D → R D
  | .ok d => .ok d
  | _ => .no
/-- a def that raises nothing here -/
def callV (Fn : List D → R D) (Fs : Nv → R (List D)) : Nv → R D := fun η => (Fs η).bind fun ds => noex (Fn ds)
/-- a def that may raise -/
def callX (Fn : List D → R D) (Fs : Nv → R (List D)) : Nv → R D := fun η => (Fs η).bind Fn
theorem AllV.of_len {rv : Rv} {H : Hp} {A : List Addr} {vs : List V} {ds : List D} (h : AllV rv H A vs ds) : vs.length = ds.length := h.len
theorem call_core {g : R D → R D} (hgx : ∀ r d, g r = .ok d → r = .ok d) {Pd : Prop} (hb' : Back rl) (F : FnG X.prog X.w X.K X.mg X.base k f fd ps (spD X.K X.mg rl n Fn)) (hr : Room k X.A) (hgd : X.A.guards = some []) (hg : Gl X x) (hm : X.mg x = some (.ref f)) (hk : PySem.W.keepIn X.K (.ref f) = true) (hb : Binds X.K fd ps [])
    (hE : ∀ σ : L2.St, ∃ E : XK, PassesAt (L2.CX X.prog X.w) X σ E ∧ ∀ (A : List Addr) (H : Hp) (r : R D) (Q : VK), Post X.K X.mg W rl σ A H (g r) Q → match r with
      | .ok d => ∀ v H', Same H H' → rl H H' A v d → Q v H'
      | .ex c w p => ∀ cls dd H', Same H H' → ExR X.K X.mg (hid A H') cls dd c w p → E cls dd H'
      | .no => False)
    (ha : TAs X W (vD X.K) (e :: es) Fs) (hn : es.length + 1 = n) (hfs : ∀ η ds, Fs η = .ok ds → ds.length = n) (hdb : (x == ("__debug__" : Str)) = false) (he : starEach (e :: es) X.env = (false, eval e X.env) :: starEach es X.env) (hpl : (backTo pos (starEach es X.env)).any (·.1) = false) :
    PE X (.Call (.Name x p) (e :: es) [] pos) (tR X.K X.mg W rl fun η => (Fs η).bind fun ds => g (Fn ds)) := by
  refine ⟨fun pins s σ H Q I h => wpAny_Call_Name_kw (ld_glob I hg hm ?_ hdb)⟩
  obtain ⟨η, A, E, q0⟩ := h
  have q : Post X.K X.mg W rl σ A H ((Fs η).bind fun ds => g (Fn ds)) Q := q0
  obtain ⟨Ex, hx, hEx⟩ := hE σ
  refine PySem.W.callWith_K (h₀ := X.base) I.ok.mod.kin hk (thn (ha.run pos pins s σ H (fun vs H1 => spD X.K X.mg rl n Fn vs H1 Q Ex) I ⟨η, A, E, ?_⟩) fun us s1 ⟨vs, H1, I1, r1, q1⟩ => ⟨I1.kIn, run_g F hr hgd hb hx I1 r1 q1⟩) he hpl
  cases e1 : Fs η with
  | ex c w z => rw [e1] at q; exact q
  | no => rw [e1] at q; exact q
  | ok ds =>
    rw [e1] at q
    intro vs H1 s1 qv
    exact ⟨ds, A, hfs η ds e1, (E.same s1).tr, qv.dp, hEx A H1 (Fn ds) Q (Post.same hb' s1 q)⟩
theorem aC_len {Fa : Nv → R D} {m : Nat} (h : ∀ η ds, Fs η = .ok ds → ds.length = m) : ∀ η ds, aC Fa Fs η = .ok ds → ds.length = m + 1 := fun η ds e => by
  unfold aC at e
  cases e1 : Fa η with
  | ex c w z => rw [e1] at e; cases e
  | no => rw [e1] at e; cases e
  | ok y =>
    rw [e1] at e
    have e : ((Fs η).bind fun xs => R.ok (y :: xs)) = .ok ds := e
    cases e2 : Fs η with
    | ex c w z => rw [e2] at e; cases e
    | no => rw [e2] at e; cases e
    | ok ys =>
      rw [e2] at e
      cases e
      rw [List.length_cons, h η ys e2]
theorem a0_len : ∀ η ds, a0 η = .ok ds → ds.length = 0 := fun η ds e => by
  cases e
  rfl
theorem t_call (hb' : Back rl) (F : FnG X.prog X.w X.K X.mg X.base k f fd ps (spD X.K X.mg rl n Fn)) (hr : Room k X.A) (hgd : X.A.guards = some []) (hg : Gl X x) (hm : X.mg x = some (.ref f)) (hk : PySem.W.keepIn X.K (.ref f) = true) (hb : Binds X.K fd ps []) (ha : TAs X W (vD X.K) (e :: es) Fs) (hfs : ∀ η ds, Fs η = .ok ds → ds.length = n)
    (hn : es.length + 1 = n := by rfl) (hdb : (x == ("__debug__" : Str)) = false := by decide) (he : starEach (e :: es) X.env = (false, eval e X.env) :: starEach es X.env := by rfl) (hpl : (backTo pos (starEach es X.env)).any (·.1) = false := by rfl) :
    PE X (.Call (.Name x p) (e :: es) [] pos) (tR X.K X.mg W rl (callV Fn Fs)) :=
  call_core (g := noex) (Pd := True) (fun r d h => by cases r <;> first | exact h | cases h) hb' F hr hgd hg hm hk hb (fun σ => ⟨fun _ _ _ => False, fun pins H s e s' I c => by
      obtain ⟨_, _, _, _, _, _, _, _, _, _, _, _, z⟩ := c
      exact z.elim, fun A H r Q q => by
      cases r with
      | ok d => exact q
      | ex c w z => exact False.elim q
      | no => exact q⟩) ha hn hfs hdb he hpl
theorem t_callX (tk : Takes X W) (hb' : Back rl) (F : FnG X.prog X.w X.K X.mg X.base k f fd ps (spD X.K X.mg rl n Fn)) (hr : Room k X.A) (hgd : X.A.guards = some []) (hg : Gl X x) (hm : X.mg x = some (.ref f)) (hk : PySem.W.keepIn X.K (.ref f) = true) (hb : Binds X.K fd ps []) (ha : TAs X W (vD X.K) (e :: es) Fs) (hfs : ∀ η ds, Fs η = .ok ds → ds.length = n)
    (hn : es.length + 1 = n := by rfl) (hdb : (x == ("__debug__" : Str)) = false := by decide) (he : starEach (e :: es) X.env = (false, eval e X.env) :: starEach es X.env := by rfl) (hpl : (backTo pos (starEach es X.env)).any (·.1) = false := by rfl) :
    PE X (.Call (.Name x p) (e :: es) [] pos) (tR X.K X.mg W rl (callX Fn Fs)) :=
  call_core (g := id) (Pd := True) (fun r d h => h) hb' F hr hgd hg hm hk hb (fun σ => ⟨WE W σ, passAt tk σ, fun A H r Q q => by
      cases r with
      | ok d => exact q
      | ex c w z => exact q
      | no => exact q⟩) ha hn hfs hdb he hpl
/-- a def of the module, as its callers want it -/
def Df (P : Program) (w : World) (K : PySem.W.Frag) (mg : Str → Option Value) (base : Heap) (k : Nat) (x : Str) (n : Nat) (rl : Rl) (Fn : List D → R D) : Prop :=
  ∃ f fd ps, FnG P w K mg base k f fd ps (spD K mg rl n Fn) ∧ Binds K fd ps [] ∧ mg x = some (.ref f) ∧ PySem.W.keepIn K (.ref f) = true
theorem t_callD {j : Nat} (d : Df X.prog X.w X.K X.mg X.base j x n rl Fn) (hr : Room k X.A) (hgd : X.A.guards = some []) (ha : TAs X W (vD X.K) (e :: es) Fs) (hfs : ∀ η ds, Fs η = .ok ds → ds.length = n) (hb' : Back rl) (hj : j ≤ k := by decide) (hg : Gl X x := by rfl)
    (hn : es.length + 1 = n := by rfl) (hdb : (x == ("__debug__" : Str)) = false := by decide) (he : starEach (e :: es) X.env = (false, eval e X.env) :: starEach es X.env := by rfl) (hpl : (backTo pos (starEach es X.env)).any (·.1) = false := by rfl) :
    PE X (.Call (.Name x p) (e :: es) [] pos) (tR X.K X.mg W rl (callV Fn Fs)) := by
  obtain ⟨f, fd, ps, F, b, m, kp⟩ := d
  exact t_call hb' F (hr.mono hj) hgd hg m kp b ha hfs hn hdb he hpl
theorem t_callDX {j : Nat} (tk : Takes X W) (d : Df X.prog X.w X.K X.mg X.base j x n rl Fn) (hr : Room k X.A) (hgd : X.A.guards = some []) (ha : TAs X W (vD X.K) (e :: es) Fs) (hfs : ∀ η ds, Fs η = .ok ds → ds.length = n) (hb' : Back rl) (hj : j ≤ k := by decide) (hg : Gl X x := by rfl)
    (hn : es.length + 1 = n := by rfl) (hdb : (x == ("__debug__" : Str)) = false := by decide) (he : starEach (e :: es) X.env = (false, eval e X.env) :: starEach es X.env := by rfl) (hpl : (backTo pos (starEach es X.env)).any (·.1) = false := by rfl) :
    PE X (.Call (.Name x p) (e :: es) [] pos) (tR X.K X.mg W rl (callX Fn Fs)) := by
  obtain ⟨f, fd, ps, F, b, m, kp⟩ := d
  exact t_callX tk hb' F (hr.mono hj) hgd hg m kp b ha hfs hn hdb he hpl
end
end Bd
/-! D7: built-ins by data. -/
namespace Bd
open PySem L2

section
variable {X : Cx} {W : WX} {rl : Rl} {a b c e : Expr} {Fa Fb F : Nv → R D} {Fs : Nv → R (List D)} {pos p : Pos} {es : List Expr}
theorem all1 {rv : Rv} {H : Hp} {A : List Addr} {d : D} : ∀ {vs : List V}, AllV rv H A vs [d] → ∃ v, vs = [v] ∧ rv H A v d
  | [v], h => ⟨v, rfl, h.1⟩
  | [], h => h.elim
  | _ :: _ :: _, h => h.2.elim
theorem all2 {rv : Rv} {H : Hp} {A : List Addr} {d e : D} : ∀ {vs : List V}, AllV rv H A vs [d, e] → ∃ v w, vs = [v, w] ∧ rv H A v d ∧ rv H A w e
  | [v, w], h => ⟨v, w, rfl, h.1, h.2.1⟩
  | [], h => h.elim
  | [_], h => h.2.elim
  | _ :: _ :: _ :: _, h => h.2.2.elim
/-! len -/
def lenV : List D → Option D
  | [.list xs] => some (.int xs.length)
  | [.tuple xs] => some (.int xs.length)
  | [.str x] => if x.length ≤ lineN then some (.int x.length) else none
  | _ => none
def rLen (K : PySem.W.Frag) : List V → Hp → VK → Prop := fun xs H Q => (∃ p ys, xs = [.ref p] ∧ (SqL K H p ys ∨ SqT K H p ys) ∧ Q (.int ys.length) H) ∨ ∃ z, xs = [.str z] ∧ z.length ≤ sizeLine ∧ Q (.int z.length) H
theorem call_lenA : CallR X (.builtin "len") (rLen X.K) := by
  intro pins s σ H xs us Q I r h
  rcases h with h | h
  · exact call_len_seq pins s σ H xs us Q I r h
  · exact call_len_str pins s σ H xs us Q I r h
theorem o_len : OpN X (rD X.K) (rLen X.K) lenV := by
  intro H A vs ds d Q hA h e k
  unfold lenV at e
  split at e
  · have e := Option.some.inj e
    subst e
    obtain ⟨v, rfl, q⟩ := all1 h
    obtain ⟨l, ws, rfl, h1, q1⟩ := rO_list q
    refine .inl ⟨l, ws, rfl, .inl h1, ?_⟩
    rw [DpAll_length q1]
    exact k _ H (Same.refl _) (.int _)
  · have e := Option.some.inj e
    subst e
    obtain ⟨v, rfl, q⟩ := all1 h
    obtain ⟨l, ws, rfl, h1, _, q1⟩ := rO_tup q
    refine .inl ⟨l, ws, rfl, .inr h1, ?_⟩
    rw [DpAll_length q1]
    exact k _ H (Same.refl _) (.int _)
  · split at e
    · rename_i hz
      have e := Option.some.inj e
      subst e
      obtain ⟨v, rfl, q⟩ := all1 h
      exact .inr ⟨_, by rw [rO_str q], by rw [line_eq]; exact hz, k _ H (Same.refl _) (.int _)⟩
    · cases e
  · cases e
theorem t_len (hm : X.mg "len" = none) (ha : TAs X W (vO X.K) [e] Fs) (hg : Gl X "len" := by rfl) (he : starEach [e] X.env = (false, eval e X.env) :: starEach [] X.env := by rfl) (hpl : (backTo pos (starEach [] X.env)).any (·.1) = false := by rfl) : TD X W (.Call (.Name "len" p) [e] [] pos) (eN lenV Fs) :=
  t_callB back_D call_lenA o_len hg hm PySem.boot_len ha (he := he) (hpl := hpl)
/-! repr -/
def reprV : List D → Option D
  | [d] => if d.showable = true ∧ d.hasDict = false ∧ d.depth ≤ 64 ∧ d.shown.length ≤ lineN then some (.str d.shown) else none
  | _ => none
def rRepr (K : PySem.W.Frag) : List V → Hp → VK → Prop := fun xs H Q => ∃ v d, xs = [v] ∧ Dp K H v d ∧ d.showable = true ∧ d.hasDict = false ∧ d.depth ≤ 64 ∧ d.shown.length ≤ sizeLine ∧ Q (.str d.shown) H
theorem call_reprA (hg : X.A.guards = some []) (hu : X.A.units + 66 < cLine) : CallR X (.builtin "repr") (rRepr X.K) := by
  intro pins s σ H xs us Q I r h
  obtain ⟨v, d, rfl, q, h1, h2, h3, h4, k⟩ := h
  obtain ⟨u, rfl, ru⟩ := vals1 r
  have fin : ∀ t, EP X pins σ Q (.str d.shown t) { s with toks := s.toks + 1 } := fun t => ⟨.str d.shown, H, I.tok _, ⟨_, rfl⟩, k⟩
  have deep : ∀ a, v = .ref a → wpAny (model X.prog X.w) X.A (call (.builtin "repr") [.ref a]) (EP X pins σ Q) X.xe s := fun a ea => by
    subst ea
    cases ru
    obtain ⟨as, rd⟩ := Dp.reads I d _ _ q rfl
    refine repr_of_reads' rd h1 (fun z => by rw [h2] at z; cases z) hg (by omega) (fun _ _ z => z) (fun h' u tk kp => ?_) h4
    exact ⟨.str d.shown, H, I.kept (t' := tk) kp, ⟨_, rfl⟩, k⟩
  cases q with
  | non =>
    cases ru
    exact PySem.P.repr_of_none (fin _)
  | bl b =>
    cases ru
    exact PySem.P.repr_of_bool (fin _)
  | int i =>
    obtain ⟨t, rfl⟩ := ru
    exact PySem.P.repr_of_int (of_decide_eq_true h1) (fin _)
  | str x =>
    obtain ⟨t, rfl⟩ := ru
    exact PySem.P.repr_of_str (fin _) h4
  | lst _ _ =>
    cases ru
    exact deep _ rfl
  | tup _ _ =>
    cases ru
    exact deep _ rfl
theorem o_repr : OpN X (rD X.K) (rRepr X.K) reprV := by
  intro H A vs ds d Q hA h e k
  unfold reprV at e
  split at e
  · split at e
    · rename_i d' hd
      have e := Option.some.inj e
      subst e
      obtain ⟨v, rfl, q⟩ := all1 h
      exact ⟨v, d', rfl, rO_dp q, hd.1, hd.2.1, hd.2.2.1, by rw [line_eq]; exact hd.2.2.2, k _ H (Same.refl _) (.str _)⟩
    · cases e
  · cases e
theorem t_repr (hg : X.A.guards = some []) (hu : X.A.units + 66 < cLine) (hm : X.mg "repr" = none) (ha : TAs X W (vO X.K) [e] Fs) (hgl : Gl X "repr" := by rfl) (he : starEach [e] X.env = (false, eval e X.env) :: starEach [] X.env := by rfl) (hpl : (backTo pos (starEach [] X.env)).any (·.1) = false := by rfl) :
    TD X W (.Call (.Name "repr" p) [e] [] pos) (eN reprV Fs) := t_callB back_D (call_reprA hg hu) o_repr hgl hm (by decide +kernel) ha (he := he) (hpl := hpl)
/-! int -/
def intV : List D → Option D
  | [.int i] => some (.int i)
  | [.bool b] => some (.int (if b then 1 else 0))
  | _ => none
theorem t_intc (hm : X.mg "int" = none) (ha : TAs X W (vO X.K) [e] Fs) (hgl : Gl X "int" := by rfl) (he : starEach [e] X.env = (false, eval e X.env) :: starEach [] X.env := by rfl) (hpl : (backTo pos (starEach [] X.env)).any (·.1) = false := by rfl) :
    TD X W (.Call (.Name "int" p) [e] [] pos) (eN intV Fs) := t_callTy back_D call_int1 (fun H A vs ds d Q hA h e k => by
  unfold intV at e
  split at e
  · have e := Option.some.inj e
    subst e
    obtain ⟨v, rfl, q⟩ := all1 h
    exact .inl ⟨_, by rw [rO_int q], k _ H (Same.refl _) (.int _)⟩
  · have e := Option.some.inj e
    subst e
    obtain ⟨v, rfl, q⟩ := all1 h
    exact .inr ⟨_, by rw [rO_bool q], k _ H (Same.refl _) (.int _)⟩
  · cases e) hgl hm (by decide +kernel) ha (he := he) (hpl := hpl)
/-! tuple, list -/
def tupleV : List D → Option D
  | [.list xs] => some (.tuple xs)
  | [.tuple xs] => some (.tuple xs)
  | _ => none
theorem t_tuplec (hm : X.mg "tuple" = none) (ha : TAs X W (vO X.K) [e] Fs) (hgl : Gl X "tuple" := by rfl) (he : starEach [e] X.env = (false, eval e X.env) :: starEach [] X.env := by rfl) (hpl : (backTo pos (starEach [] X.env)).any (·.1) = false := by rfl) :
    TD X W (.Call (.Name "tuple" p) [e] [] pos) (eN tupleV Fs) := t_callTy back_D call_tuple_of (fun H A vs ds d Q hA h e k => by
  unfold tupleV at e
  split at e
  · have e := Option.some.inj e
    subst e
    obtain ⟨v, rfl, q⟩ := all1 h
    obtain ⟨l, ws, rfl, h1, q1⟩ := rO_list q
    exact ⟨l, ws, rfl, .inl ⟨h1, fun t ht => k _ _ (same_new ht) (dp_new_tup hA ht q1)⟩⟩
  · have e := Option.some.inj e
    subst e
    obtain ⟨v, rfl, q⟩ := all1 h
    obtain ⟨l, ws, rfl, h1, h2, q1⟩ := rO_tup q
    exact ⟨l, ws, rfl, .inr ⟨h1, k _ H (Same.refl _) (.tup h2 q1)⟩⟩
  · cases e) hgl hm (by decide +kernel) ha (he := he) (hpl := hpl)
def listV : List D → Option D
  | [.list xs] => some (.list xs)
  | [.tuple xs] => some (.list xs)
  | _ => none
theorem t_listc (hm : X.mg "list" = none) (ha : TAs X W (vO X.K) [e] Fs) (hgl : Gl X "list" := by rfl) (he : starEach [e] X.env = (false, eval e X.env) :: starEach [] X.env := by rfl) (hpl : (backTo pos (starEach [] X.env)).any (·.1) = false := by rfl) :
    TF X W (.Call (.Name "list" p) [e] [] pos) (eN listV Fs) := t_callTy back_F call_list_of (fun H A vs ds d Q hA h e k => by
  unfold listV at e
  split at e
  · have e := Option.some.inj e
    subst e
    obtain ⟨v, rfl, q⟩ := all1 h
    obtain ⟨l, ws, rfl, h1, q1⟩ := rO_list q
    exact ⟨l, ws, rfl, .inl h1, fun t ht => k _ _ (same_new ht) (dp_new_list hA ht q1)⟩
  · have e := Option.some.inj e
    subst e
    obtain ⟨v, rfl, q⟩ := all1 h
    obtain ⟨l, ws, rfl, h1, h2, q1⟩ := rO_tup q
    exact ⟨l, ws, rfl, .inr h1, fun t ht => k _ _ (same_new ht) (dp_new_list hA ht q1)⟩
  · cases e) hgl hm (by decide +kernel) ha (he := he) (hpl := hpl)
/-! ints and bools in a list -/
def ints? : List D → Option (List Int)
  | [] => some []
  | .int i :: r => (ints? r).map (i :: ·)
  | _ => none
def bools? : List D → Option (List Bool)
  | [] => some []
  | .bool i :: r => (bools? r).map (i :: ·)
  | _ => none
theorem ints_of {K : PySem.W.Frag} {H : Hp} : ∀ {ds : List D} {vs : List V} {ns : List Int}, DpAll K H vs ds → ints? ds = some ns → vs = ns.map V.int ∧ ds = ns.map PyData.int
  | [], _, ns, h, e => by
    cases h
    cases e
    exact ⟨rfl, rfl⟩
  | d :: r, _, ns, h, e => by
    cases h with
    | cons h1 h2 =>
      cases d with
      | int i =>
        have e : (ints? r).map (i :: ·) = some ns := e
        cases e2 : ints? r with
        | none => rw [e2] at e; cases e
        | some ms =>
          rw [e2] at e
          cases e
          obtain ⟨q1, q2⟩ := ints_of h2 e2
          cases h1
          exact ⟨by rw [q1]; rfl, by rw [q2]; rfl⟩
      | _ => cases e
theorem bools_of {K : PySem.W.Frag} {H : Hp} : ∀ {ds : List D} {vs : List V} {ns : List Bool}, DpAll K H vs ds → bools? ds = some ns → vs = ns.map V.bl
  | [], _, ns, h, e => by
    cases h
    cases e
    rfl
  | d :: r, _, ns, h, e => by
    cases h with
    | cons h1 h2 =>
      cases d with
      | bool i =>
        have e : (bools? r).map (i :: ·) = some ns := e
        cases e2 : bools? r with
        | none => rw [e2] at e; cases e
        | some ms =>
          rw [e2] at e
          cases e
          have q1 := bools_of h2 e2
          cases h1
          rw [q1]
          rfl
      | _ => cases e
/-! all, any -/
def allV : List D → Option D
  | [.list xs] => (bools? xs).map fun bs => .bool (bs.all id)
  | _ => none
def anyV : List D → Option D
  | [.list xs] => (bools? xs).map fun bs => .bool (bs.any id)
  | _ => none
theorem t_all (hc : X.calm = true) (hm : X.mg "all" = none) (ha : TAs X W (vO X.K) [e] Fs) (hgl : Gl X "all" := by rfl) (he : starEach [e] X.env = (false, eval e X.env) :: starEach [] X.env := by rfl) (hpl : (backTo pos (starEach [] X.env)).any (·.1) = false := by rfl) :
    TD X W (.Call (.Name "all" p) [e] [] pos) (eN allV Fs) := t_callB back_D (cr_all hc) (fun H A vs ds d Q hA h e k => by
  unfold allV at e
  split at e
  · rename_i xs
    cases e2 : bools? xs with
    | none => rw [e2] at e; cases e
    | some bs =>
      rw [e2] at e
      cases e
      obtain ⟨v, rfl, q⟩ := all1 h
      obtain ⟨l, ws, rfl, h1, q1⟩ := rO_list q
      rw [bools_of q1 e2] at h1
      exact ⟨l, bs, rfl, h1, k _ H (Same.refl _) (.bl _)⟩
  · cases e) hgl hm (by decide +kernel) ha (he := he) (hpl := hpl)
theorem t_any (hc : X.calm = true) (hm : X.mg "any" = none) (ha : TAs X W (vO X.K) [e] Fs) (hgl : Gl X "any" := by rfl) (he : starEach [e] X.env = (false, eval e X.env) :: starEach [] X.env := by rfl) (hpl : (backTo pos (starEach [] X.env)).any (·.1) = false := by rfl) :
    TD X W (.Call (.Name "any" p) [e] [] pos) (eN anyV Fs) := t_callB back_D (cr_any hc) (fun H A vs ds d Q hA h e k => by
  unfold anyV at e
  split at e
  · rename_i xs
    cases e2 : bools? xs with
    | none => rw [e2] at e; cases e
    | some bs =>
      rw [e2] at e
      cases e
      obtain ⟨v, rfl, q⟩ := all1 h
      obtain ⟨l, ws, rfl, h1, q1⟩ := rO_list q
      rw [bools_of q1 e2] at h1
      exact ⟨l, bs, rfl, h1, k _ H (Same.refl _) (.bl _)⟩
  · cases e) hgl hm (by decide +kernel) ha (he := he) (hpl := hpl)
/-! sorted of ints -/
def ins1 (x : Int) : List Int → List Int
  | [] => [x]
  | y :: r => if x ≤ y then x :: y :: r else y :: ins1 x r
def isort : List Int → List Int
  | [] => []
  | x :: r => ins1 x (isort r)
theorem ins1_perm (x : Int) : ∀ l, (ins1 x l).Perm (x :: l)
  | [] => .refl _
  | y :: r => by
    unfold ins1
    split
    · exact .refl _
    · exact (List.Perm.cons y (ins1_perm x r)).trans (List.Perm.swap x y r)
theorem isort_perm : ∀ l, (isort l).Perm l
  | [] => .refl _
  | x :: r => (ins1_perm x (isort r)).trans (List.Perm.cons x (isort_perm r))
theorem ins1_sorted (x : Int) : ∀ l : List Int, l.Pairwise (· ≤ ·) → (ins1 x l).Pairwise (· ≤ ·)
  | [], _ => by unfold ins1; exact List.pairwise_singleton _ _
  | y :: r, h => by
    rw [List.pairwise_cons] at h
    unfold ins1
    split
    · rename_i hxy
      refine List.pairwise_cons.mpr ⟨fun z m => ?_, List.pairwise_cons.mpr h⟩
      rcases List.mem_cons.mp m with rfl | m
      · exact hxy
      · exact Int.le_trans hxy (h.1 z m)
    · rename_i hxy
      refine List.pairwise_cons.mpr ⟨fun z m => ?_, ins1_sorted x r h.2⟩
      rcases List.mem_cons.mp ((ins1_perm x r).mem_iff.mp m) with rfl | m
      · omega
      · exact h.1 z m
theorem isort_sorted : ∀ l, (isort l).Pairwise (· ≤ ·)
  | [] => List.Pairwise.nil
  | x :: r => ins1_sorted x _ (isort_sorted r)
theorem sorted_unique : ∀ {l m : List Int}, l.Perm m → l.Pairwise (· ≤ ·) → m.Pairwise (· ≤ ·) → l = m
  | [], m, p, _, _ => (List.Perm.nil_eq p)
  | x :: l, [], p, _, _ => (List.Perm.eq_nil p)
  | x :: l, y :: m, p, h1, h2 => by
    rw [List.pairwise_cons] at h1 h2
    have e : x = y := by
      have m1 : x ∈ y :: m := p.mem_iff.mp List.mem_cons_self
      have m2 : y ∈ x :: l := p.mem_iff.mpr List.mem_cons_self
      rcases List.mem_cons.mp m1 with e | m1
      · exact e
      · rcases List.mem_cons.mp m2 with e | m2
        · exact e.symm
        · have := h1.1 y m2
          have := h2.1 x m1
          omega
    subst e
    rw [sorted_unique (List.Perm.cons_inv p) h1.2 h2.2]
def sortIV : List D → Option D
  | [.list xs] => (ints? xs).map fun ns => .list ((isort ns).map PyData.int)
  | _ => none
theorem t_sortI (hm : X.mg "sorted" = none) (ha : TAs X W (vO X.K) [e] Fs) (hgl : Gl X "sorted" := by rfl) (he : starEach [e] X.env = (false, eval e X.env) :: starEach [] X.env := by rfl) (hpl : (backTo pos (starEach [] X.env)).any (·.1) = false := by rfl) :
    TF X W (.Call (.Name "sorted" p) [e] [] pos) (eN sortIV Fs) := t_callB back_F cr_sortedI (fun H A vs ds d Q hA h e k => by
  unfold sortIV at e
  split at e
  · rename_i xs
    cases e2 : ints? xs with
    | none => rw [e2] at e; cases e
    | some bs =>
      rw [e2] at e
      cases e
      obtain ⟨v, rfl, q⟩ := all1 h
      obtain ⟨l, ws, rfl, h1, q1⟩ := rO_list q
      rw [(ints_of q1 e2).1] at h1
      refine ⟨l, bs, rfl, h1, fun ns' t pm so ht => ?_⟩
      have en : ns' = isort bs := sorted_unique (pm.trans (isort_perm bs).symm) so (isort_sorted bs)
      subst en
      exact k _ _ (same_new ht) (dp_new_list hA ht (DpAll_ints _))
  · cases e) hgl hm (by decide +kernel) ha (he := he) (hpl := hpl)
/-! max, min, sum, abs -/
def maxI : List Int → Int
  | [] => 0
  | [x] => x
  | x :: r => if maxI r < x then x else maxI r
def minI : List Int → Int
  | [] => 0
  | [x] => x
  | x :: r => if x < minI r then x else minI r
theorem maxI_is : ∀ (l : List Int) (m : Int), m ∈ l → (∀ y ∈ l, y ≤ m) → m = maxI l
  | [], m, h, _ => by simp at h
  | [x], m, h, _ => by simpa [maxI] using h
  | x :: y :: r, m, h, hm => by
    have mx : maxI (y :: r) ∈ y :: r ∧ ∀ z ∈ y :: r, z ≤ maxI (y :: r) := by
      have key : ∀ l : List Int, l ≠ [] → maxI l ∈ l ∧ ∀ z ∈ l, z ≤ maxI l := by
        intro l
        induction l with
        | nil => exact fun q => absurd rfl q
        | cons a t ih =>
          intro _
          cases t with
          | nil => simp [maxI]
          | cons b t =>
            obtain ⟨i1, i2⟩ := ih (by simp)
            show (if maxI (b :: t) < a then a else maxI (b :: t)) ∈ _ ∧ ∀ z ∈ _, z ≤ (if maxI (b :: t) < a then a else maxI (b :: t))
            split
            · refine ⟨List.mem_cons_self, fun z hz => ?_⟩
              rcases List.mem_cons.mp hz with rfl | hz
              · exact Int.le_refl _
              · have := i2 z hz; omega
            · refine ⟨List.mem_cons_of_mem _ i1, fun z hz => ?_⟩
              rcases List.mem_cons.mp hz with rfl | hz
              · omega
              · exact i2 z hz
      exact key _ (by simp)
    show m = if maxI (y :: r) < x then x else maxI (y :: r)
    have q1 := hm x List.mem_cons_self
    have q2 := hm _ (List.mem_cons_of_mem _ mx.1)
    split
    · rcases List.mem_cons.mp h with rfl | h
      · rfl
      · have := mx.2 m h; omega
    · rcases List.mem_cons.mp h with rfl | h
      · omega
      · have := mx.2 m h; omega
theorem minI_is : ∀ (l : List Int) (m : Int), m ∈ l → (∀ y ∈ l, m ≤ y) → m = minI l
  | [], m, h, _ => by simp at h
  | [x], m, h, _ => by simpa [minI] using h
  | x :: y :: r, m, h, hm => by
    have mx : minI (y :: r) ∈ y :: r ∧ ∀ z ∈ y :: r, minI (y :: r) ≤ z := by
      have key : ∀ l : List Int, l ≠ [] → minI l ∈ l ∧ ∀ z ∈ l, minI l ≤ z := by
        intro l
        induction l with
        | nil => exact fun q => absurd rfl q
        | cons a t ih =>
          intro _
          cases t with
          | nil => simp [minI]
          | cons b t =>
            obtain ⟨i1, i2⟩ := ih (by simp)
            show (if a < minI (b :: t) then a else minI (b :: t)) ∈ _ ∧ ∀ z ∈ _, (if a < minI (b :: t) then a else minI (b :: t)) ≤ z
            split
            · refine ⟨List.mem_cons_self, fun z hz => ?_⟩
              rcases List.mem_cons.mp hz with rfl | hz
              · exact Int.le_refl _
              · have := i2 z hz; omega
            · refine ⟨List.mem_cons_of_mem _ i1, fun z hz => ?_⟩
              rcases List.mem_cons.mp hz with rfl | hz
              · omega
              · exact i2 z hz
      exact key _ (by simp)
    show m = if x < minI (y :: r) then x else minI (y :: r)
    have q1 := hm x List.mem_cons_self
    have q2 := hm _ (List.mem_cons_of_mem _ mx.1)
    split
    · rcases List.mem_cons.mp h with rfl | h
      · rfl
      · have := mx.2 m h; omega
    · rcases List.mem_cons.mp h with rfl | h
      · omega
      · have := mx.2 m h; omega
def maxV : List D → Option D
  | [.int i, .int j] => some (.int (if j > i then j else i))
  | [.list xs] => (ints? xs).bind fun ns => if 0 < ns.length then some (.int (maxI ns)) else none
  | _ => none
def minV : List D → Option D
  | [.int i, .int j] => some (.int (if j < i then j else i))
  | [.list xs] => (ints? xs).bind fun ns => if 0 < ns.length then some (.int (minI ns)) else none
  | _ => none
def rMaxA (K : PySem.W.Frag) : List V → Hp → VK → Prop := fun xs H Q => (∃ i j, xs = [.int i, .int j] ∧ Q (.int (if j > i then j else i)) H) ∨ rMax K xs H Q
def rMinA (K : PySem.W.Frag) : List V → Hp → VK → Prop := fun xs H Q => (∃ i j, xs = [.int i, .int j] ∧ Q (.int (if j < i then j else i)) H) ∨ rMin K xs H Q
theorem t_max {es : List Expr} (hc : X.calm = true) (hm : X.mg "max" = none) (ha : TAs X W (vO X.K) (e :: es) Fs) (hgl : Gl X "max" := by rfl) (he : starEach (e :: es) X.env = (false, eval e X.env) :: starEach es X.env := by rfl) (hpl : (backTo pos (starEach es X.env)).any (·.1) = false := by rfl) :
    TD X W (.Call (.Name "max" p) (e :: es) [] pos) (eN maxV Fs) := t_callB (r := rMaxA X.K) back_D (fun pins s σ H xs us Q I r h => h.elim (call_max2 hc pins s σ H xs us Q I r) (cr_max hc pins s σ H xs us Q I r)) (fun H A vs ds d Q hA h e k => by
  unfold maxV at e
  split at e
  · have e := Option.some.inj e
    subst e
    obtain ⟨v, w, rfl, q1, q2⟩ := all2 h
    exact .inl ⟨_, _, by rw [rO_int q1, rO_int q2], k _ H (Same.refl _) (.int _)⟩
  · rename_i xs
    cases e2 : ints? xs with
    | none => rw [e2] at e; cases e
    | some ns =>
      rw [e2] at e
      have e : (if 0 < ns.length then some (PyData.int (maxI ns)) else none) = some d := e
      split at e
      · rename_i hl
        cases e
        obtain ⟨v, rfl, q⟩ := all1 h
        obtain ⟨l, ws, rfl, h1, q1⟩ := rO_list q
        rw [(ints_of q1 e2).1] at h1
        refine .inr ⟨l, ns, rfl, h1, hl, fun m h3 h4 => ?_⟩
        rw [maxI_is ns m h3 h4]
        exact k _ H (Same.refl _) (.int _)
      · cases e
  · cases e) hgl hm (by decide +kernel) ha (he := he) (hpl := hpl)
theorem t_min {es : List Expr} (hc : X.calm = true) (hm : X.mg "min" = none) (ha : TAs X W (vO X.K) (e :: es) Fs) (hgl : Gl X "min" := by rfl) (he : starEach (e :: es) X.env = (false, eval e X.env) :: starEach es X.env := by rfl) (hpl : (backTo pos (starEach es X.env)).any (·.1) = false := by rfl) :
    TD X W (.Call (.Name "min" p) (e :: es) [] pos) (eN minV Fs) := t_callB (r := rMinA X.K) back_D (fun pins s σ H xs us Q I r h => h.elim (call_min2 hc pins s σ H xs us Q I r) (cr_min hc pins s σ H xs us Q I r)) (fun H A vs ds d Q hA h e k => by
  unfold minV at e
  split at e
  · have e := Option.some.inj e
    subst e
    obtain ⟨v, w, rfl, q1, q2⟩ := all2 h
    exact .inl ⟨_, _, by rw [rO_int q1, rO_int q2], k _ H (Same.refl _) (.int _)⟩
  · rename_i xs
    cases e2 : ints? xs with
    | none => rw [e2] at e; cases e
    | some ns =>
      rw [e2] at e
      have e : (if 0 < ns.length then some (PyData.int (minI ns)) else none) = some d := e
      split at e
      · rename_i hl
        cases e
        obtain ⟨v, rfl, q⟩ := all1 h
        obtain ⟨l, ws, rfl, h1, q1⟩ := rO_list q
        rw [(ints_of q1 e2).1] at h1
        refine .inr ⟨l, ns, rfl, h1, hl, fun m h3 h4 => ?_⟩
        rw [minI_is ns m h3 h4]
        exact k _ H (Same.refl _) (.int _)
      · cases e
  · cases e) hgl hm (by decide +kernel) ha (he := he) (hpl := hpl)
def absV' : List D → Option D
  | [.int i] => some (.int (if i < 0 then -i else i))
  | _ => none
theorem t_abs (hm : X.mg "abs" = none) (ha : TAs X W (vO X.K) [e] Fs) (hgl : Gl X "abs" := by rfl) (he : starEach [e] X.env = (false, eval e X.env) :: starEach [] X.env := by rfl) (hpl : (backTo pos (starEach [] X.env)).any (·.1) = false := by rfl) :
    TD X W (.Call (.Name "abs" p) [e] [] pos) (eN absV' Fs) := t_callB back_D call_abs (fun H A vs ds d Q hA h e k => by
  unfold absV' at e
  split at e
  · have e := Option.some.inj e
    subst e
    obtain ⟨v, rfl, q⟩ := all1 h
    exact ⟨_, by rw [rO_int q], k _ H (Same.refl _) (.int _)⟩
  · cases e) hgl hm (by decide +kernel) ha (he := he) (hpl := hpl)
/-! isinstance of data by a built-in class -/
def tyN : D → String
  | .none => "NoneType"
  | .bool _ => "bool"
  | .int _ => "int"
  | .str _ => "str"
  | .list _ => "list"
  | .tuple _ => "tuple"
  | .dict _ => "dict"
theorem tyX_of {K : PySem.W.Frag} {H : Hp} {v : V} {d : D} (h : Dp K H v d) : TyX K H v (.type (tyN d)) := by
  cases h with
  | non => exact .base .non
  | bl b => exact .base (.bl b)
  | int i => exact .base (.int i)
  | str x => exact .base (.str x)
  | lst h1 _ =>
    rcases h1 with (h1 | ⟨o, h1⟩) | ⟨o, its, n, h1, h2, _⟩
    · exact .base (.lst h1)
    · exact .base (.frz h1)
    · exact .kList h1 h2
  | tup h1 _ =>
    rcases h1 with (h1 | ⟨o, h1⟩) | ⟨o, its, n, h1, h2, _⟩
    · exact .base (.tup h1)
    · exact .fTuple h1
    · exact .kTuple h1 h2
def isiV (T : String) (d : D) : Option D := (kitB (tyN d) T).map .bool
theorem t_isi {T : String} {x : Str} {p2 : Pos} (hm : X.mg "isinstance" = none) (hmT : X.mg x = none) (hv : bootBuiltins x = some (.type T)) (ha : TO X W a Fa) (hgl : Gl X "isinstance" := by rfl) (hgT : Gl X x := by rfl) (hnT : x ≠ "__name__" := by decide) (hdT : (x == ("__debug__" : Str)) = false := by decide)
    (he : starEach [a, .Name x p2] X.env = (false, eval a X.env) :: starEach [.Name x p2] X.env := by rfl) (hpl : (backTo pos (starEach [.Name x p2] X.env)).any (·.1) = false := by rfl) : TD X W (.Call (.Name "isinstance" p) [a, .Name x p2] [] pos) (e1 (isiV T) Fa) :=
  peW (pe_callB call_isi hgl hm (by decide +kernel) (pa_cons ha (pa_cons (pe_bltn (v := .ty T) hgT hmT hv rfl hnT hdT) pa_nil) he) (he := he) (hpl := hpl)) fun σ H Q h => by
    have h2 := op1_t (r := fun x H Q => ∃ t b, TyX X.K H x t ∧ PySem.W.kitOne X.K t (.type T) = some b ∧ Q (.bl b) H) (g := isiV T) back_D (fun H A x a d Q hA q e k => by
      unfold isiV at e
      cases e2 : kitB (tyN a) T with
      | none => rw [e2] at e; cases e
      | some b =>
        rw [e2] at e
        cases e
        exact ⟨_, b, tyX_of (rO_dp q), kit_ty e2, k _ H (Same.refl _) (.bl _)⟩) h
    obtain ⟨η, A, E, q⟩ := h2
    refine (show tR X.K X.mg W (rO X.K) Fa σ H _ from ⟨η, A, E, ?_⟩)
    cases ef : Fa η with
    | ex c w z => rw [ef] at q; exact q
    | no => rw [ef] at q; exact q
    | ok d =>
      rw [ef] at q
      intro v H1 s1 qv
      obtain ⟨t, b, h1, h2, h3⟩ := q v H1 s1 qv
      exact ⟨v, .ty T, t, .type T, b, rfl, .ty T, h1, h2, h3⟩
end
end Bd
/-! D8: more that is walked; the law's own end. -/
namespace Bd
open PySem L2

section
variable {X : Cx} {W : WX} {rl : Rl} {a b c e tg iter : Expr} {Fa Fb F : Nv → R D} {Fs : Nv → R (List D)} {pos p : Pos} {es : List Expr}
def asSeq : D → R (List D)
  | .list xs => .ok xs
  | .tuple xs => .ok xs
  | _ => .no
def iA (F : Nv → R D) : Nv → R (List D) := fun η => (F η).bind asSeq
/-- a list or a tuple -/
theorem i_any (h : TD X W iter F) : TI' X W tg iter (iA F) := ⟨fun pins s σ H R I q => by
  obtain ⟨η, A, E, p0⟩ := q
  have p : PostI X.K X.mg W σ A H ((F η).bind asSeq) R := p0
  cases e1 : F η with
  | ex c w q =>
    rw [e1] at p
    exact (i_list (tg := tg) h).run pins s σ H R I ⟨η, A, E, by unfold iL; rw [e1]; exact p⟩
  | no => rw [e1] at p; exact False.elim p
  | ok d =>
    rw [e1] at p
    cases d with
    | list xs => exact (i_list (tg := tg) h).run pins s σ H R I ⟨η, A, E, by unfold iL; rw [e1]; exact p⟩
    | tuple xs => exact (i_tup (tg := tg) h).run pins s σ H R I ⟨η, A, E, by unfold iT; rw [e1]; exact p⟩
    | _ => exact False.elim p⟩
/-! zip of two lists, of two tuples -/
def zipD : List D → List D → List D
  | x :: xs, y :: ys => .tuple [x, y] :: zipD xs ys
  | _, _ => []
theorem zipD_get : ∀ (xs ys : List D) (i : Nat) (z : D), (zipD xs ys)[i]? = some z → ∃ x y, xs[i]? = some x ∧ ys[i]? = some y ∧ z = .tuple [x, y]
  | [], _, _, _, h => by simp [zipD] at h
  | _ :: _, [], _, _, h => by simp [zipD] at h
  | x :: xs, y :: ys, 0, z, h => by
    simp [zipD] at h
    exact ⟨x, y, rfl, rfl, h.symm⟩
  | x :: xs, y :: ys, i + 1, z, h => by
    obtain ⟨a, b, h1, h2, h3⟩ := zipD_get xs ys i z (by simpa [zipD] using h)
    exact ⟨a, b, by simpa using h1, by simpa using h2, h3⟩
theorem zipD_len : ∀ (xs ys : List D), (zipD xs ys).length = min xs.length ys.length
  | [], _ => by simp [zipD]
  | _ :: _, [] => by simp [zipD]
  | x :: xs, y :: ys => by
    show (zipD xs ys).length + 1 = _
    rw [zipD_len xs ys, List.length_cons, List.length_cons]
    omega
def zip2 : List D → R (List D)
  | [.list xs, .list ys] => .ok (zipD xs ys)
  | [.tuple xs, .tuple ys] => .ok (zipD xs ys)
  | _ => .no
def iZ (Fs : Nv → R (List D)) : Nv → R (List D) := fun η => (Fs η).bind zip2
theorem i_zip {elts : List Expr} {kk : Nat} {tpos : Pos} (hm : X.mg "zip" = none) (ha : TAs X W (vD X.K) [a, b] Fs) (hg : Gl X "zip" := by rfl) (hs : starEach [a, b] X.env = (false, eval a X.env) :: starEach [b] X.env := by rfl) (hpl : (backTo pos (starEach [b] X.env)).any (·.1) = false := by rfl) :
    TI' X W (.Tuple elts kk tpos) (.Call (.Name "zip" p) [a, b] [] pos) (iZ Fs) := piW (RZ.pi_zipA hg hm ha hs hpl) fun σ H Q ⟨η, A, E, p0⟩ => by
  have p : PostI X.K X.mg W σ A H ((Fs η).bind zip2) Q := p0
  refine (show tA X.K X.mg W (vD X.K) Fs σ H _ from ⟨η, A, E, ?_⟩)
  cases e1 : Fs η with
  | ex c w q => rw [e1] at p; exact p
  | no => rw [e1] at p; exact p
  | ok ds =>
    rw [e1] at p
    have p : PostI X.K X.mg W σ A H (zip2 ds) Q := p
    intro vs H1 s1 q1
    unfold zip2 at p
    split at p
    · rename_i xs ys
      obtain ⟨v, w, rfl, h1, h2⟩ := all2 q1
      cases h1 with
      | @lst l us _ l1 r1 =>
        cases h2 with
        | @lst l' ws _ l2 r2 =>
          refine ⟨l, l', us, ws, rfl, .inl ⟨(hid_le A H1).seq l1, (hid_le A H1).seq l2, p _ H1 s1 ⟨fun i x e A' H2 sh hA' => ?_, fun A' H2 sh => ?_⟩⟩⟩
          · obtain ⟨y, z, e1, e2, rfl⟩ := zipD_get _ _ i x e
            obtain ⟨u, f1, k1⟩ := DpAll_get r1 e1
            obtain ⟨t, f2, k2⟩ := DpAll_get r2 e2
            have m1 : SqL X.K H2 l us := (hid_le A' H2).seq (sh.seq l1)
            have m2 : SqL X.K H2 l' ws := (hid_le A' H2).seq (sh.seq l2)
            refine ⟨⟨us, ws, u, t, m1, m2, f1, f2⟩, fun v H3 yd => ?_⟩
            obtain ⟨T, u', t', rfl, nT, rfl, g1, g2⟩ := yd
            have c1 := g1 _ m1
            have c2 := g2 _ m2
            rw [f1] at c1
            rw [f2] at c2
            cases c1
            cases c2
            exact ⟨same_new nT, dp_new_tup hA' nT (.cons (Dp_mono k1 sh) (.cons (Dp_mono k2 sh) .nil))⟩
          · refine ⟨us, ws, (hid_le A' H2).seq (sh.seq l1), (hid_le A' H2).seq (sh.seq l2), ?_⟩
            rw [DpAll_length r1, DpAll_length r2, zipD_len]
            omega
    · rename_i xs ys
      obtain ⟨v, w, rfl, h1, h2⟩ := all2 q1
      cases h1 with
      | @tup l us _ l1 r1 =>
        cases h2 with
        | @tup l' ws _ l2 r2 =>
          refine ⟨l, l', us, ws, rfl, .inr ⟨sqT_same (hid_le A H1) l1, sqT_same (hid_le A H1) l2, p _ H1 s1 ⟨fun i x e A' H2 sh hA' => ?_, fun A' H2 sh => ?_⟩⟩⟩
          · obtain ⟨y, z, e1, e2, rfl⟩ := zipD_get _ _ i x e
            obtain ⟨u, f1, k1⟩ := DpAll_get r1 e1
            obtain ⟨t, f2, k2⟩ := DpAll_get r2 e2
            have m1 : SqT X.K H2 l us := sqT_same (hid_le A' H2) (sqT_same sh l1)
            have m2 : SqT X.K H2 l' ws := sqT_same (hid_le A' H2) (sqT_same sh l2)
            refine ⟨⟨us, ws, u, t, m1, m2, f1, f2⟩, fun v H3 yd => ?_⟩
            obtain ⟨T, u', t', rfl, nT, rfl, g1, g2⟩ := yd
            have c1 := g1 _ m1
            have c2 := g2 _ m2
            rw [f1] at c1
            rw [f2] at c2
            cases c1
            cases c2
            exact ⟨same_new nT, dp_new_tup hA' nT (.cons (Dp_mono k1 sh) (.cons (Dp_mono k2 sh) .nil))⟩
          · refine ⟨us, ws, sqT_same (hid_le A' H2) (sqT_same sh l1), sqT_same (hid_le A' H2) (sqT_same sh l2), ?_⟩
            rw [DpAll_length r1, DpAll_length r2, zipD_len]
            omega
    · exact False.elim p
/-! enumerate of a list -/
def enumD (k : Nat) : List D → List D
  | [] => []
  | x :: xs => .tuple [.int (k : Nat), x] :: enumD (k + 1) xs
theorem enumD_get : ∀ (k : Nat) (xs : List D) (i : Nat) (z : D), (enumD k xs)[i]? = some z → ∃ x, xs[i]? = some x ∧ z = .tuple [.int ((k + i : Nat) : Int), x]
  | _, [], _, _, h => by simp [enumD] at h
  | k, x :: xs, 0, z, h => by
    simp [enumD] at h
    exact ⟨x, rfl, h.symm⟩
  | k, x :: xs, i + 1, z, h => by
    obtain ⟨y, h1, h2⟩ := enumD_get (k + 1) xs i z (by simpa [enumD] using h)
    exact ⟨y, by simpa using h1, by rw [h2, show k + 1 + i = k + (i + 1) by omega]⟩
theorem enumD_len : ∀ (k : Nat) (xs : List D), (enumD k xs).length = xs.length
  | _, [] => rfl
  | k, x :: xs => by
    show (enumD (k + 1) xs).length + 1 = _
    rw [enumD_len (k + 1) xs]
    rfl
def enum1 : List D → R (List D)
  | [.list xs] => .ok (enumD 0 xs)
  | _ => .no
def iEn (Fs : Nv → R (List D)) : Nv → R (List D) := fun η => (Fs η).bind enum1
theorem i_enum {elts : List Expr} {kk : Nat} {tpos : Pos} (hm : X.mg "enumerate" = none) (ha : TAs X W (vD X.K) [e] Fs) (hg : Gl X "enumerate" := by rfl) (hs : starEach [e] X.env = [(false, eval e X.env)] := by rfl) :
    TI' X W (.Tuple elts kk tpos) (.Call (.Name "enumerate" p) [e] [] pos) (iEn Fs) := piW (pi_enum hg hm ha hs) fun σ H Q ⟨η, A, E, p0⟩ => by
  have p : PostI X.K X.mg W σ A H ((Fs η).bind enum1) Q := p0
  refine (show tA X.K X.mg W (vD X.K) Fs σ H _ from ⟨η, A, E, ?_⟩)
  cases e1 : Fs η with
  | ex c w q => rw [e1] at p; exact p
  | no => rw [e1] at p; exact p
  | ok ds =>
    rw [e1] at p
    have p : PostI X.K X.mg W σ A H (enum1 ds) Q := p
    intro vs H1 s1 q1
    unfold enum1 at p
    split at p
    · rename_i xs
      obtain ⟨v, rfl, h1⟩ := all1 q1
      cases h1 with
      | @lst l us _ l1 r1 =>
        refine ⟨l, us, rfl, (hid_le A H1).seq l1, p _ H1 s1 ⟨fun i x e A' H2 sh hA' => ?_, fun A' H2 sh => ?_⟩⟩
        · obtain ⟨y, e1, rfl⟩ := enumD_get 0 _ i x e
          obtain ⟨u, f1, k1⟩ := DpAll_get r1 e1
          have m1 : SqL X.K H2 l us := (hid_le A' H2).seq (sh.seq l1)
          refine ⟨⟨us, u, m1, f1⟩, fun v H3 yd => ?_⟩
          obtain ⟨T, u', rfl, nT, rfl, g1⟩ := yd
          have c1 := g1 _ m1
          rw [f1] at c1
          cases c1
          rw [Nat.zero_add]
          exact ⟨same_new nT, dp_new_tup hA' nT (.cons (.int _) (.cons (Dp_mono k1 sh) .nil))⟩
        · exact ⟨us, (hid_le A' H2).seq (sh.seq l1), by rw [DpAll_length r1, enumD_len]; exact Nat.le_refl _⟩
    · exact False.elim p
end

/-! ### the law's own end -/
theorem dp_script {K : PySem.W.Frag} {H : Hp} {a : Addr} {ns : List Int} (h : SqL K H a (ns.map V.int)) : DpAll K (hid [] H) [.ref a] [.list (ns.map PyData.int)] :=
  .cons (.lst (by
    have e : hid [] H = H := by
      funext b
      exact hid_out (List.not_mem_nil)
    rw [e]
    exact h) (DpAll_ints ns)) .nil
theorem law_end {P : Program} {w : World} {K : PySem.W.Frag} {mg mb : Str → Option Value} {k : Nat} {fa a : Addr} {fd : FuncData} {x : Str} {Fn : List D → R D} {s1 : Shared} {vs : List Value} {ns : List Int}
    (KX : K.In s1.heap) (hns : s1.heap.Ns mainGlobals mg) (hb : s1.heap.Ns builtinsNs mb) (hbb : ∀ x : Str, x ≠ "__name__" → mb x = bootBuiltins x) (hlim : s1.heap.NoLimit) (hg : s1.gens = #[])
    (ha : s1.heap.get? a = some { cls := .type "list", data := .seq vs.toArray }) (hi : PyProof.Rows.IntsAre vs ns) (hl : ns.length ≤ sizeLine) (hr : Room k callerA)
    (F : ∀ base : Heap, K.In base → base.Ns mainGlobals mg → FnG P w K mg base k fa fd [x] (spD K mg (rD K) 1 Fn)) (hbind : ∀ (s : Shared) (u : Value), BindsTo s fd ⟨[u], []⟩ [(x, u)]) (ht : Fn [.list (ns.map PyData.int)] = .ok (.bool true)) :
    codeAny (model P w) callerA (.call (.ref fa) ⟨[.ref a], []⟩) (fun r s' => r = .ok (.ret (.bool true)) ∧ OldK s1.heap s'.heap ∧ s'.os = s1.os ∧ PyProof.Rows.AllBare s'.gens) s1 := by
  have rel := vals_ints hi
  have lenV := hi.length
  -- the abstract heap: the script, locked, unless the module itself holds it
  have main : ∀ T : Hp, (∀ b, T b = none ∨ (b = a ∧ K.lookup a = none ∧ T b = some (.frz { cls := .type "list", data := .seq vs.toArray } (.lst (ns.map V.int))))) → SqL K T a (ns.map V.int) →
      codeAny (model P w) callerA (.call (.ref fa) ⟨[.ref a], []⟩) (fun r s' => r = .ok (.ret (.bool true)) ∧ OldK s1.heap s'.heap ∧ s'.os = s1.os ∧ PyProof.Rows.AllBare s'.gens) s1 := by
    intro T hT hS
    have free : ∀ {b : Addr} {o : Obj}, K.lookup b = some o → T b = none := fun {b o} e => by
      rcases hT b with z | ⟨rfl, z, _⟩
      · exact z
      · rw [z] at e; cases e
    have nsfree : ∀ {b : Addr} {m : Str → Option Value}, s1.heap.Ns b m → (hidT s1.heap T).Ns b m := fun {b m} ⟨o, es, ep, e, d, r⟩ => by
      refine ⟨o, es, ep, hidT_get e ?_, d, r⟩
      rcases hT b with z | ⟨rfl, _, z⟩
      · exact z
      · rw [ha] at e
        cases e
        exact nomatch (show Data.seq vs.toArray _ = Data.dict es ep from d)
    have kin : K.In (hidT s1.heap T) := fun b o e => hidT_get (KX b o e) (free e)
    have hM : Mod K mg (hidT s1.heap T) := ⟨kin, nsfree hns, ⟨mb, nsfree hb, hbb⟩, hlim.elim fun m z => ⟨m, nsfree z.1, z.2⟩⟩
    have hok : HOk P w T s1.heap := fun b o z => by
      rcases hT b with q | ⟨rfl, _, q⟩
      · rw [q] at z; cases z
      · rw [q] at z
        cases z
        exact ⟨ha, by rw [List.length_map]; exact hl, vs, _, rel, ha⟩
    have e0 : Env0 P w K mg (hidT s1.heap T) callerA [] s1 T := ⟨rfl, hM, fun b o e => of_hidT e, Nat.le_of_eq (hidT_size _ _), trivial, fun b z => absurd (show b ∈ ([] : List Addr) from z) List.not_mem_nil, hok, .of_eq hg⟩
    refine codeAny_mono ((F _ kin (nsfree hns)).run callerA [] s1 T ⟨[.ref a], []⟩ [.ref a] [.ref a] (fun v _ => v = .bl true) (fun _ _ _ => False) hr rfl e0 (hbind s1 (.ref a)) (.cons rfl .nil) ?_) fun r s2 out => ?_
    · exact ⟨_, [], rfl, fun p z => (List.not_mem_nil z).elim, dp_script hS, by
        rw [ht]
        exact fun v H' _ q => by
          cases (show Dp K (hid [] H') v (.bool true) from q)
          rfl⟩
    · match r, out with
      | .error e, out =>
        obtain ⟨_, _, _, _, _, _, _, _, _, _, _, _, z⟩ := out
        exact z.elim
      | .ok .next, out => exact out.elim
      | .ok .brk, out => exact out.elim
      | .ok .cont, out => exact out.elim
      | .ok (.ret u), out =>
        obtain ⟨v, T2, os, bare, un, hok2, rv, q⟩ := out
        have q : v = .bl true := q
        subst q
        cases (show u = Value.bool true from rv)
        refine ⟨rfl, OldK.of_keep fun b o e => ?_, os, bare⟩
        rcases hT b with z | ⟨rfl, _, z⟩
        · exact un.keep b o e z (fun m => absurd (show b ∈ ([] : List Addr) from m) List.not_mem_nil) List.not_mem_nil
        · have z2 := un.frzs b _ _ z
          obtain ⟨f2, _⟩ := hok2 b _ z2
          obtain ⟨f1, _⟩ := hok b _ z
          rw [e] at f1
          cases f1
          exact f2
  cases hk : K.lookup a with
  | some o =>
    have e := KX a o hk
    rw [ha] at e
    cases e
    exact main (fun _ => none) (fun _ => .inl rfl) (.inr ⟨_, vs.toArray, _, hk, rfl, rfl, rfl, by rw [List.size_toArray, lenV]; exact hl, by simpa using rel⟩)
  | none =>
    refine main (fun b => if b = a then some (.frz { cls := .type "list", data := .seq vs.toArray } (.lst (ns.map V.int))) else none) (fun b => ?_) (.inl (.inr ⟨_, if_pos rfl⟩))
    by_cases hba : b = a
    · exact .inr ⟨hba, hk, if_pos hba⟩
    · exact .inl (if_neg hba)
/-- what k_head leaves, from the law's promise by data -/
theorem walk_end {l : PySem.W.OpenLaw} {n k : Nat} {q : Program} {loose : List Str} {XP : (Str → Option Value) → Heap → Prop} {YP : World → Heap → Prop} {d : DefRec} {K : Params → PySem.W.Frag} {x : Str} {Fn : List D → R D}
    (hn : l.most = some n) (hn2 : n ≤ sizeLine) (hdf : d.params.defaults = []) (hr : Room k callerA) (hY : ∀ (w : World) (h : Heap), YP w h → (K w.params).In h)
    (F : ∀ (w : World) (mg : Str → Option Value) (fa : Addr) (h : Heap), (K w.params).In h → h.Ns mainGlobals mg → mg d.name = some (.ref fa) → ∃ fd : FuncData, (∀ (s : Shared) (u : Value), BindsTo s fd ⟨[u], []⟩ [(x, u)]) ∧
      ∀ base : Heap, (K w.params).In base → base.Ns mainGlobals mg → FnG l.prog w (K w.params) mg base k fa fd [x] (spD (K w.params) mg (rD (K w.params)) 1 Fn))
    (ht : ∀ ns : List Int, ns.length ≤ n → Fn [.list (ns.map PyData.int)] = .ok (.bool true)) : PySem.W.WalkO q loose XP YP l.row.toRowW d [] (fun f vs => PySem.call f vs) := by
  refine Att.attach_call hn hdf fun w s0 s1 mg mb fa o pm cd doc a vs ns G Y ho hd hcd hmg hobj hints hlen hg => ?_
  obtain ⟨fd, hb, hF⟩ := F w mg fa _ (hY w _ Y) G.T.g hmg
  exact law_end (hY w _ Y) G.T.g G.T.b G.T.builtins G.T.nolimit hg hobj hints (Nat.le_trans hlen hn2) hr hF hb (ht ns hlen)
end Bd
/-! D9: reversed ranges; slices with a step. -/
namespace Bd
open PySem L2

section
variable {X : Cx} {W : WX} {rl : Rl} {a b c e tg iter : Expr} {Fa Fb F : Nv → R D} {Fs : Nv → R (List D)} {pos p p2 : Pos} {es : List Expr}
/-! for k in reversed(range(n)) -/
def rrD (n : Nat) : List D := (List.range n).map fun i => PyData.int ((n : Int) - 1 - (i : Nat))
def rr1 : D → R (List D)
  | .int n => if -(2 ^ 62) ≤ n ∧ n < 2 ^ 62 then .ok (rrD n.toNat) else .no
  | _ => .no
def iRR (F : Nv → R D) : Nv → R (List D) := fun η => (F η).bind rr1
theorem walks_rr {K : PySem.W.Frag} {H1 : Hp} {A : List Addr} {lo : Int} {n : Nat} (h : lo = (n : Int) - 1) : Walks K (Itc lo (-1) n) H1 A (rrD n) where
  step := fun i x e A' H2 s _ => by
    unfold rrD at e
    rw [List.getElem?_map] at e
    by_cases hi : i < n
    · rw [List.getElem?_range hi] at e
      cases e
      refine ⟨hi, fun u H3 y => ?_⟩
      obtain ⟨rfl, rfl⟩ := y
      refine ⟨Same.refl _, ?_⟩
      have e2 : lo + (i : Nat) * (-1) = (n : Int) - 1 - (i : Nat) := by rw [h]; omega
      rw [e2]
      exact .int _
    · rw [List.getElem?_eq_none (by simp; omega)] at e
      cases e
  stop := fun A' H2 s => by
    unfold rrD
    rw [List.length_map, List.length_range]
    exact Nat.le_refl _
theorem i_revR (hm : X.mg "reversed" = none) (hm2 : X.mg "range" = none) (ha : TO X W a Fa) (hg : Gl X "reversed" := by rfl) (hg2 : Gl X "range" := by rfl) (na : starEach [a] X.env = (false, eval a X.env) :: starEach [] X.env := by rfl)
    (hs : starEach [.Call (.Name "range" p2) [a] [] pos] X.env = (false, eval (.Call (.Name "range" p2) [a] [] pos) X.env) :: starEach [] X.env := by rfl) {q : Pos} {q2 : Pos} : TI' X W tg (.Call (.Name "reversed" q) [.Call (.Name "range" p2) [a] [] pos] [] q2) (iRR Fa) :=
  piW (pi_revR hg hm (prg_1 hg2 hm2 ha na) hs) fun σ H Q ⟨η, A, E, p0⟩ => by
    have p : PostI X.K X.mg W σ A H ((Fa η).bind rr1) Q := p0
    refine (show tR X.K X.mg W (rO X.K) Fa σ H _ from ⟨η, A, E, ?_⟩)
    cases e1 : Fa η with
    | ex c w q => rw [e1] at p; exact p
    | no => rw [e1] at p; exact p
    | ok d =>
      rw [e1] at p
      intro v H1 s1 q1
      cases d with
      | int n =>
        have p : PostI X.K X.mg W σ A H (if -(2 ^ 62) ≤ n ∧ n < 2 ^ 62 then .ok (rrD n.toNat) else .no) Q := p
        split at p
        · rename_i hb
          have e0 : n - 0 = n := by omega
          refine ⟨n, rO_int q1, by decide, by decide, hb.1, hb.2, ?_⟩
          rw [e0]
          exact p _ H1 s1 (walks_rr (by omega))
        · exact False.elim p
      | _ => exact False.elim p
/-! [::-1] -/
section
variable {prog : Program} {w : World} {A : Around} {E : Value → Shared → Prop} {s : Shared}
theorem part_back {v : Value} {t : Tok} {Q : Option Int → Shared → Prop} (e : v = .int (-1) t) (h : Q (some (-1)) s) : wpAny (model prog w) A (Builtin.Slice.slicePartIndex v) Q E s := by
  subst e
  exact HT.slicePart_ (.int (-1) t) h
theorem back_adjust (n : Nat) : Builtin.Slice.sliceAdjust none none (-1) (n : Int) = ((n : Int) - 1, -1) := by
  unfold Builtin.Slice.sliceAdjust
  rfl
theorem back_places (n : Nat) : Builtin.Slice.slicePlaces ((n : Int) - 1) (-1) (-1) = n := by
  unfold Builtin.Slice.slicePlaces
  have h1 : ¬ ((-1 : Int) > 0) := by omega
  simp only [h1, if_false, Int.neg_neg, Int.ediv_one]
  split <;> omega
theorem back_pick (xs : Array Value) : ((List.range xs.size).filterMap fun (m : Nat) => xs[((xs.size : Int) - 1 + (m : Int) * (-1)).toNat]?) = xs.toList.reverse := by
  have e : ∀ l : List Nat, (l.filterMap fun (m : Nat) => xs[((xs.size : Int) - 1 + (m : Int) * (-1)).toNat]?) = (l.map fun k => xs.size - 1 - k).filterMap (xs[·]?) := by
    intro l
    induction l with
    | nil => rfl
    | cons m r ih =>
      have : ((xs.size : Int) - 1 + (m : Int) * (-1)).toNat = xs.size - 1 - m := by omega
      rw [List.map_cons, List.filterMap_cons, List.filterMap_cons, ih, this]
  rw [e, PySem.W.krv_range, List.filterMap_reverse, PySem.W.krv_all]
theorem tuple_back {t sl : Addr} {items : Array Value} {u : Tok} {Q : Value → Shared → Prop} (ht : PyProof.Rows.IsTup s.heap t items) (hs : s.heap.IsSliceOf sl .none .none (.int (-1) u))
    (h : Q (.ref s.heap.objs.size) { s with heap := s.heap.push { cls := .type "tuple", data := .seq items.toList.reverse.toArray } }) (hsz : items.size ≤ sizeLine) : wpAny (model prog w) A (getItem (.ref t) (.ref sl)) Q E s := by
  have fits : sizeOk (.seq items.toList.reverse.toArray) := by
    show items.toList.reverse.toArray.size ≤ sizeLine
    simpa using hsz
  obtain ⟨os, hos, hcs, hds⟩ := id hs
  have tyS : s.TypeIs (.ref sl) "slice" := ⟨os, hos, hcs⟩
  unfold getItem
  try with_reducible refine wpAny_holding ?_
  first | refine wpAny_bind (wpAny_pure ?_) | skip
  refine wpAny_bind (wpAny_sequenceKey ht.typeIs (by decide) ?_)
  refine wpAny_bind (wpAny_callSpecial?_slot (name := Str.ofString "__getitem__") ht.typeIs PyProof.Rows.slot_tuple_getitem (wpAny_call_entry PyProof.Rows.slot_tuple_getitem ht.typeIs PyProof.Rows.entry_tuple_getitem ?_ (PyProof.Rows.args_tuple_getitem _ _)))
  refine wpAny_bind (m := Builtin.Tuple.tupleItemsOf (.ref t)) (PyProof.Rows.tupleItemsOf_ ht ?_)
  refine wpAny_bind (wpAny_typeOf tyS ?_)
  rw [if_pos (by decide)]
  have app : ∀ {R1 : Int × Int × Nat → Shared → Prop}, R1 ((items.size : Int) - 1, -1, items.size) s → wpAny (model prog w) A.in1 (Builtin.Slice.sliceApplied (.ref sl) (pure (items.size : Int))) R1 (fun _ _ => False) s := fun {R1} r => by
    unfold Builtin.Slice.sliceApplied Builtin.Slice.sliceFields
    refine wpAny_bind (wpAny_bind (wpAny_field hos hds (x := Value.none) rfl (wpAny_bind (wpAny_field hos hds (x := Value.none) rfl (wpAny_bind (wpAny_field hos hds (x := .int (-1) u) rfl (wpAny_pure ?_)))))))
    refine wpAny_bind (part_back rfl ?_)
    show wpAny _ _ (if ((-1 : Int) == 0) = true then _ else _) _ _ s
    rw [if_neg (show ¬ (((-1 : Int) == 0) = true) by decide)]
    refine wpAny_bind (HT.slicePart_ .none (wpAny_bind (HT.slicePart_ .none (wpAny_bind (wpAny_pure ?_)))))
    show wpAny _ _ (match Builtin.Slice.sliceAdjust none none (-1) (items.size : Int) with | (lo, hi) => pure (lo, (-1 : Int), Builtin.Slice.slicePlaces lo hi (-1))) _ _ s
    rw [back_adjust items.size]
    show wpAny _ _ (pure ((items.size : Int) - 1, (-1 : Int), Builtin.Slice.slicePlaces ((items.size : Int) - 1) (-1) (-1))) _ _ s
    rw [back_places]
    exact wpAny_pure r
  refine wpAny_bind (wpAny_mono (app (R1 := fun x s2 => x = ((items.size : Int) - 1, -1, items.size) ∧ s2 = s) ⟨rfl, rfl⟩) (fun x s2 z => ?_) fun _ _ z => z.elim)
  obtain ⟨rfl, rfl⟩ := z
  have no : ¬ (((items.size : Int) - 1 == 0 && (-1 : Int) == 1 && items.size == items.size) = true) := by
    have q : ((-1 : Int) == 1) = false := by decide
    rw [q, Bool.and_false, Bool.false_and]
    exact Bool.false_ne_true
  show wpAny _ _ (if (((items.size : Int) - 1 == 0 && (-1 : Int) == 1 && items.size == items.size) = true) then _ else _) _ _ s2
  rw [if_neg no, back_pick]
  first
    | exact wpAny_bind (m := Builtin.Tuple.tupleExact _) (wpAny_newObj_type (wpAny_pure ⟨_, rfl, wpAny_pure h⟩) fits)
    | exact wpAny_bind (m := Builtin.Tuple.tupleExact _) (wpAny_newObj_type (wpAny_bind (wpAny_pure (wpAny_pure ⟨_, rfl, wpAny_pure h⟩))) fits)
    | exact wpAny_bind (wpAny_bind (m := Builtin.Tuple.tupleExact _) (wpAny_newObj_type (wpAny_pure (wpAny_pure ⟨_, rfl, wpAny_pure h⟩)) fits))
end
/-- a list or a tuple, from its end -/
def revV : D → Option D
  | .list xs => some (.list xs.reverse)
  | .tuple xs => some (.tuple xs.reverse)
  | _ => none
def tRevT (K : PySem.W.Frag) (te : TE) : TE := fun σ H Q => te σ H fun x H1 => ∃ a xs, x = .ref a ∧ SqT K H1 a xs ∧ ∀ q, H1 q = none → Q (.ref q) (upd H1 q (.tup xs.reverse))
theorem pe_revT {te : TE} {k : Nat} {q1 q2 q3 : Pos} (he : PE X e te) : PE X (.Subscript e (.Slice none none (some (.UnaryOp .USub (.Constant (.int 1) k q1) q2)) q3) pos) (tRevT X.K te) := by
  refine ⟨fun pins s σ H Q I h => PyProof.Rows.Subscript_ (thn (he.run pins s σ H _ I h) fun v s1 z => ?_)⟩
  obtain ⟨x, H1, I1, r1, a, xs, rfl, hx, q⟩ := z
  cases r1
  have st : PO X (some (.UnaryOp .USub (.Constant (.int 1) k q1) q2)) (tPart (tUn (rU fun i => .int (-i)) (tC (.int 1)))) := po_some (pe_un un_neg pe_int)
  have none0 : ∀ {s2 : Shared} {H2 : Hp}, Inv X pins σ H2 s2 → wpAny (model X.prog X.w) X.A (evalPart none X.env) (fun u s3 => ∃ o H3, Inv X pins σ H3 s3 ∧ IsPart u o ∧ o = none ∧ H3 = H2) X.xe s2 := fun {s2 H2} I2 => po_none.run pins s2 σ H2 (fun o H3 => o = none ∧ H3 = H2) I2 ⟨rfl, rfl⟩
  refine wpAny_Slice (thn (none0 I1) fun vl s2 y => ?_)
  obtain ⟨l, H2, I2, pl, el, eh⟩ := y
  subst el eh
  refine thn (none0 I2) fun vu s3 y => ?_
  obtain ⟨u, H3, I3, pu, eu, eh⟩ := y
  subst eu eh
  refine thn (st.run pins s3 σ H3 (fun o H4 => o = some (-1) ∧ H4 = H3) I3 ⟨1, rfl, -1, rfl, rfl, rfl⟩) fun vs s4 y => ?_
  obtain ⟨o, H4, I4, ps, eo, eh⟩ := y
  subst eo eh
  cases pl
  cases pu
  obtain ⟨t, et⟩ : ∃ t, vs = .int (-1) t := by
    cases ps with
    | int i t => exact ⟨t, rfl⟩
  subst et
  have I5 : Inv X pins σ H4 { s4 with heap := s4.heap.push { cls := .type "slice", data := .fields #[.none, .none, .int (-1) t] } } := I4.kept (t' := s4.toks) fun b ob z => Heap.get?_push_of_some _ z
  obtain ⟨its, rv, tt, hz⟩ := I5.tuple hx
  have hlen := rv.length
  show wpAny (model X.prog X.w) X.A (PyProof.Rows.subscriptTail e (.Slice none none (some (.UnaryOp .USub (.Constant (.int 1) k q1) q2)) q3) (.ref a) (.ref s4.heap.objs.size)) (EP X pins σ Q) X.xe { s4 with heap := s4.heap.push { cls := .type "slice", data := .fields #[.none, .none, .int (-1) t] } }
  refine PyProof.Rows.tail_any (ops := [.ref a, .ref s4.heap.objs.size]) tt.typeIs (PyProof.Rows.slot_tuple_getitem.lookup) ?_ (by with_unfolding_all rfl)
  refine tuple_back tt (Heap.IsSliceOf.new _ .none .none (.int (-1) t)) ?_ (by rw [List.size_toArray]; omega)
  refine ⟨.ref _, _, I5.laid (t' := s4.toks) (o := .tup xs.reverse) (fun b ob z => Heap.get?_push_of_some _ z) (Nat.le_refl _) ?_, rfl, q _ (I5.hok.fresh (Nat.le_refl _))⟩
  exact ⟨by rw [List.length_reverse]; exact hz, _, rv.reverse, PyProof.Rows.IsTup.new _ _⟩
theorem t_rev {k : Nat} {q1 q2 q3 : Pos} (ha : TO X W a Fa) : TD X W (.Subscript a (.Slice none none (some (.UnaryOp .USub (.Constant (.int 1) k q1) q2)) q3) pos) (e1 revV Fa) := ⟨fun pins s σ H Q I q => by
  obtain ⟨η, A, E, p0⟩ := id q
  have p : Post X.K X.mg W (rD X.K) σ A H ((Fa η).bind fun x => .of (revV x)) Q := p0
  have viaL : tRevL X.K (tR X.K X.mg W (rO X.K) Fa) σ H Q → wpAny (model X.prog X.w) X.A (eval (.Subscript a (.Slice none none (some (.UnaryOp .USub (.Constant (.int 1) k q1) q2)) q3) pos) X.env) (EP X pins σ Q) X.xe s := fun z => (pe_revL ha).run pins s σ H Q I z
  have viaT : tRevT X.K (tR X.K X.mg W (rO X.K) Fa) σ H Q → wpAny (model X.prog X.w) X.A (eval (.Subscript a (.Slice none none (some (.UnaryOp .USub (.Constant (.int 1) k q1) q2)) q3) pos) X.env) (EP X pins σ Q) X.xe s := fun z => (pe_revT ha).run pins s σ H Q I z
  cases e1 : Fa η with
  | ex c w z =>
    rw [e1] at p
    exact viaL (show tR X.K X.mg W (rO X.K) Fa σ H _ from ⟨η, A, E, by rw [e1]; exact p⟩)
  | no => rw [e1] at p; exact False.elim p
  | ok d =>
    rw [e1] at p
    cases d with
    | list xs =>
      refine viaL (show tR X.K X.mg W (rO X.K) Fa σ H _ from ⟨η, A, E, ?_⟩)
      rw [e1]
      intro v H1 s1 q1
      obtain ⟨l, vs, rfl, h1, q2⟩ := rO_list q1
      exact ⟨l, vs, rfl, h1, fun z hz => p _ _ (s1.trans (same_new hz)) (rF_D (nofree E.tr) (back_F _ _ _ _ _ _ s1 (dp_new_list (E.same s1).tr hz (DpAll_rev q2))))⟩
    | tuple xs =>
      refine viaT (show tR X.K X.mg W (rO X.K) Fa σ H _ from ⟨η, A, E, ?_⟩)
      rw [e1]
      intro v H1 s1 q1
      obtain ⟨l, vs, rfl, h1, _, q2⟩ := rO_tup q1
      exact ⟨l, vs, rfl, h1, fun z hz => p _ _ (s1.trans (same_new hz)) (dp_new_tup (E.same s1).tr hz (DpAll_rev q2))⟩
    | _ => exact False.elim p⟩
end
end Bd
/-! M0: how the mirrors are reckoned. -/
namespace Bd
open PySem L2

/-! ### names -/
@[simp] theorem gv_zero (x : D) (η : Nv) : gv 0 (.d x :: η) = .ok x := Eq.trans rfl rfl
@[simp] theorem gv_succ (i : Nat) (s : Sl) (η : Nv) : gv (i + 1) (s :: η) = gv i η := Eq.trans rfl rfl
@[simp] theorem go_own (x : List D) (η : Nv) : go 0 (.own x :: η) = .ok (.list x) := Eq.trans rfl rfl
@[simp] theorem go_dat (x : D) (η : Nv) : go 0 (.d x :: η) = .ok x := Eq.trans rfl rfl
@[simp] theorem go_succ (i : Nat) (s : Sl) (η : Nv) : go (i + 1) (s :: η) = go i η := Eq.trans rfl rfl
@[simp] theorem k0_def (d : D) (η : Nv) : k0 d η = .ok d := Eq.trans rfl rfl
@[simp] theorem of_some (d : D) : R.of (some d) = .ok d := Eq.trans rfl rfl
@[simp] theorem of_none : R.of none = .no := Eq.trans rfl rfl
@[simp] theorem e2_def (f : D → D → Option D) (Fa Fb : Nv → R D) (η : Nv) : e2 f Fa Fb η = (Fa η).bind fun x => (Fb η).bind fun y => .of (f x y) := Eq.trans rfl rfl
@[simp] theorem e1_def (f : D → Option D) (Fa : Nv → R D) (η : Nv) : e1 f Fa η = (Fa η).bind fun x => .of (f x) := Eq.trans rfl rfl
@[simp] theorem eN_def (f : List D → Option D) (Fs : Nv → R (List D)) (η : Nv) : eN f Fs η = (Fs η).bind fun ds => .of (f ds) := Eq.trans rfl rfl
@[simp] theorem a0_def (η : Nv) : a0 η = .ok [] := Eq.trans rfl rfl
@[simp] theorem aC_def (Fa : Nv → R D) (Fs : Nv → R (List D)) (η : Nv) : aC Fa Fs η = (Fa η).bind fun x => (Fs η).bind fun xs => .ok (x :: xs) := Eq.trans rfl rfl
@[simp] theorem callV_def (Fn : List D → R D) (Fs : Nv → R (List D)) (η : Nv) : callV Fn Fs η = (Fs η).bind fun ds => noex (Fn ds) := Eq.trans rfl rfl
@[simp] theorem noex_ok (d : D) : noex (.ok d) = .ok d := Eq.trans rfl rfl
@[simp] theorem tb_def (F : Nv → R D) (η : Nv) : tb F η = (F η).bind tru := Eq.trans rfl rfl
@[simp] theorem tru_bool (b : Bool) : tru (.bool b) = .ok b := Eq.trans rfl rfl
@[simp] theorem tru_none : tru .none = .ok false := Eq.trans rfl rfl
@[simp] theorem tru_int (i : Int) : tru (.int i) = .ok (i != 0) := Eq.trans rfl rfl
@[simp] theorem tru_list (xs : List D) : tru (.list xs) = .ok !xs.isEmpty := Eq.trans rfl rfl
@[simp] theorem andB_def (Ga Gb : Nv → R Bool) (η : Nv) : andB Ga Gb η = (Ga η).bind fun k => if k then Gb η else .ok false := Eq.trans rfl rfl
@[simp] theorem orB_def (Ga Gb : Nv → R Bool) (η : Nv) : orB Ga Gb η = (Ga η).bind fun k => if k then .ok true else Gb η := Eq.trans rfl rfl
@[simp] theorem notB_def (Ga : Nv → R Bool) (η : Nv) : notB Ga η = (Ga η).bind fun k => .ok !k := Eq.trans rfl rfl
@[simp] theorem andV_def (Fa Fb : Nv → R D) (η : Nv) : andV Fa Fb η = (Fa η).bind fun x => (tru x).bind fun k => if k then Fb η else .ok x := Eq.trans rfl rfl
@[simp] theorem orV_def (Fa Fb : Nv → R D) (η : Nv) : orV Fa Fb η = (Fa η).bind fun x => (tru x).bind fun k => if k then .ok x else Fb η := Eq.trans rfl rfl
@[simp] theorem notV_def (Fa : Nv → R D) (η : Nv) : notV Fa η = (Fa η).bind fun x => (tru x).bind fun k => .ok (.bool !k) := Eq.trans rfl rfl
@[simp] theorem ifV_def (G : Nv → R Bool) (Fa Fb : Nv → R D) (η : Nv) : ifV G Fa Fb η = (G η).bind fun k => if k then Fa η else Fb η := Eq.trans rfl rfl
@[simp] theorem chainV_def (f g : D → D → Option D) (Fa Fb Fc : Nv → R D) (η : Nv) : chainV f g Fa Fb Fc η = (Fa η).bind fun x => (Fb η).bind fun y => (R.of (f x y)).bind fun z => (tru z).bind fun k => if k then (Fc η).bind fun w => .of (g y w) else .ok (.bool false) := Eq.trans rfl rfl
@[simp] theorem tupV_def (Fs : Nv → R (List D)) (η : Nv) : tupV Fs η = (Fs η).bind fun ds => .of (if ds.length ≤ lineN then some (.tuple ds) else none) := Eq.trans rfl rfl
@[simp] theorem lstV_def (Fs : Nv → R (List D)) (η : Nv) : lstV Fs η = (Fs η).bind fun ds => .of (if ds.length ≤ lineN then some (.list ds) else none) := Eq.trans rfl rfl
@[simp] theorem slE_def (sl : Option Int → Option Int → D → Option D) (F : Nv → R D) (Lo Hi : Nv → R (Option Int)) (η : Nv) : slE sl F Lo Hi η = (F η).bind fun x => (Lo η).bind fun l => (Hi η).bind fun h => .of (sl l h x) := Eq.trans rfl rfl
@[simp] theorem p0_def (η : Nv) : p0 η = .ok none := Eq.trans rfl rfl
@[simp] theorem p1_def (F : Nv → R D) (η : Nv) : p1 F η = (F η).bind asInt := Eq.trans rfl rfl
@[simp] theorem asInt_int (i : Int) : asInt (.int i) = .ok (some i) := Eq.trans rfl rfl
/-! statements -/
@[simp] theorem toS_ok {α : Type} (a : α) (f : α → Rs) : (R.ok a).toS f = f a := Eq.trans rfl rfl
@[simp] theorem toS_no {α : Type} (f : α → Rs) : (R.no : R α).toS f = .no := Eq.trans rfl rfl
@[simp] theorem seqS_def (Gs Gt : Nv → Rs) (η : Nv) : seqS Gs Gt η = (Gs η).bind Gt := Eq.trans rfl rfl
@[simp] theorem bind_nx (η : Nv) (f : Nv → Rs) : (Rs.nx η).bind f = f η := Eq.trans rfl rfl
@[simp] theorem bind_rt (d : D) (f : Nv → Rs) : (Rs.rt d).bind f = .rt d := Eq.trans rfl rfl
@[simp] theorem bind_ct (η : Nv) (f : Nv → Rs) : (Rs.ct η).bind f = .ct η := Eq.trans rfl rfl
@[simp] theorem bind_bk (η : Nv) (f : Nv → Rs) : (Rs.bk η).bind f = .bk η := Eq.trans rfl rfl
@[simp] theorem bind_ex (c w : Str) (p : D) (f : Nv → Rs) : (Rs.ex c w p).bind f = .ex c w p := Eq.trans rfl rfl
@[simp] theorem setS_def (i : Nat) (F : Nv → R D) (η : Nv) : setS i F η = (F η).toS fun x => .nx (η.set i (.d x)) := Eq.trans rfl rfl
@[simp] theorem retS_def (F : Nv → R D) (η : Nv) : retS F η = (F η).toS .rt := Eq.trans rfl rfl
@[simp] theorem exprS_def (F : Nv → R D) (η : Nv) : exprS F η = (F η).toS fun _ => .nx η := Eq.trans rfl rfl
@[simp] theorem ifS_def (G : Nv → R Bool) (Gs Gt : Nv → Rs) (η : Nv) : ifS G Gs Gt η = (G η).toS fun k => if k then Gs η else Gt η := Eq.trans rfl rfl
@[simp] theorem forS_def (Fi : Nv → R (List D)) (T : Tgt) (Gb : Nv → Rs) (η : Nv) : forS Fi T Gb η = (Fi η).toS fun xs => loopG T Gb xs η := Eq.trans rfl rfl
theorem ownS_list (i : Nat) (F : Nv → R D) (η : Nv) (xs : List D) (h : F η = .ok (.list xs)) : ownS i F η = .nx (η.set i (.own xs)) := by
  unfold ownS
  rw [h]
  rfl
theorem appS_own (i : Nat) (F : Nv → R D) (η : Nv) (xs : List D) (y : D) (h1 : η[i]? = some (.own xs)) (h2 : F η = .ok y) (h3 : xs.length < lineN) : appS i F η = .nx (η.set i (.own (xs ++ [y]))) := by
  unfold appS
  rw [h1]
  show (F η).toS _ = _
  rw [h2]
  show (if xs.length < lineN then _ else _) = _
  rw [if_pos h3]
theorem retO_own (i : Nat) (η : Nv) (xs : List D) (h : η[i]? = some (.own xs)) : retO i η = .rt (.list xs) := by
  unfold retO
  rw [h]
@[simp] theorem gN_def (i : Nat) (x : D) (η : Nv) : gN i x η = some (η.set i (.d x)) := Eq.trans rfl rfl
@[simp] theorem iA_def (F : Nv → R D) (η : Nv) : iA F η = (F η).bind asSeq := Eq.trans rfl rfl
@[simp] theorem asSeq_list (xs : List D) : asSeq (.list xs) = .ok xs := Eq.trans rfl rfl
@[simp] theorem asSeq_tup (xs : List D) : asSeq (.tuple xs) = .ok xs := Eq.trans rfl rfl
@[simp] theorem iR1_def (Fs : Nv → R (List D)) (η : Nv) : iR1 Fs η = (Fs η).bind rng1 := Eq.trans rfl rfl
@[simp] theorem iR2_def (Fs : Nv → R (List D)) (η : Nv) : iR2 Fs η = (Fs η).bind rng2 := Eq.trans rfl rfl
@[simp] theorem iZ_def (Fs : Nv → R (List D)) (η : Nv) : iZ Fs η = (Fs η).bind zip2 := Eq.trans rfl rfl
@[simp] theorem iRR_def (F : Nv → R D) (η : Nv) : iRR F η = (F η).bind rr1 := Eq.trans rfl rfl
theorem rng1_ok {n : Int} (h0 : 0 ≤ n) (h : n < 1000000) : rng1 [.int n] = .ok (rangeD 0 n.toNat) := by
  show (if -(2 ^ 62) ≤ n ∧ n < 2 ^ 62 then _ else _) = _
  rw [if_pos ⟨by omega, by omega⟩]
/-! values -/
@[simp] theorem addV_int (i j : Int) : addV (.int i) (.int j) = some (.int (i + j)) := Eq.trans rfl rfl
@[simp] theorem subV_int (i j : Int) : subV (.int i) (.int j) = some (.int (i - j)) := Eq.trans rfl rfl
theorem mulV_int {i j : Int} (h : (-(2 ^ 64) < i ∧ i < 2 ^ 64) ∨ (-(2 ^ 64) < j ∧ j < 2 ^ 64)) : mulV (.int i) (.int j) = some (.int (i * j)) := if_pos h
theorem fdivV_int {i j : Int} (h : 0 < j ∧ j < 1073741824) : fdivV (.int i) (.int j) = some (.int (i / j)) := if_pos h
theorem modV_int {i j : Int} (h : 0 < j) : modV (.int i) (.int j) = some (.int (i % j)) := if_pos h
theorem powV_int {i j : Int} (h : 0 ≤ j ∧ j ≤ 1000000 ∧ i.natAbs < 2 ^ 64) : powV (.int i) (.int j) = some (.int (i ^ j.toNat)) := if_pos h
@[simp] theorem ltV_int (i j : Int) : ltV (.int i) (.int j) = some (.bool (decide (i < j))) := Eq.trans rfl rfl
@[simp] theorem leV_int (i j : Int) : leV (.int i) (.int j) = some (.bool (decide (i ≤ j))) := Eq.trans rfl rfl
@[simp] theorem gtV_int (i j : Int) : gtV (.int i) (.int j) = some (.bool (decide (j < i))) := Eq.trans rfl rfl
@[simp] theorem geV_int (i j : Int) : geV (.int i) (.int j) = some (.bool (decide (j ≤ i))) := Eq.trans rfl rfl
@[simp] theorem negV_int (i : Int) : negV (.int i) = some (.int (-i)) := Eq.trans rfl rfl
@[simp] theorem intV_int (i : Int) : intV [.int i] = some (.int i) := Eq.trans rfl rfl
@[simp] theorem lenV_list (xs : List D) : lenV [.list xs] = some (.int xs.length) := Eq.trans rfl rfl
@[simp] theorem lenV_tup (xs : List D) : lenV [.tuple xs] = some (.int xs.length) := Eq.trans rfl rfl
@[simp] theorem ixV_list (xs : List D) (i : Int) : ixV (.list xs) (.int i) = atD xs i := Eq.trans rfl rfl
@[simp] theorem ixV_tup (xs : List D) (i : Int) : ixV (.tuple xs) (.int i) = atD xs i := Eq.trans rfl rfl
theorem atD_nat {xs : List D} {i : Int} {d : D} (h0 : 0 ≤ i) (h : xs[i.toNat]? = some d) : atD xs i = some d := by
  have hl : i.toNat < xs.length := (List.getElem?_eq_some_iff.mp h).1
  unfold atD ixN
  rw [if_pos h0, if_pos (by omega)]
  exact h
/-! ### loops and comprehensions -/
@[simp] theorem loopG_nil (T : Tgt) (Gb : Nv → Rs) (η : Nv) : loopG T Gb [] η = .nx η := Eq.trans rfl rfl
theorem loopG_cons (T : Tgt) (Gb : Nv → Rs) (x : D) (xs : List D) (η η1 : Nv) (h : T x η = some η1) : loopG T Gb (x :: xs) η = match Gb η1 with
    | .nx η2 => loopG T Gb xs η2
    | .ct η2 => loopG T Gb xs η2
    | .bk η2 => .nx η2
    | .rt d => .rt d
    | .ex c w p => .ex c w p
    | .no => .no := by
  show (match T x η with | none => _ | some η1 => _) = _
  rw [h]
  try rfl
theorem compD_map {T : Tgt} {C : Nv → R Bool} {El : Nv → R D} {η : Nv} {g : D → D} : ∀ (xs : List D), (∀ x ∈ xs, ∃ η1, T x η = some η1 ∧ C η1 = .ok true ∧ El η1 = .ok (g x)) → compD T C El η xs = .ok (xs.map g)
  | [], _ => rfl
  | x :: xs, h => by
    obtain ⟨η1, h1, h2, h3⟩ := h x List.mem_cons_self
    show (match T x η with | none => _ | some η1 => _) = _
    rw [h1]
    show (C η1).bindN _ = _
    rw [h2]
    show (El η1).bindN _ = _
    rw [h3]
    show (compD T C El η xs).bindN _ = _
    rw [compD_map xs fun y m => h y (List.mem_cons_of_mem _ m)]
    rfl
theorem compD_filter {T : Tgt} {C : Nv → R Bool} {El : Nv → R D} {η : Nv} {g : D → D} {c : D → Bool} : ∀ (xs : List D), (∀ x ∈ xs, ∃ η1, T x η = some η1 ∧ C η1 = .ok (c x) ∧ (c x = true → El η1 = .ok (g x))) → compD T C El η xs = .ok ((xs.filter c).map g)
  | [], _ => rfl
  | x :: xs, h => by
    obtain ⟨η1, h1, h2, h3⟩ := h x List.mem_cons_self
    show (match T x η with | none => _ | some η1 => _) = _
    rw [h1]
    show (C η1).bindN _ = _
    rw [h2]
    have ih := compD_filter xs fun y m => h y (List.mem_cons_of_mem _ m)
    cases hc : c x with
    | false =>
      show compD T C El η xs = _
      rw [ih, List.filter_cons_of_neg (by rw [hc]; exact Bool.false_ne_true)]
    | true =>
      show (El η1).bindN _ = _
      rw [h3 hc]
      show (compD T C El η xs).bindN _ = _
      rw [ih, List.filter_cons_of_pos hc]
      rfl
theorem compE_ok {Fi : Nv → R (List D)} {T : Tgt} {C : Nv → R Bool} {El : Nv → R D} {vs : List Nat} {η : Nv} {xs ys : List D} (h1 : Fi η = .ok xs) (h2 : compD T C El (wipeE η vs) xs = .ok ys) (h3 : ys.length ≤ lineN) : compE Fi T C El vs η = .ok (.list ys) := by
  unfold compE
  rw [h1]
  show (compD T C El (wipeE η vs) xs).bindN _ = _
  rw [h2]
  show (if ys.length ≤ lineN then _ else _) = _
  rw [if_pos h3]
theorem runD_rt {m : Nat} {fall : R D} {G : Nv → Rs} {ds : List D} {d : D} (η : Nv) (hi : initD m ds = η) (h : G η = .rt d) : runD m fall G ds = .ok d := by
  subst hi
  unfold runD
  rw [h]
/-! ### the laws' own helpers -/
namespace Lw
def G_cell : Nv → Rs :=
    (seqS (ifS (tb (e2 ltV (gv 1) (eN lenV (aC (gv 0) a0)))) (seqS (retS (e2 ixV (gv 0) (gv 1)))
    .nx) .nx)
    (seqS (retS (k0 (.int 0)))
    .nx))
def F_cell : List D → R D := runD 2 (.ok .none) G_cell
def cell (ns : List Int) (k : Nat) : Int := ns.getD k 0
theorem cell_ok (ns : List Int) (k : Nat) : F_cell [.list (ns.map PyData.int), .int (k : Int)] = .ok (.int (cell ns k)) := by
  have i : initD 2 [.list (ns.map PyData.int), .int (k : Int)] = [.d (.list (ns.map PyData.int)), .d (.int (k : Int))] := rfl
  unfold F_cell runD
  rw [i]
  by_cases h : k < ns.length
  · have e : G_cell [.d (.list (ns.map PyData.int)), .d (.int (k : Int))] = .rt (.int (cell ns k)) := by
      have a : atD (ns.map PyData.int) (k : Int) = some (.int (cell ns k)) := atD_nat (by omega) (by
        rw [List.getElem?_map, Int.toNat_natCast, List.getElem?_eq_getElem h]
        unfold cell
        rw [List.getD_eq_getElem?_getD, List.getElem?_eq_getElem h]
        rfl)
      simp [G_cell, h, a]
    rw [e]
  · have e : G_cell [.d (.list (ns.map PyData.int)), .d (.int (k : Int))] = .rt (.int (cell ns k)) := by
      have c : cell ns k = 0 := by
        unfold cell
        rw [List.getD_eq_getElem?_getD, List.getElem?_eq_none (by omega)]
        rfl
      simp [G_cell, h, c]
    rw [e]
def B_row : Nv → Rs :=
    (seqS (ifS (tb (e2 geV (gv 0) (e2 powV (k0 (.int 10)) (k0 (.int 18))))) (seqS (appS 3 (e2 modV (eN intV (aC (gv 0) a0)) (gv 2)))
    (seqS (setS 0 (e2 fdivV (gv 0) (gv 2)))
    .nx)) (seqS (setS 5 (e2 modV (eN intV (aC (e2 addV (e2 addV (e2 mulV (gv 0) (k0 (.int 48271))) (e2 mulV (gv 4) (k0 (.int 69621)))) (k0 (.int 12345))) a0)) (k0 (.int 2147483647))))
    (seqS (setS 5 (e2 modV (eN intV (aC (e2 addV (e2 addV (e2 mulV (gv 5) (gv 5)) (e2 mulV (k0 (.int 16807)) (gv 4))) (k0 (.int 7))) a0)) (k0 (.int 998244353))))
    (seqS (setS 5 (e2 modV (eN intV (aC (e2 addV (e2 addV (e2 mulV (gv 5) (gv 5)) (e2 mulV (k0 (.int 48271)) (gv 4))) (gv 0)) a0)) (k0 (.int 2147483629))))
    (seqS (appS 3 (e2 modV (eN intV (aC (e2 fdivV (gv 5) (k0 (.int 13))) a0)) (gv 2)))
    .nx)))))
    .nx)
def G_row : Nv → Rs :=
    (seqS (ownS 3 (lstV a0))
    (seqS (forS (iR1 (aC (gv 1) a0)) (gN 4) B_row)
    (seqS (retO 3)
    .nx)))
def F_row : List D → R D := runD 6 .no G_row
/-- ints from 0 below b -/
def Below (b : Int) (xs : List D) : Prop := ∀ x ∈ xs, ∃ i : Int, x = .int i ∧ 0 ≤ i ∧ i < b
theorem row_turn {c n k b : Int} {rs : List D} {s4 s5 : Sl} (hb : 0 < b ∧ b < 1073741824) (hl : rs.length < lineN) : ∃ (c' i : Int) (s5' : Sl), 0 ≤ i ∧ i < b ∧
    B_row [.d (.int c), .d (.int n), .d (.int b), .own rs, .d (.int k), s5] = .nx [.d (.int c'), .d (.int n), .d (.int b), .own (rs ++ [.int i]), .d (.int k), s5'] := by
  have hp : powV (.int 10) (.int 18) = some (.int (10 ^ 18)) := powV_int ⟨by decide, by decide, by decide⟩
  by_cases h : (1000000000000000000 : Int) ≤ c
  · refine ⟨c / b, c % b, s5, Int.emod_nonneg _ (by omega), Int.emod_lt_of_pos _ hb.1, ?_⟩
    have m : modV (.int c) (.int b) = some (.int (c % b)) := modV_int hb.1
    have q : fdivV (.int c) (.int b) = some (.int (c / b)) := fdivV_int hb
    have ap := appS_own 3 (e2 modV (eN intV (aC (gv 0) a0)) (gv 2)) [.d (.int c), .d (.int n), .d (.int b), .own rs, .d (.int k), s5] rs (.int (c % b)) rfl (by simp [m]) hl
    simp [B_row, hp, h, ap, q]
  · generalize q1 : (c * 48271 + k * 69621 + 12345) % 2147483647 = x1
    generalize q2 : (x1 * x1 + 16807 * k + 7) % 998244353 = x2
    generalize q3 : (x2 * x2 + 48271 * k + c) % 2147483629 = x3
    have b1 : 0 ≤ x1 ∧ x1 < 2147483647 := by omega
    have b2 : 0 ≤ x2 ∧ x2 < 998244353 := by omega
    have b3 : 0 ≤ x3 ∧ x3 < 2147483629 := by omega
    refine ⟨c, x3 / 13 % b, .d (.int x3), Int.emod_nonneg _ (by omega), Int.emod_lt_of_pos _ hb.1, ?_⟩
    have t1 : mulV (.int c) (.int 48271) = some (.int (c * 48271)) := mulV_int (.inr (by decide))
    have t2 : mulV (.int k) (.int 69621) = some (.int (k * 69621)) := mulV_int (.inr (by decide))
    have t3 : mulV (.int x1) (.int x1) = some (.int (x1 * x1)) := mulV_int (.inl (by omega))
    have t4 : mulV (.int 16807) (.int k) = some (.int (16807 * k)) := mulV_int (.inl (by decide))
    have t5 : mulV (.int x2) (.int x2) = some (.int (x2 * x2)) := mulV_int (.inl (by omega))
    have t6 : mulV (.int 48271) (.int k) = some (.int (48271 * k)) := mulV_int (.inl (by decide))
    have m1 : ∀ z : Int, modV (.int z) (.int 2147483647) = some (.int (z % 2147483647)) := fun z => modV_int (by decide)
    have m2 : ∀ z : Int, modV (.int z) (.int 998244353) = some (.int (z % 998244353)) := fun z => modV_int (by decide)
    have m3 : ∀ z : Int, modV (.int z) (.int 2147483629) = some (.int (z % 2147483629)) := fun z => modV_int (by decide)
    have m4 : ∀ z : Int, modV (.int z) (.int b) = some (.int (z % b)) := fun z => modV_int hb.1
    have d1 : fdivV (.int x3) (.int 13) = some (.int (x3 / 13)) := fdivV_int (by decide)
    have ap := appS_own 3 (e2 modV (eN intV (aC (e2 fdivV (gv 5) (k0 (.int 13))) a0)) (gv 2)) [.d (.int c), .d (.int n), .d (.int b), .own rs, .d (.int k), .d (.int x3)] rs (.int (x3 / 13 % b)) rfl (by simp [d1, m4]) hl
    simp [B_row, hp, h, t1, t2, m1, q1, t3, t4, m2, q2, t5, t6, m3, q3, ap]
theorem row_loop {n b : Int} (hb : 0 < b ∧ b < 1073741824) : ∀ (xs : List D) (c : Int) (rs : List D) (s4 s5 : Sl), (∀ x ∈ xs, ∃ i, x = .int i) → rs.length + xs.length ≤ lineN → ∃ (c' : Int) (ys : List D) (s4' s5' : Sl), ys.length = xs.length ∧ Below b ys ∧
    loopG (gN 4) B_row xs [.d (.int c), .d (.int n), .d (.int b), .own rs, s4, s5] = .nx [.d (.int c'), .d (.int n), .d (.int b), .own (rs ++ ys), s4', s5']
  | [], c, rs, s4, s5, _, _ => ⟨c, [], s4, s5, rfl, fun x m => absurd m List.not_mem_nil, by rw [List.append_nil]; rfl⟩
  | x :: xs, c, rs, s4, s5, h, hl => by
    obtain ⟨k, rfl⟩ := h x List.mem_cons_self
    rw [List.length_cons] at hl
    obtain ⟨c1, i, s51, h1, h2, e⟩ := row_turn (c := c) (n := n) (k := k) (b := b) (rs := rs) (s4 := s4) (s5 := s5) hb (by omega)
    obtain ⟨c2, ys, s4', s5', h3, h4, e2⟩ := row_loop hb xs c1 (rs ++ [.int i]) (.d (.int k)) s51 (fun y m => h y (List.mem_cons_of_mem _ m)) (by rw [List.length_append]; simp; omega)
    refine ⟨c2, .int i :: ys, s4', s5', by rw [List.length_cons, h3, List.length_cons], fun y m => ?_, ?_⟩
    · rcases List.mem_cons.mp m with rfl | m
      · exact ⟨i, rfl, h1, h2⟩
      · exact h4 y m
    · rw [loopG_cons (η1 := [.d (.int c), .d (.int n), .d (.int b), .own rs, .d (.int k), s5]) (h := rfl), e]
      show loopG (gN 4) B_row xs _ = _
      rw [e2, List.append_assoc]
      rfl
theorem row_ok {c b : Int} {n : Nat} (hb : 0 < b ∧ b < 1073741824) (hn : n < 1000000) : ∃ ys : List D, ys.length = n ∧ Below b ys ∧ F_row [.int c, .int (n : Int), .int b] = .ok (.list ys) := by
  obtain ⟨c', ys, s4, s5, h1, h2, e⟩ := row_loop (n := n) hb (rangeD 0 n) c [] .no .no (fun x m => by
    unfold rangeD at m
    obtain ⟨i, _, rfl⟩ := List.mem_map.mp m
    exact ⟨_, rfl⟩) (by
      have h : (rangeD 0 n).length = n := by unfold rangeD; rw [List.length_map, List.length_range]
      rw [h, List.length_nil]
      have := lineN_eq
      omega)
  have hlen : (rangeD 0 n).length = n := by unfold rangeD; rw [List.length_map, List.length_range]
  refine ⟨ys, h1.trans hlen, h2, ?_⟩
  have r : rng1 [.int (n : Int)] = .ok (rangeD 0 n) := by
    rw [rng1_ok (by omega) (by omega), Int.toNat_natCast]
  have o : ownS 3 (lstV a0) [.d (.int c), .d (.int (n : Int)), .d (.int b), .no, .no, .no] = .nx [.d (.int c), .d (.int (n : Int)), .d (.int b), .own [], .no, .no] := by
    rw [ownS_list 3 _ _ [] (by simp)]
    rfl
  rw [List.nil_append] at e
  have g : G_row [.d (.int c), .d (.int (n : Int)), .d (.int b), .no, .no, .no] = .rt (.list ys) := by
    simp [G_row, o, r, e, retO_own 3 [.d (.int c'), .d (.int (n : Int)), .d (.int b), .own ys, s4, s5] ys rfl]
  exact runD_rt _ rfl g
end Lw
end Bd
/-! M1: what may be shown and compared. -/
namespace Bd
open PySem L2

/-- small data without dicts: its depth, its weight -/
structure Fine (k n : Nat) (d : D) : Prop where
  sh : d.showable = true
  nd : d.hasDict = false
  dp : d.depth ≤ k
  ls : d.leavesShort 13 = true
  wt : d.weight ≤ n
  cl : d.canLay0 = true
theorem Fine.mono {k n k' n' : Nat} {d : D} (h : Fine k n d) (hk : k ≤ k') (hn : n ≤ n') : Fine k' n' d := ⟨h.sh, h.nd, Nat.le_trans h.dp hk, h.ls, Nat.le_trans h.wt hn, h.cl⟩
theorem fine_none : Fine 0 0 .none := ⟨by simp only [PyData.showable], by simp only [PyData.hasDict], by simp only [PyData.depth]; exact Nat.le_refl _, by simp only [PyData.leavesShort], by simp only [PyData.weight]; exact Nat.le_refl _, by simp only [PyData.canLay0]⟩
theorem fine_bool (b : Bool) : Fine 0 0 (.bool b) := ⟨by simp only [PyData.showable], by simp only [PyData.hasDict], by simp only [PyData.depth]; exact Nat.le_refl _, by simp only [PyData.leavesShort], by simp only [PyData.weight]; exact Nat.le_refl _, by simp only [PyData.canLay0]⟩
theorem log2_small {n k : Nat} (h : n < 2 ^ k) (hk : 0 < k) : n.log2 < k := by
  by_cases h0 : n = 0
  · subst h0
    exact hk
  · exact (Nat.log2_lt h0).mpr h
theorem fine_int {i : Int} (h1 : -1000000000000 < i) (h2 : i < 1000000000000) : Fine 0 41 (.int i) where
  sh := by
    simp only [PyData.showable, decide_eq_true_eq]
    have := log2_small (n := i.natAbs) (k := 41) (by omega) (by decide)
    omega
  nd := by simp only [PyData.hasDict]
  dp := by simp only [PyData.depth]; exact Nat.le_refl _
  ls := by
    simp only [PyData.leavesShort, decide_eq_true_eq]
    exact PyData.shown_int_le (by omega)
  wt := by
    simp only [PyData.weight]
    split
    · exact Nat.zero_le _
    · have := log2_small (n := i.natAbs) (k := 40) (by omega) (by decide)
      omega
  cl := by simp only [PyData.canLay0]
theorem fineAll {k n : Nat} : ∀ {xs : List D}, (∀ x ∈ xs, Fine k n x) → PyData.showableAll xs = true ∧ PyData.hasDictAll xs = false ∧ PyData.depthAll xs ≤ k ∧ PyData.leavesShortAll 13 xs = true ∧ PyData.weightAll xs ≤ xs.length * (n + 1) ∧ PyData.canLayAll0 xs = true
  | [], _ => ⟨by simp only [PyData.showableAll], by simp only [PyData.hasDictAll], by simp only [PyData.depthAll]; exact Nat.zero_le _, by simp only [PyData.leavesShortAll], by simp only [PyData.weightAll]; exact Nat.zero_le _, by simp only [PyData.canLayAll0]⟩
  | x :: xs, h => by
    obtain ⟨h1, h2, h3, h4, h5, h6⟩ := fineAll fun y m => h y (List.mem_cons_of_mem _ m)
    have f := h x List.mem_cons_self
    have w := f.wt
    have d := f.dp
    refine ⟨?_, ?_, ?_, ?_, ?_, ?_⟩
    · simp only [PyData.showableAll, f.sh, h1, Bool.and_self]
    · simp only [PyData.hasDictAll, f.nd, h2, Bool.or_self]
    · simp only [PyData.depthAll]; omega
    · simp only [PyData.leavesShortAll, f.ls, h4, Bool.and_self]
    · simp only [PyData.weightAll, List.length_cons, Nat.add_mul]
      omega
    · simp only [PyData.canLayAll0, f.cl, h6, Bool.and_self]
theorem fine_list {k n : Nat} {xs : List D} (h : ∀ x ∈ xs, Fine k n x) : Fine (k + 1) (xs.length * (n + 1)) (.list xs) := by
  obtain ⟨h1, h2, h3, h4, h5, h6⟩ := fineAll h
  exact ⟨by simp only [PyData.showable, h1], by simp only [PyData.hasDict, h2], by simp only [PyData.depth]; omega, by simp only [PyData.leavesShort, h4], by simp only [PyData.weight]; exact h5, by simp only [PyData.canLay0, h6]⟩
theorem fine_tuple {k n : Nat} {xs : List D} (h : ∀ x ∈ xs, Fine k n x) : Fine (k + 1) (xs.length * (n + 1)) (.tuple xs) := by
  obtain ⟨h1, h2, h3, h4, h5, h6⟩ := fineAll h
  exact ⟨by simp only [PyData.showable, h1], by simp only [PyData.hasDict, h2], by simp only [PyData.depth]; omega, by simp only [PyData.leavesShort, h4], by simp only [PyData.weight]; exact h5, by simp only [PyData.canLay0, h6]⟩
theorem Fine.repr {k n : Nat} {d : D} (h : Fine k n d) (hk : k ≤ 64) (hn : n ≤ 1048576) : reprV [d] = some (.str d.shown) := by
  show (if d.showable = true ∧ d.hasDict = false ∧ d.depth ≤ 64 ∧ d.shown.length ≤ lineN then some (PyData.str d.shown) else none) = _
  have w : d.shown.length ≤ sizeLine := PyData.shown_fits (B := 13) (by decide) (by decide) h.ls (by have := h.wt; omega)
  rw [line_eq] at w
  have := h.dp
  rw [if_pos ⟨h.sh, h.nd, by omega, w⟩]
theorem Fine.shaped {k n : Nat} {d : D} (h : Fine k n d) (hk : k ≤ 64) : SeqAt.shaped d = true := by
  unfold SeqAt.shaped
  have := h.dp
  rw [h.cl, Bool.true_and, decide_eq_true_eq]
  omega
@[simp] theorem eqV_str (a b : Str) : eqV' (.str a) (.str b) = some (.bool (decide (a = b))) := Eq.trans rfl rfl
@[simp] theorem neV_str (a b : Str) : neV' (.str a) (.str b) = some (.bool (!decide (a = b))) := Eq.trans rfl rfl
theorem eqV_int (i j : Int) : eqV' (.int i) (.int j) = some (.bool (i == j)) := by
  show (if SeqAt.shaped (.int i) = true ∧ SeqAt.shaped (.int j) = true then some (PyData.bool (PyData.eqv (.int i) (.int j))) else none) = _
  have s : ∀ k : Int, SeqAt.shaped (.int k) = true := fun k => by
    unfold SeqAt.shaped
    simp only [PyData.canLay0, PyData.depth]
    rfl
  rw [if_pos ⟨s i, s j⟩]
  unfold PyData.eqv
  rfl
end Bd
/-! M2: ints in lists, slices, isinstance; names picked once and sorted. -/
namespace Bd
open PySem L2

/-! ### slices -/
theorem cut_take (xs : List D) (k : Int) (h : 0 ≤ k) : cutD xs none (some k) = xs.take k.toNat := by
  unfold cutD
  have e1 : HT.sIx xs.length 0 none = 0 := rfl
  have e2 : HT.sIx xs.length xs.length (some k) = min k.toNat xs.length := by
    show (if k < 0 then (k + (xs.length : Int)).toNat else min k.toNat xs.length) = _
    rw [if_neg (by omega)]
  rw [e1, e2, List.drop_zero, Nat.sub_zero, ← List.take_eq_take_min]
theorem cut_drop (xs : List D) (k : Int) (h : 0 ≤ k) : cutD xs (some k) none = xs.drop k.toNat := by
  unfold cutD
  have e1 : HT.sIx xs.length xs.length none = xs.length := rfl
  have e2 : HT.sIx xs.length 0 (some k) = min k.toNat xs.length := by
    show (if k < 0 then (k + (xs.length : Int)).toNat else min k.toNat xs.length) = _
    rw [if_neg (by omega)]
  rw [e1, e2]
  by_cases hk : k.toNat ≤ xs.length
  · rw [Nat.min_eq_left hk]
    exact List.take_of_length_le (by rw [List.length_drop]; exact Nat.le_refl _)
  · rw [Nat.min_eq_right (by omega), List.drop_length, List.drop_eq_nil_of_le (by omega)]
    simp
@[simp] theorem slV_list (lo hi : Option Int) (xs : List D) : slV lo hi (.list xs) = some (.list (cutD xs lo hi)) := Eq.trans rfl rfl
@[simp] theorem slV_tup (lo hi : Option Int) (xs : List D) : slV lo hi (.tuple xs) = some (.tuple (cutD xs lo hi)) := Eq.trans rfl rfl
@[simp] theorem slL_list (lo hi : Option Int) (xs : List D) : slL lo hi (.list xs) = some (.list (cutD xs lo hi)) := Eq.trans rfl rfl
@[simp] theorem revV_tup (xs : List D) : revV (.tuple xs) = some (.tuple xs.reverse) := Eq.trans rfl rfl
@[simp] theorem revV_list (xs : List D) : revV (.list xs) = some (.list xs.reverse) := Eq.trans rfl rfl
@[simp] theorem tupleV_list (xs : List D) : tupleV [.list xs] = some (.tuple xs) := Eq.trans rfl rfl
@[simp] theorem listV_list (xs : List D) : listV [.list xs] = some (.list xs) := Eq.trans rfl rfl
@[simp] theorem listV_tup (xs : List D) : listV [.tuple xs] = some (.list xs) := Eq.trans rfl rfl
theorem addV_tup {xs ys : List D} (h : xs.length + ys.length ≤ 16777216) : addV (.tuple xs) (.tuple ys) = some (.tuple (xs ++ ys)) := if_pos (by rw [lineN_eq]; exact h)
theorem addV_list {xs ys : List D} (h : xs.length + ys.length ≤ 16777216) : addV (.list xs) (.list ys) = some (.list (xs ++ ys)) := if_pos (by rw [lineN_eq]; exact h)
/-! ### ints in lists -/
theorem shaped_int (i : Int) : SeqAt.shaped (.int i) = true := by
  unfold SeqAt.shaped
  simp only [PyData.canLay0, PyData.depth]
  rfl
theorem ints_lay : ∀ l : List Int, PyData.canLayAll0 (l.map PyData.int) = true ∧ PyData.depthAll (l.map PyData.int) = 0
  | [] => ⟨by simp only [List.map_nil, PyData.canLayAll0], by simp only [List.map_nil, PyData.depthAll]⟩
  | x :: r => by
    obtain ⟨h1, h2⟩ := ints_lay r
    exact ⟨by simp only [List.map_cons, PyData.canLayAll0, PyData.canLay0, h1, Bool.and_self], by simp only [List.map_cons, PyData.depthAll, PyData.depth, h2]; rfl⟩
theorem shaped_ints (l : List Int) : SeqAt.shaped (.list (l.map PyData.int)) = true := by
  unfold SeqAt.shaped
  obtain ⟨h1, h2⟩ := ints_lay l
  simp only [PyData.canLay0, PyData.depth, h1, h2]
  rfl
theorem any_ints (a : Int) : ∀ l : List Int, ((l.map PyData.int).any fun z => PyData.eqv z (.int a)) = l.any (· == a)
  | [] => rfl
  | x :: r => by
    rw [List.map_cons, List.any_cons, List.any_cons, any_ints a r]
    unfold PyData.eqv
    rfl
theorem in_ints (a : Int) (l : List Int) : inV' (.int a) (.list (l.map PyData.int)) = some (.bool (l.any (· == a))) := by
  show (if SeqAt.shaped (.int a) = true ∧ SeqAt.shaped (.list (l.map PyData.int)) = true then some ((l.map PyData.int).any fun z => PyData.eqv z (.int a)) else none).map PyData.bool = _
  rw [if_pos ⟨shaped_int a, shaped_ints l⟩, any_ints]
  rfl
theorem notin_ints (a : Int) (l : List Int) : ninV' (.int a) (.list (l.map PyData.int)) = some (.bool (!l.any (· == a))) := by
  show (if SeqAt.shaped (.int a) = true ∧ SeqAt.shaped (.list (l.map PyData.int)) = true then some ((l.map PyData.int).any fun z => PyData.eqv z (.int a)) else none).map (fun b => PyData.bool !b) = _
  rw [if_pos ⟨shaped_int a, shaped_ints l⟩, any_ints]
  rfl
theorem ints?_map : ∀ l : List Int, ints? (l.map PyData.int) = some l
  | [] => rfl
  | x :: r => by
    show (ints? (r.map PyData.int)).map (x :: ·) = _
    rw [ints?_map r]
    rfl
theorem bools?_map : ∀ l : List Bool, bools? (l.map PyData.bool) = some l
  | [] => rfl
  | x :: r => by
    show (bools? (r.map PyData.bool)).map (x :: ·) = _
    rw [bools?_map r]
    rfl
theorem sort_ints (l : List Int) : sortIV [.list (l.map PyData.int)] = some (.list ((isort l).map PyData.int)) := by
  show (ints? (l.map PyData.int)).map _ = _
  rw [ints?_map]
  rfl
theorem all_bools (l : List Bool) : allV [.list (l.map PyData.bool)] = some (.bool (l.all id)) := by
  show (bools? (l.map PyData.bool)).map _ = _
  rw [bools?_map]
  rfl
theorem any_bools (l : List Bool) : anyV [.list (l.map PyData.bool)] = some (.bool (l.any id)) := by
  show (bools? (l.map PyData.bool)).map _ = _
  rw [bools?_map]
  rfl
/-! ### isinstance -/
def kInt : D → Bool
  | .int _ => true
  | .bool _ => true
  | _ => false
def kBool : D → Bool
  | .bool _ => true
  | _ => false
def kTup : D → Bool
  | .tuple _ => true
  | _ => false
theorem isi_int (d : D) : isiV "int" d = some (.bool (kInt d)) := by
  have h : ∀ s, kitB s "int" = some (s == "int" || s == "bool") → (kitB s "int").map PyData.bool = some (.bool (s == "int" || s == "bool")) := fun s e => by rw [e]; rfl
  cases d <;> (refine (h _ ?_).trans ?_ <;> first | rfl | decide +kernel)
theorem isi_bool (d : D) : isiV "bool" d = some (.bool (kBool d)) := by
  have h : ∀ s, kitB s "bool" = some (s == "bool") → (kitB s "bool").map PyData.bool = some (.bool (s == "bool")) := fun s e => by rw [e]; rfl
  cases d <;> (refine (h _ ?_).trans ?_ <;> first | rfl | decide +kernel)
theorem isi_tuple (d : D) : isiV "tuple" d = some (.bool (kTup d)) := by
  have h : ∀ s, kitB s "tuple" = some (s == "tuple") → (kitB s "tuple").map PyData.bool = some (.bool (s == "tuple")) := fun s e => by rw [e]; rfl
  cases d <;> (refine (h _ ?_).trans ?_ <;> first | rfl | decide +kernel)
/-! ### names picked once, sorted -/
def once (p : List Int) : List Int := ((List.range p.length).filter fun i => !(p.take i).any (· == p.getD i 0)).map fun i => p.getD i 0
theorem once_mem {p : List Int} {x : Int} : x ∈ once p → x ∈ p := fun h => by
  unfold once at h
  obtain ⟨i, hi, rfl⟩ := List.mem_map.mp h
  have hl : i < p.length := List.mem_range.mp (List.mem_filter.mp hi).1
  rw [List.getD_eq_getElem?_getD, List.getElem?_eq_getElem hl]
  exact List.getElem_mem hl
theorem once_nodup (p : List Int) : (once p).Nodup := by
  unfold once
  have hp : (List.range p.length).Pairwise (· < ·) := List.pairwise_lt_range
  rw [List.Nodup, List.pairwise_map]
  refine (hp.filter _).imp_of_mem ?_
  intro i j hi hj hij e
  have lj : j < p.length := List.mem_range.mp (List.mem_filter.mp hj).1
  have fj := (List.mem_filter.mp hj).2
  rw [Bool.not_eq_true', List.any_eq_false] at fj
  refine fj (p.getD i 0) ?_ (by rw [e]; exact beq_self_eq_true _)
  rw [List.getD_eq_getElem?_getD, List.getElem?_eq_getElem (by omega : i < p.length)]
  exact List.mem_take_iff_getElem.mpr ⟨i, by omega, rfl⟩
theorem once_ne {p : List Int} (h : 0 < p.length) : 0 < (once p).length := by
  unfold once
  rw [List.length_map]
  refine List.length_pos_of_mem (a := 0) (List.mem_filter.mpr ⟨List.mem_range.mpr h, rfl⟩)
theorem once_len (p : List Int) : (once p).length ≤ p.length := by
  unfold once
  rw [List.length_map]
  exact Nat.le_trans (List.length_filter_le _ _) (by rw [List.length_range]; exact Nat.le_refl _)
def pkC (p : List Int) : D → Bool
  | .int i => !(p.take i.toNat).any (· == p.getD i.toNat 0)
  | _ => false
def pkV (p : List Int) : D → D
  | .int i => .int (p.getD i.toNat 0)
  | _ => .none
/-- [p[k] for k in range(len(p)) if p[k] not in p[:k]]: sp, sk the slots of p and of k -/
theorem pick_comp {sp sk : Nat} {η : Nv} {p : List Int} (hl : p.length < 1000000) (h1 : gv sp η = .ok (.list (p.map PyData.int))) (h2 : ∀ x, gv sp ((wipeE η [sk]).set sk (.d x)) = .ok (.list (p.map PyData.int))) (h3 : ∀ x, gv sk ((wipeE η [sk]).set sk (.d x)) = .ok x) :
    compE (iR1 (aC (eN lenV (aC (gv sp) a0)) a0)) (gN sk) (tb (e2 ninV' (e2 ixV (gv sp) (gv sk)) (slE slV (gv sp) p0 (p1 (gv sk))))) (e2 ixV (gv sp) (gv sk)) [sk] η = .ok (.list ((once p).map PyData.int)) := by
  have ex : ((rangeD 0 p.length).filter (pkC p)).map (pkV p) = (once p).map PyData.int := by
    unfold rangeD once
    rw [List.filter_map, List.map_map, List.map_map]
    have f1 : (pkC p ∘ fun i : Nat => PyData.int (0 + (i : Nat))) = fun i : Nat => !(p.take i).any (· == p.getD i 0) := by
      funext i
      show (!(p.take (0 + (i : Int)).toNat).any (· == p.getD (0 + (i : Int)).toNat 0)) = _
      rw [show (0 + (i : Int)).toNat = i by omega]
    rw [f1]
    apply List.map_congr_left
    intro i _
    show PyData.int (p.getD (0 + (i : Int)).toNat 0) = _
    rw [show (0 + (i : Int)).toNat = i by omega]
    rfl
  rw [← ex]
  refine compE_ok (xs := rangeD 0 p.length) ?_ (compD_filter (c := pkC p) (g := pkV p) _ fun x m => ?_) ?_
  · have r : rng1 [.int ((p.length : Nat) : Int)] = .ok (rangeD 0 p.length) := by rw [rng1_ok (by omega) (by omega), Int.toNat_natCast]
    simp [h1, r]
  · unfold rangeD at m
    obtain ⟨i, hi, rfl⟩ := List.mem_map.mp m
    have hi : i < p.length := List.mem_range.mp hi
    have at1 : atD (p.map PyData.int) (0 + (i : Int)) = some (.int (p.getD i 0)) := atD_nat (by omega) (by
      rw [show (0 + (i : Int)).toNat = i by omega, List.getElem?_map, List.getElem?_eq_getElem hi, List.getD_eq_getElem?_getD, List.getElem?_eq_getElem hi]
      rfl)
    have cu : cutD (p.map PyData.int) none (some (0 + (i : Int))) = (p.take i).map PyData.int := by
      rw [cut_take _ _ (by omega), show (0 + (i : Int)).toNat = i by omega, List.map_take]
    have ti : (0 + (i : Int)).toNat = i := by omega
    refine ⟨_, rfl, ?_, fun _ => ?_⟩
    · show ((e2 ninV' (e2 ixV (gv sp) (gv sk)) (slE slV (gv sp) p0 (p1 (gv sk)))) _).bind tru = _
      simp only [e2_def, h2, h3, R.ok_bind, ixV_list, at1, of_some, slE_def, p0_def, p1_def, asInt_int, slV_list, cu, notin_ints, tru_bool]
      show _ = R.ok (!(p.take (0 + (i : Int)).toNat).any (· == p.getD (0 + (i : Int)).toNat 0))
      rw [ti]
    · simp only [e2_def, h2, h3, R.ok_bind, ixV_list, at1, of_some]
      show _ = R.ok (PyData.int (p.getD (0 + (i : Int)).toNat 0))
      rw [ti]
  · rw [List.length_map, lineN_eq]
    refine Nat.le_trans (List.length_filter_le _ _) ?_
    unfold rangeD
    rw [List.length_map, List.length_range]
    omega
theorem asc_sort {l : List Int} (h : l.Nodup) : (isort l).Pairwise (· < ·) := by
  have s := isort_sorted l
  have n : (isort l).Nodup := (isort_perm l).nodup_iff.mpr h
  exact (s.and n).imp fun z => by obtain ⟨z1, z2⟩ := z; omega
end Bd
namespace Bd
open PySem L2
/-- is_whole: 0 value -/
def G_is_whole : Nv → Rs :=
    (seqS (retS (andV (e1 (isiV "int") (gv 0)) (notV (e1 (isiV "bool") (gv 0)))))
    .nx)
def F_is_whole : List D → R D := runD 1 (.ok .none) G_is_whole
/-- is_vertex: 0 value -/
def G_is_vertex : Nv → Rs :=
    (seqS (retS (andV (callV F_is_whole (aC (gv 0) a0)) (chainV leV leV (k0 (.int 0)) (gv 0) (k0 (.int (11))))))
    .nx)
def F_is_vertex : List D → R D := runD 1 (.ok .none) G_is_vertex
/-- is_simplex: 0 value, 1 low, 2 high, 3 part -/
def G_is_simplex : Nv → Rs :=
    (seqS (ifS (orB (notB (tb (e1 (isiV "tuple") (gv 0)))) (notB (tb (chainV leV leV (k0 (.int 1)) (eN lenV (aC (gv 0) a0)) (e2 addV (k0 (.int (2))) (k0 (.int 1))))))) (seqS (retS (k0 (.bool false)))
    .nx) .nx)
    (seqS (ifS (notB (tb (eN allV (aC (compE (iA (gv 0)) (gN 3) (fun _ => .ok true) (callV F_is_vertex (aC (gv 3) a0)) [3]) a0)))) (seqS (retS (k0 (.bool false)))
    .nx) .nx)
    (seqS (retS (eN allV (aC (compE (iZ (aC (gv 0) (aC (slE slV (gv 0) (p1 (k0 (.int 1))) p0) a0))) (gT 2 (gsC (gN 1) (gsC (gN 2) gs0))) (fun _ => .ok true) (e2 ltV (gv 1) (gv 2)) [1, 2]) a0)))
    .nx)))
def F_is_simplex : List D → R D := runD 4 (.ok .none) G_is_simplex
/-- dimension_of: 0 simplex -/
def G_dimension_of : Nv → Rs :=
    (seqS (retS (e2 subV (eN lenV (aC (gv 0) a0)) (k0 (.int 1))))
    .nx)
def F_dimension_of : List D → R D := runD 1 (.ok .none) G_dimension_of
/-- faces_of: 0 simplex, 1 at -/
def G_faces_of : Nv → Rs :=
    (seqS (ifS (tb (e2 eqV' (callV F_dimension_of (aC (gv 0) a0)) (k0 (.int 0)))) (seqS (retS (lstV a0))
    .nx) .nx)
    (seqS (retS (compE (iRR (eN lenV (aC (gv 0) a0))) (gN 1) (fun _ => .ok true) (e2 addV (slE slV (gv 0) p0 (p1 (gv 1))) (slE slV (gv 0) (p1 (e2 addV (gv 1) (k0 (.int 1)))) p0)) [1]))
    .nx))
def F_faces_of : List D → R D := runD 2 .no G_faces_of
/-- _law_cell: 0 script, 1 k -/
def G__law_cell : Nv → Rs :=
    (seqS (ifS (tb (e2 ltV (gv 1) (eN lenV (aC (gv 0) a0)))) (seqS (retS (e2 ixV (gv 0) (gv 1)))
    .nx) .nx)
    (seqS (retS (k0 (.int 0)))
    .nx))
def F__law_cell : List D → R D := runD 2 (.ok .none) G__law_cell
/-- _law_row: 0 cell, 1 count, 2 base, 3 row, 4 k, 5 number -/
def G__law_row : Nv → Rs :=
    (seqS (ownS 3 (lstV a0))
    (seqS (forS (iR1 (aC (gv 1) a0)) (gN 4) (seqS (ifS (tb (e2 geV (gv 0) (e2 powV (k0 (.int 10)) (k0 (.int 18))))) (seqS (appS 3 (e2 modV (eN intV (aC (gv 0) a0)) (gv 2)))
    (seqS (setS 0 (e2 fdivV (gv 0) (gv 2)))
    .nx)) (seqS (setS 5 (e2 modV (eN intV (aC (e2 addV (e2 addV (e2 mulV (gv 0) (k0 (.int 48271))) (e2 mulV (gv 4) (k0 (.int 69621)))) (k0 (.int 12345))) a0)) (k0 (.int 2147483647))))
    (seqS (setS 5 (e2 modV (eN intV (aC (e2 addV (e2 addV (e2 mulV (gv 5) (gv 5)) (e2 mulV (k0 (.int 16807)) (gv 4))) (k0 (.int 7))) a0)) (k0 (.int 998244353))))
    (seqS (setS 5 (e2 modV (eN intV (aC (e2 addV (e2 addV (e2 mulV (gv 5) (gv 5)) (e2 mulV (k0 (.int 48271)) (gv 4))) (gv 0)) a0)) (k0 (.int 2147483629))))
    (seqS (appS 3 (e2 modV (eN intV (aC (e2 fdivV (gv 5) (k0 (.int 13))) a0)) (gv 2)))
    .nx)))))
    .nx))
    (seqS (retO 3)
    .nx)))
def F__law_row : List D → R D := runD 6 .no G__law_row
/-- _law_faces: 0 simplex, 1 k -/
def G__law_faces : Nv → Rs :=
    (seqS (ifS (tb (e2 eqV' (eN lenV (aC (gv 0) a0)) (k0 (.int 1)))) (seqS (retS (lstV a0))
    .nx) .nx)
    (seqS (retS (compE (iA (slE slV (lstV (aC (k0 (.int 2)) (aC (k0 (.int 1)) (aC (k0 (.int 0)) a0)))) (p1 (e2 subV (k0 (.int 3)) (eN lenV (aC (gv 0) a0)))) p0)) (gN 1) (fun _ => .ok true) (e2 addV (slE slV (gv 0) p0 (p1 (gv 1))) (slE slV (gv 0) (p1 (e2 addV (gv 1) (k0 (.int 1)))) p0)) [1]))
    .nx))
def F__law_faces : List D → R D := runD 2 .no G__law_faces
/-- _law_is_simplex: 0 value, 1 vertex, 2 k -/
def G__law_is_simplex : Nv → Rs :=
    (seqS (ifS (orB (notB (tb (e1 (isiV "tuple") (gv 0)))) (orB (tb (e2 ltV (eN lenV (aC (gv 0) a0)) (k0 (.int 1)))) (tb (e2 gtV (eN lenV (aC (gv 0) a0)) (k0 (.int 3)))))) (seqS (retS (k0 (.bool false)))
    .nx) .nx)
    (seqS (forS (iA (gv 0)) (gN 1) (seqS (ifS (orB (notB (tb (e1 (isiV "int") (gv 1)))) (orB (tb (e1 (isiV "bool") (gv 1))) (orB (tb (e2 ltV (gv 1) (k0 (.int 0)))) (tb (e2 gtV (gv 1) (k0 (.int 11))))))) (seqS (retS (k0 (.bool false)))
    .nx) .nx)
    .nx))
    (seqS (retS (eN allV (aC (compE (iR1 (aC (e2 subV (eN lenV (aC (gv 0) a0)) (k0 (.int 1))) a0)) (gN 2) (fun _ => .ok true) (e2 ltV (e2 ixV (gv 0) (gv 2)) (e2 ixV (gv 0) (e2 addV (gv 2) (k0 (.int 1))))) [2]) a0)))
    .nx)))
def F__law_is_simplex : List D → R D := runD 3 (.ok .none) G__law_is_simplex
/-- law: 0 script, 1 row, 2 picked, 3 simplex, 4 odd, 5 bent, 6 value, 7 asked, 8 actual, 9 due, 10 told, 11 k -/
def G_law : Nv → Rs :=
    (seqS (setS 1 (callV F__law_row (aC (callV F__law_cell (aC (gv 0) (aC (k0 (.int 0)) a0))) (aC (k0 (.int 4)) (aC (k0 (.int 5040)) a0)))))
    (seqS (setS 2 (compE (iR1 (aC (e2 addV (k0 (.int 1)) (e2 modV (eN intV (aC (e2 ixV (gv 1) (k0 (.int 3))) a0)) (k0 (.int 3)))) a0)) (gN 11) (fun _ => .ok true) (e2 modV (eN intV (aC (e2 ixV (gv 1) (gv 11)) a0)) (k0 (.int 12))) [11]))
    (seqS (setS 3 (eN tupleV (aC (eN sortIV (aC (compE (iR1 (aC (eN lenV (aC (gv 2) a0)) a0)) (gN 11) (tb (e2 ninV' (e2 ixV (gv 2) (gv 11)) (slE slV (gv 2) p0 (p1 (gv 11))))) (e2 ixV (gv 2) (gv 11)) [11]) a0)) a0)))
    (seqS (setS 4 (e2 ixV (lstV (aC (k0 (.int 12)) (aC (e1 negV (k0 (.int 1))) (aC (k0 .none) (aC (k0 (.bool true)) (aC (k0 (.str "1")) (aC (tupV (aC (k0 (.int 1)) a0)) (aC (k0 (.int 5)) (aC (k0 (.int 0)) (aC (k0 (.int 11)) (aC (k0 (.bool false)) a0))))))))))) (e2 modV (eN intV (aC (callV F__law_cell (aC (gv 0) (aC (k0 (.int 1)) a0))) a0)) (k0 (.int 10)))))
    (seqS (setS 5 (lstV (aC (gv 3) (aC (e1 revV (gv 3)) (aC (e2 addV (gv 3) (tupV (aC (gv 4) a0))) (aC (e2 addV (tupV (aC (gv 4) a0)) (gv 3)) (aC (e2 addV (gv 3) (slE slV (gv 3) (p1 (e1 negV (k0 (.int 1)))) p0)) (aC (tupV a0) (aC (tupV (aC (k0 (.int 0)) (aC (k0 (.int 1)) (aC (k0 (.int 2)) (aC (k0 (.int 3)) a0))))) (aC (eN listV (aC (gv 3) a0)) (aC (gv 4) a0)))))))))))
    (seqS (setS 6 (e2 ixV (gv 5) (e2 modV (eN intV (aC (callV F__law_cell (aC (gv 0) (aC (k0 (.int 2)) a0))) a0)) (k0 (.int 9)))))
    (seqS (forS (iA (lstV (aC (gv 3) (aC (gv 6) a0)))) (gN 7) (seqS (setS 8 (callV F_is_simplex (aC (gv 7) a0)))
    (seqS (ifS (orB (notB (tb (e1 (isiV "bool") (gv 8)))) (tb (e2 neV' (gv 8) (callV F__law_is_simplex (aC (gv 7) a0))))) (seqS (retS (k0 (.bool false)))
    .nx) .nx)
    .nx)))
    (seqS (setS 9 (callV F__law_faces (aC (gv 3) a0)))
    (seqS (ownS 10 (callV F_faces_of (aC (gv 3) a0)))
    (seqS (ifS (orB (tb (e2 neV' (eN reprV (aC (go 10) a0)) (eN reprV (aC (gv 9) a0)))) (tb (e2 neV' (eN reprV (aC (callV F_dimension_of (aC (gv 3) a0)) a0)) (eN reprV (aC (e2 subV (eN lenV (aC (gv 3) a0)) (k0 (.int 1))) a0))))) (seqS (retS (k0 (.bool false)))
    .nx) .nx)
    (seqS (appS 10 (k0 (.str "spoilt")))
    (seqS (retS (e2 eqV' (eN reprV (aC (callV F_faces_of (aC (gv 3) a0)) a0)) (eN reprV (aC (gv 9) a0))))
    .nx))))))))))))
def F_law : List D → R D := runD 12 (.ok .none) G_law
def topS (i : Nat) : Stmt := PySem.Challenge.pw_barstay_k01_simplices_and_faces.main.body.getD i (.Pass ⟨0, 0, 0, 0⟩)
structure Zs (mg : Str → Option Value) : Prop where
  b_all : mg "all" = none
  b_bool : mg "bool" = none
  b_int : mg "int" = none
  b_isinstance : mg "isinstance" = none
  b_len : mg "len" = none
  b_list : mg "list" = none
  b_range : mg "range" = none
  b_repr : mg "repr" = none
  b_reversed : mg "reversed" = none
  b_sorted : mg "sorted" = none
  b_tuple : mg "tuple" = none
  b_zip : mg "zip" = none
  c_VERTEX_MOST : ∃ t, mg "VERTEX_MOST" = some (.int (11) t)
  c_DIMENSION_MOST : ∃ t, mg "DIMENSION_MOST" = some (.int (2) t)
section
variable {P : Program} {w : World} {K : PySem.W.Frag} {mg : Str → Option Value} {base : Heap}
abbrev s_is_whole : Stmt := topS 3
theorem sc_is_whole : FnScope ["value"] ["value"] (defScope s_is_whole) := ⟨rfl, rfl, rfl, by decide +kernel, rfl, by decide +kernel, by decide +kernel⟩
set_option maxHeartbeats 400000 in
theorem ok_is_whole {f : Addr} {fd : FuncData} (F : Fun K "is_whole" "is_whole" s_is_whole f fd) (z : Zs mg) (gm : mg "is_whole" = some (.ref f)) : Df P w K mg base 1 "is_whole" 1 (rD K) F_is_whole := by
  have bb : Binds K fd ["value"] [] := F.binds fun _ _ _ _ _ _ us hl => (match us, hl with | [_], _ => rfl)
  refine ⟨f, fd, ["value"], ?_, bb, gm, F.kp⟩
  suffices body : ∀ (cdv : Value) (A : Around) (outer : List PySem.Env) (s : Shared) (H : Hp) (E : XK) (A0 : List Addr), Room 0 (A.deeper (PyProof.Rows.envOfC "is_whole" (defScope s_is_whole) s.heap.objs.size f cdv)) → A.guards = some [] →
      TSs (cxOf (L2.CX P w) P w K mg base ["value"] "is_whole" (defScope s_is_whole) f cdv A outer s H E) ⟨fun cls d _ H => E cls d H, rD K, H, A0⟩ (defBody s_is_whole) G_is_whole by
    exact fn_rule (k := 0) (G := G_is_whole) (N := ["value"]) (ps := ["value"]) (rl := rD K) (fall := .ok .none) F sc_is_whole (.inl ⟨rfl, rfl⟩) body
  intro cdv A outer s H E A0 hr hg
  have hN := sc_is_whole.nd
  have hu := hr.un
  have u64 : (A.deeper (PyProof.Rows.envOfC "is_whole" (defScope s_is_whole) s.heap.objs.size f cdv)).units + 64 < cLine := by omega
  have u65 : (A.deeper (PyProof.Rows.envOfC "is_whole" (defScope s_is_whole) s.heap.objs.size f cdv)).units + 65 < cLine := by omega
  have u66 : (A.deeper (PyProof.Rows.envOfC "is_whole" (defScope s_is_whole) s.heap.objs.size f cdv)).units + 66 < cLine := by omega
  have tk : Takes (cxOf (L2.CX P w) P w K mg base ["value"] "is_whole" (defScope s_is_whole) f cdv A outer s H E) (fun cls d _ H => E cls d H) := takes_of rfl rfl rfl rfl
  have hp : PassesOwn (model P w) (cxOf (L2.CX P w) P w K mg base ["value"] "is_whole" (defScope s_is_whole) f cdv A outer s H E).A (cxOf (L2.CX P w) P w K mg base ["value"] "is_whole" (defScope s_is_whole) f cdv A outer s H E).env (cxOf (L2.CX P w) P w K mg base ["value"] "is_whole" (defScope s_is_whole) f cdv A outer s H E).xe := passes_of (X := cxOf (L2.CX P w) P w K mg base ["value"] "is_whole" (defScope s_is_whole) f cdv A outer s H E) rfl
  exact ss_cons (s_ret (t_and (t_isi (T := "int") z.b_isinstance z.b_int (by decide +kernel) (TD.o (t_var 0))) (t_one (t_not (TD.o (t_isi (T := "bool") z.b_isinstance z.b_bool (by decide +kernel) (TD.o (t_var 0))))))) rfl)
    (ss_nil)
abbrev s_is_vertex : Stmt := topS 4
theorem sc_is_vertex : FnScope ["value"] ["value"] (defScope s_is_vertex) := ⟨rfl, rfl, rfl, by decide +kernel, rfl, by decide +kernel, by decide +kernel⟩
set_option maxHeartbeats 400000 in
theorem ok_is_vertex {f : Addr} {fd : FuncData} (F : Fun K "is_vertex" "is_vertex" s_is_vertex f fd) (z : Zs mg) (d_is_whole : Df P w K mg base 1 "is_whole" 1 (rD K) F_is_whole) (gm : mg "is_vertex" = some (.ref f)) : Df P w K mg base 2 "is_vertex" 1 (rD K) F_is_vertex := by
  have bb : Binds K fd ["value"] [] := F.binds fun _ _ _ _ _ _ us hl => (match us, hl with | [_], _ => rfl)
  refine ⟨f, fd, ["value"], ?_, bb, gm, F.kp⟩
  suffices body : ∀ (cdv : Value) (A : Around) (outer : List PySem.Env) (s : Shared) (H : Hp) (E : XK) (A0 : List Addr), Room 1 (A.deeper (PyProof.Rows.envOfC "is_vertex" (defScope s_is_vertex) s.heap.objs.size f cdv)) → A.guards = some [] →
      TSs (cxOf (L2.CX P w) P w K mg base ["value"] "is_vertex" (defScope s_is_vertex) f cdv A outer s H E) ⟨fun cls d _ H => E cls d H, rD K, H, A0⟩ (defBody s_is_vertex) G_is_vertex by
    exact fn_rule (k := 1) (G := G_is_vertex) (N := ["value"]) (ps := ["value"]) (rl := rD K) (fall := .ok .none) F sc_is_vertex (.inl ⟨rfl, rfl⟩) body
  intro cdv A outer s H E A0 hr hg
  have hN := sc_is_vertex.nd
  have hu := hr.un
  have u64 : (A.deeper (PyProof.Rows.envOfC "is_vertex" (defScope s_is_vertex) s.heap.objs.size f cdv)).units + 64 < cLine := by omega
  have u65 : (A.deeper (PyProof.Rows.envOfC "is_vertex" (defScope s_is_vertex) s.heap.objs.size f cdv)).units + 65 < cLine := by omega
  have u66 : (A.deeper (PyProof.Rows.envOfC "is_vertex" (defScope s_is_vertex) s.heap.objs.size f cdv)).units + 66 < cLine := by omega
  have tk : Takes (cxOf (L2.CX P w) P w K mg base ["value"] "is_vertex" (defScope s_is_vertex) f cdv A outer s H E) (fun cls d _ H => E cls d H) := takes_of rfl rfl rfl rfl
  have hp : PassesOwn (model P w) (cxOf (L2.CX P w) P w K mg base ["value"] "is_vertex" (defScope s_is_vertex) f cdv A outer s H E).A (cxOf (L2.CX P w) P w K mg base ["value"] "is_vertex" (defScope s_is_vertex) f cdv A outer s H E).env (cxOf (L2.CX P w) P w K mg base ["value"] "is_vertex" (defScope s_is_vertex) f cdv A outer s H E).xe := passes_of (X := cxOf (L2.CX P w) P w K mg base ["value"] "is_vertex" (defScope s_is_vertex) f cdv A outer s H E) rfl
  exact ss_cons (s_ret (t_and (t_callD d_is_whole hr hg (as_cons keeps_D (TD.v (t_var 0)) (as_nil)) (aC_len a0_len) back_D) (t_one (t_chain (f := leV) (g := leV) op_le op_le o_cmpI o_cmpI (TD.o (t_int)) (TD.o (t_var 0)) (TD.o (t_globI (i := 11) z.c_VERTEX_MOST))))) rfl)
    (ss_nil)
abbrev s_is_simplex : Stmt := topS 5
theorem sc_is_simplex : FnScope ["value", "low", "high", "part"] ["value"] (defScope s_is_simplex) := ⟨rfl, rfl, rfl, by decide +kernel, rfl, by decide +kernel, by decide +kernel⟩
set_option maxHeartbeats 400000 in
theorem ok_is_simplex {f : Addr} {fd : FuncData} (F : Fun K "is_simplex" "is_simplex" s_is_simplex f fd) (z : Zs mg) (d_is_vertex : Df P w K mg base 2 "is_vertex" 1 (rD K) F_is_vertex) (gm : mg "is_simplex" = some (.ref f)) : Df P w K mg base 3 "is_simplex" 1 (rD K) F_is_simplex := by
  have bb : Binds K fd ["value"] [] := F.binds fun _ _ _ _ _ _ us hl => (match us, hl with | [_], _ => rfl)
  refine ⟨f, fd, ["value"], ?_, bb, gm, F.kp⟩
  suffices body : ∀ (cdv : Value) (A : Around) (outer : List PySem.Env) (s : Shared) (H : Hp) (E : XK) (A0 : List Addr), Room 2 (A.deeper (PyProof.Rows.envOfC "is_simplex" (defScope s_is_simplex) s.heap.objs.size f cdv)) → A.guards = some [] →
      TSs (cxOf (L2.CX P w) P w K mg base ["value", "low", "high", "part"] "is_simplex" (defScope s_is_simplex) f cdv A outer s H E) ⟨fun cls d _ H => E cls d H, rD K, H, A0⟩ (defBody s_is_simplex) G_is_simplex by
    exact fn_rule (k := 2) (G := G_is_simplex) (N := ["value", "low", "high", "part"]) (ps := ["value"]) (rl := rD K) (fall := .ok .none) F sc_is_simplex (.inl ⟨rfl, rfl⟩) body
  intro cdv A outer s H E A0 hr hg
  have hN := sc_is_simplex.nd
  have hu := hr.un
  have u64 : (A.deeper (PyProof.Rows.envOfC "is_simplex" (defScope s_is_simplex) s.heap.objs.size f cdv)).units + 64 < cLine := by omega
  have u65 : (A.deeper (PyProof.Rows.envOfC "is_simplex" (defScope s_is_simplex) s.heap.objs.size f cdv)).units + 65 < cLine := by omega
  have u66 : (A.deeper (PyProof.Rows.envOfC "is_simplex" (defScope s_is_simplex) s.heap.objs.size f cdv)).units + 66 < cLine := by omega
  have tk : Takes (cxOf (L2.CX P w) P w K mg base ["value", "low", "high", "part"] "is_simplex" (defScope s_is_simplex) f cdv A outer s H E) (fun cls d _ H => E cls d H) := takes_of rfl rfl rfl rfl
  have hp : PassesOwn (model P w) (cxOf (L2.CX P w) P w K mg base ["value", "low", "high", "part"] "is_simplex" (defScope s_is_simplex) f cdv A outer s H E).A (cxOf (L2.CX P w) P w K mg base ["value", "low", "high", "part"] "is_simplex" (defScope s_is_simplex) f cdv A outer s H E).env (cxOf (L2.CX P w) P w K mg base ["value", "low", "high", "part"] "is_simplex" (defScope s_is_simplex) f cdv A outer s H E).xe := passes_of (X := cxOf (L2.CX P w) P w K mg base ["value", "low", "high", "part"] "is_simplex" (defScope s_is_simplex) f cdv A outer s H E) rfl
  exact ss_cons (s_if (b_w (w_or (b_not (b_val (TD.o (t_isi (T := "tuple") z.b_isinstance z.b_tuple (by decide +kernel) (TD.o (t_var 0)))))) (w_or1 (b_not (b_chain (f := leV) (g := leV) op_le op_le o_cmpI o_cmpI (TD.o (t_int)) (TD.o (t_len z.b_len (as_cons keeps_O (TO.v (TD.o (t_var 0))) (as_nil)))) (TD.o (t_op back_D op_addA o_add (TD.o (t_globI (i := 2) z.c_DIMENSION_MOST)) (TD.o (t_int))))))))) (ss_cons (s_ret (t_bool) rfl)
    (ss_nil)) (ss_nil))
    (ss_cons (s_if (b_not (b_val (TD.o (t_all rfl z.b_all (as_cons keeps_O (TO.v (TF.o (t_lc rfl hN (i_any (t_var 0)) (blkOk_by (N := ["value", "low", "high", "part"]) (sc := defScope s_is_simplex) (own := [("part", 3)]) (by decide +kernel)) (fun _ _ _ _ _ => g_name 3 hN) (fun _ _ _ _ _ => cs_nil) (fun _ _ _ _ _ => t_callD d_is_vertex hr hg (as_cons keeps_D (TD.v (t_var 3)) (as_nil)) (aC_len a0_len) back_D)))) (as_nil)))))) (ss_cons (s_ret (t_bool) rfl)
    (ss_nil)) (ss_nil))
    (ss_cons (s_ret (t_all rfl z.b_all (as_cons keeps_O (TO.v (TF.o (t_lc rfl hN (i_zip z.b_zip (as_cons keeps_D (TD.v (t_var 0)) (as_cons keeps_D (TD.v (t_slice (TD.o (t_var 0)) (pt_1 (TD.o (t_int))) (pt_0))) (as_nil)))) (blkOk_by (N := ["value", "low", "high", "part"]) (sc := defScope s_is_simplex) (own := [("low", 1), ("high", 2)]) (by decide +kernel)) (fun _ _ _ _ _ => g_tup rfl (g_cons (g_name 1 hN) (g_cons (g_name 2 hN) (g_nil)))) (fun _ _ _ _ _ => cs_nil) (fun _ _ _ _ _ => t_lt (TD.o (t_var 1)) (TD.o (t_var 2)))))) (as_nil))) rfl)
    (ss_nil)))
abbrev s_dimension_of : Stmt := topS 6
theorem sc_dimension_of : FnScope ["simplex"] ["simplex"] (defScope s_dimension_of) := ⟨rfl, rfl, rfl, by decide +kernel, rfl, by decide +kernel, by decide +kernel⟩
set_option maxHeartbeats 400000 in
theorem ok_dimension_of {f : Addr} {fd : FuncData} (F : Fun K "dimension_of" "dimension_of" s_dimension_of f fd) (z : Zs mg) (gm : mg "dimension_of" = some (.ref f)) : Df P w K mg base 1 "dimension_of" 1 (rD K) F_dimension_of := by
  have bb : Binds K fd ["simplex"] [] := F.binds fun _ _ _ _ _ _ us hl => (match us, hl with | [_], _ => rfl)
  refine ⟨f, fd, ["simplex"], ?_, bb, gm, F.kp⟩
  suffices body : ∀ (cdv : Value) (A : Around) (outer : List PySem.Env) (s : Shared) (H : Hp) (E : XK) (A0 : List Addr), Room 0 (A.deeper (PyProof.Rows.envOfC "dimension_of" (defScope s_dimension_of) s.heap.objs.size f cdv)) → A.guards = some [] →
      TSs (cxOf (L2.CX P w) P w K mg base ["simplex"] "dimension_of" (defScope s_dimension_of) f cdv A outer s H E) ⟨fun cls d _ H => E cls d H, rD K, H, A0⟩ (defBody s_dimension_of) G_dimension_of by
    exact fn_rule (k := 0) (G := G_dimension_of) (N := ["simplex"]) (ps := ["simplex"]) (rl := rD K) (fall := .ok .none) F sc_dimension_of (.inl ⟨rfl, rfl⟩) body
  intro cdv A outer s H E A0 hr hg
  have hN := sc_dimension_of.nd
  have hu := hr.un
  have u64 : (A.deeper (PyProof.Rows.envOfC "dimension_of" (defScope s_dimension_of) s.heap.objs.size f cdv)).units + 64 < cLine := by omega
  have u65 : (A.deeper (PyProof.Rows.envOfC "dimension_of" (defScope s_dimension_of) s.heap.objs.size f cdv)).units + 65 < cLine := by omega
  have u66 : (A.deeper (PyProof.Rows.envOfC "dimension_of" (defScope s_dimension_of) s.heap.objs.size f cdv)).units + 66 < cLine := by omega
  have tk : Takes (cxOf (L2.CX P w) P w K mg base ["simplex"] "dimension_of" (defScope s_dimension_of) f cdv A outer s H E) (fun cls d _ H => E cls d H) := takes_of rfl rfl rfl rfl
  have hp : PassesOwn (model P w) (cxOf (L2.CX P w) P w K mg base ["simplex"] "dimension_of" (defScope s_dimension_of) f cdv A outer s H E).A (cxOf (L2.CX P w) P w K mg base ["simplex"] "dimension_of" (defScope s_dimension_of) f cdv A outer s H E).env (cxOf (L2.CX P w) P w K mg base ["simplex"] "dimension_of" (defScope s_dimension_of) f cdv A outer s H E).xe := passes_of (X := cxOf (L2.CX P w) P w K mg base ["simplex"] "dimension_of" (defScope s_dimension_of) f cdv A outer s H E) rfl
  exact ss_cons (s_ret (t_op back_D op_sub o_sub (TD.o (t_len z.b_len (as_cons keeps_O (TO.v (TD.o (t_var 0))) (as_nil)))) (TD.o (t_int))) rfl)
    (ss_nil)
abbrev s_faces_of : Stmt := topS 7
theorem sc_faces_of : FnScope ["simplex", "at"] ["simplex"] (defScope s_faces_of) := ⟨rfl, rfl, rfl, by decide +kernel, rfl, by decide +kernel, by decide +kernel⟩
set_option maxHeartbeats 400000 in
theorem ok_faces_of {f : Addr} {fd : FuncData} (F : Fun K "faces_of" "faces_of" s_faces_of f fd) (z : Zs mg) (d_dimension_of : Df P w K mg base 1 "dimension_of" 1 (rD K) F_dimension_of) (gm : mg "faces_of" = some (.ref f)) : Df P w K mg base 2 "faces_of" 1 (rF K) F_faces_of := by
  have bb : Binds K fd ["simplex"] [] := F.binds fun _ _ _ _ _ _ us hl => (match us, hl with | [_], _ => rfl)
  refine ⟨f, fd, ["simplex"], ?_, bb, gm, F.kp⟩
  suffices body : ∀ (cdv : Value) (A : Around) (outer : List PySem.Env) (s : Shared) (H : Hp) (E : XK) (A0 : List Addr), Room 1 (A.deeper (PyProof.Rows.envOfC "faces_of" (defScope s_faces_of) s.heap.objs.size f cdv)) → A.guards = some [] →
      TSs (cxOf (L2.CX P w) P w K mg base ["simplex", "at"] "faces_of" (defScope s_faces_of) f cdv A outer s H E) ⟨fun cls d _ H => E cls d H, rF K, H, A0⟩ (defBody s_faces_of) G_faces_of by
    exact fn_rule (k := 1) (G := G_faces_of) (N := ["simplex", "at"]) (ps := ["simplex"]) (rl := rF K) (fall := .no) F sc_faces_of (.inr rfl) body
  intro cdv A outer s H E A0 hr hg
  have hN := sc_faces_of.nd
  have hu := hr.un
  have u64 : (A.deeper (PyProof.Rows.envOfC "faces_of" (defScope s_faces_of) s.heap.objs.size f cdv)).units + 64 < cLine := by omega
  have u65 : (A.deeper (PyProof.Rows.envOfC "faces_of" (defScope s_faces_of) s.heap.objs.size f cdv)).units + 65 < cLine := by omega
  have u66 : (A.deeper (PyProof.Rows.envOfC "faces_of" (defScope s_faces_of) s.heap.objs.size f cdv)).units + 66 < cLine := by omega
  have tk : Takes (cxOf (L2.CX P w) P w K mg base ["simplex", "at"] "faces_of" (defScope s_faces_of) f cdv A outer s H E) (fun cls d _ H => E cls d H) := takes_of rfl rfl rfl rfl
  have hp : PassesOwn (model P w) (cxOf (L2.CX P w) P w K mg base ["simplex", "at"] "faces_of" (defScope s_faces_of) f cdv A outer s H E).A (cxOf (L2.CX P w) P w K mg base ["simplex", "at"] "faces_of" (defScope s_faces_of) f cdv A outer s H E).env (cxOf (L2.CX P w) P w K mg base ["simplex", "at"] "faces_of" (defScope s_faces_of) f cdv A outer s H E).xe := passes_of (X := cxOf (L2.CX P w) P w K mg base ["simplex", "at"] "faces_of" (defScope s_faces_of) f cdv A outer s H E) rfl
  exact ss_cons (s_if (b_eq u64 (TD.o (t_callD d_dimension_of hr hg (as_cons keeps_D (TD.v (t_var 0)) (as_nil)) (aC_len a0_len) back_D)) (TD.o (t_int))) (ss_cons (s_retF (t_lst (as_nil)) rfl)
    (ss_nil)) (ss_nil))
    (ss_cons (s_retF (t_lc rfl hN (i_revR z.b_reversed z.b_range (TD.o (t_len z.b_len (as_cons keeps_O (TO.v (TD.o (t_var 0))) (as_nil))))) (blkOk_by (N := ["simplex", "at"]) (sc := defScope s_faces_of) (own := [("at", 1)]) (by decide +kernel)) (fun _ _ _ _ _ => g_name 1 hN) (fun _ _ _ _ _ => cs_nil) (fun _ _ _ _ _ => t_op back_D op_addA o_add (TD.o (t_slice (TD.o (t_var 0)) (pt_0) (pt_1 (TD.o (t_var 1))))) (TD.o (t_slice (TD.o (t_var 0)) (pt_1 (TD.o (t_op back_D op_addA o_add (TD.o (t_var 1)) (TD.o (t_int))))) (pt_0))))) rfl)
    (ss_nil))
abbrev s__law_cell : Stmt := topS 9
theorem sc__law_cell : FnScope ["script", "k"] ["script", "k"] (defScope s__law_cell) := ⟨rfl, rfl, rfl, by decide +kernel, rfl, by decide +kernel, by decide +kernel⟩
set_option maxHeartbeats 400000 in
theorem ok__law_cell {f : Addr} {fd : FuncData} (F : Fun K "_law_cell" "_law_cell" s__law_cell f fd) (z : Zs mg) (gm : mg "_law_cell" = some (.ref f)) : Df P w K mg base 1 "_law_cell" 2 (rD K) F__law_cell := by
  have bb : Binds K fd ["script", "k"] [] := F.binds fun _ _ _ _ _ _ us hl => (match us, hl with | [_, _], _ => rfl)
  refine ⟨f, fd, ["script", "k"], ?_, bb, gm, F.kp⟩
  suffices body : ∀ (cdv : Value) (A : Around) (outer : List PySem.Env) (s : Shared) (H : Hp) (E : XK) (A0 : List Addr), Room 0 (A.deeper (PyProof.Rows.envOfC "_law_cell" (defScope s__law_cell) s.heap.objs.size f cdv)) → A.guards = some [] →
      TSs (cxOf (L2.CX P w) P w K mg base ["script", "k"] "_law_cell" (defScope s__law_cell) f cdv A outer s H E) ⟨fun cls d _ H => E cls d H, rD K, H, A0⟩ (defBody s__law_cell) G__law_cell by
    exact fn_rule (k := 0) (G := G__law_cell) (N := ["script", "k"]) (ps := ["script", "k"]) (rl := rD K) (fall := .ok .none) F sc__law_cell (.inl ⟨rfl, rfl⟩) body
  intro cdv A outer s H E A0 hr hg
  have hN := sc__law_cell.nd
  have hu := hr.un
  have u64 : (A.deeper (PyProof.Rows.envOfC "_law_cell" (defScope s__law_cell) s.heap.objs.size f cdv)).units + 64 < cLine := by omega
  have u65 : (A.deeper (PyProof.Rows.envOfC "_law_cell" (defScope s__law_cell) s.heap.objs.size f cdv)).units + 65 < cLine := by omega
  have u66 : (A.deeper (PyProof.Rows.envOfC "_law_cell" (defScope s__law_cell) s.heap.objs.size f cdv)).units + 66 < cLine := by omega
  have tk : Takes (cxOf (L2.CX P w) P w K mg base ["script", "k"] "_law_cell" (defScope s__law_cell) f cdv A outer s H E) (fun cls d _ H => E cls d H) := takes_of rfl rfl rfl rfl
  have hp : PassesOwn (model P w) (cxOf (L2.CX P w) P w K mg base ["script", "k"] "_law_cell" (defScope s__law_cell) f cdv A outer s H E).A (cxOf (L2.CX P w) P w K mg base ["script", "k"] "_law_cell" (defScope s__law_cell) f cdv A outer s H E).env (cxOf (L2.CX P w) P w K mg base ["script", "k"] "_law_cell" (defScope s__law_cell) f cdv A outer s H E).xe := passes_of (X := cxOf (L2.CX P w) P w K mg base ["script", "k"] "_law_cell" (defScope s__law_cell) f cdv A outer s H E) rfl
  exact ss_cons (s_if (b_lt (TD.o (t_var 1)) (TD.o (t_len z.b_len (as_cons keeps_O (TO.v (TD.o (t_var 0))) (as_nil))))) (ss_cons (s_ret (t_ix (TD.o (t_var 0)) (TD.o (t_var 1))) rfl)
    (ss_nil)) (ss_nil))
    (ss_cons (s_ret (t_int) rfl)
    (ss_nil))
abbrev s__law_row : Stmt := topS 10
theorem sc__law_row : FnScope ["cell", "count", "base", "row", "k", "number"] ["cell", "count", "base"] (defScope s__law_row) := ⟨rfl, rfl, rfl, by decide +kernel, rfl, by decide +kernel, by decide +kernel⟩
set_option maxHeartbeats 400000 in
theorem ok__law_row {f : Addr} {fd : FuncData} (F : Fun K "_law_row" "_law_row" s__law_row f fd) (z : Zs mg) (gm : mg "_law_row" = some (.ref f)) : Df P w K mg base 1 "_law_row" 3 (rF K) F__law_row := by
  have bb : Binds K fd ["cell", "count", "base"] [] := F.binds fun _ _ _ _ _ _ us hl => (match us, hl with | [_, _, _], _ => rfl)
  refine ⟨f, fd, ["cell", "count", "base"], ?_, bb, gm, F.kp⟩
  suffices body : ∀ (cdv : Value) (A : Around) (outer : List PySem.Env) (s : Shared) (H : Hp) (E : XK) (A0 : List Addr), Room 0 (A.deeper (PyProof.Rows.envOfC "_law_row" (defScope s__law_row) s.heap.objs.size f cdv)) → A.guards = some [] →
      TSs (cxOf (L2.CX P w) P w K mg base ["cell", "count", "base", "row", "k", "number"] "_law_row" (defScope s__law_row) f cdv A outer s H E) ⟨fun cls d _ H => E cls d H, rF K, H, A0⟩ (defBody s__law_row) G__law_row by
    exact fn_rule (k := 0) (G := G__law_row) (N := ["cell", "count", "base", "row", "k", "number"]) (ps := ["cell", "count", "base"]) (rl := rF K) (fall := .no) F sc__law_row (.inr rfl) body
  intro cdv A outer s H E A0 hr hg
  have hN := sc__law_row.nd
  have hu := hr.un
  have u64 : (A.deeper (PyProof.Rows.envOfC "_law_row" (defScope s__law_row) s.heap.objs.size f cdv)).units + 64 < cLine := by omega
  have u65 : (A.deeper (PyProof.Rows.envOfC "_law_row" (defScope s__law_row) s.heap.objs.size f cdv)).units + 65 < cLine := by omega
  have u66 : (A.deeper (PyProof.Rows.envOfC "_law_row" (defScope s__law_row) s.heap.objs.size f cdv)).units + 66 < cLine := by omega
  have tk : Takes (cxOf (L2.CX P w) P w K mg base ["cell", "count", "base", "row", "k", "number"] "_law_row" (defScope s__law_row) f cdv A outer s H E) (fun cls d _ H => E cls d H) := takes_of rfl rfl rfl rfl
  have hp : PassesOwn (model P w) (cxOf (L2.CX P w) P w K mg base ["cell", "count", "base", "row", "k", "number"] "_law_row" (defScope s__law_row) f cdv A outer s H E).A (cxOf (L2.CX P w) P w K mg base ["cell", "count", "base", "row", "k", "number"] "_law_row" (defScope s__law_row) f cdv A outer s H E).env (cxOf (L2.CX P w) P w K mg base ["cell", "count", "base", "row", "k", "number"] "_law_row" (defScope s__law_row) f cdv A outer s H E).xe := passes_of (X := cxOf (L2.CX P w) P w K mg base ["cell", "count", "base", "row", "k", "number"] "_law_row" (defScope s__law_row) f cdv A outer s H E) rfl
  exact ss_cons (s_own 3 hN (t_lst (as_nil)))
    (ss_cons (s_for hp rfl (i_range1 (by rfl) z.b_range (as_cons keeps_O (TO.v (TD.o (t_var 1))) (as_nil))) (g_name 4 hN) (ss_cons (s_if (b_ge (TD.o (t_var 0)) (TD.o (t_op back_D op_pow o_pow (TD.o (t_int)) (TD.o (t_int))))) (ss_cons (s_app 3 (t_op back_D op_mod o_mod (TD.o (t_intc z.b_int (as_cons keeps_O (TO.v (TD.o (t_var 0))) (as_nil)))) (TD.o (t_var 2))))
    (ss_cons (s_set 0 hN (t_op back_D op_fdiv o_fdiv (TD.o (t_var 0)) (TD.o (t_var 2))))
    (ss_nil))) (ss_cons (s_set 5 hN (t_op back_D op_mod o_mod (TD.o (t_intc z.b_int (as_cons keeps_O (TO.v (TD.o (t_op back_D op_addA o_add (TD.o (t_op back_D op_addA o_add (TD.o (t_op back_D op_mul o_mul (TD.o (t_var 0)) (TD.o (t_int)))) (TD.o (t_op back_D op_mul o_mul (TD.o (t_var 4)) (TD.o (t_int)))))) (TD.o (t_int))))) (as_nil)))) (TD.o (t_int))))
    (ss_cons (s_set 5 hN (t_op back_D op_mod o_mod (TD.o (t_intc z.b_int (as_cons keeps_O (TO.v (TD.o (t_op back_D op_addA o_add (TD.o (t_op back_D op_addA o_add (TD.o (t_op back_D op_mul o_mul (TD.o (t_var 5)) (TD.o (t_var 5)))) (TD.o (t_op back_D op_mul o_mul (TD.o (t_int)) (TD.o (t_var 4)))))) (TD.o (t_int))))) (as_nil)))) (TD.o (t_int))))
    (ss_cons (s_set 5 hN (t_op back_D op_mod o_mod (TD.o (t_intc z.b_int (as_cons keeps_O (TO.v (TD.o (t_op back_D op_addA o_add (TD.o (t_op back_D op_addA o_add (TD.o (t_op back_D op_mul o_mul (TD.o (t_var 5)) (TD.o (t_var 5)))) (TD.o (t_op back_D op_mul o_mul (TD.o (t_int)) (TD.o (t_var 4)))))) (TD.o (t_var 0))))) (as_nil)))) (TD.o (t_int))))
    (ss_cons (s_app 3 (t_op back_D op_mod o_mod (TD.o (t_intc z.b_int (as_cons keeps_O (TO.v (TD.o (t_op back_D op_fdiv o_fdiv (TD.o (t_var 5)) (TD.o (t_int))))) (as_nil)))) (TD.o (t_var 2))))
    (ss_nil))))))
    (ss_nil)))
    (ss_cons (s_retO 3 rfl)
    (ss_nil)))
abbrev s__law_faces : Stmt := topS 11
theorem sc__law_faces : FnScope ["simplex", "k"] ["simplex"] (defScope s__law_faces) := ⟨rfl, rfl, rfl, by decide +kernel, rfl, by decide +kernel, by decide +kernel⟩
set_option maxHeartbeats 400000 in
theorem ok__law_faces {f : Addr} {fd : FuncData} (F : Fun K "_law_faces" "_law_faces" s__law_faces f fd) (z : Zs mg) (gm : mg "_law_faces" = some (.ref f)) : Df P w K mg base 1 "_law_faces" 1 (rF K) F__law_faces := by
  have bb : Binds K fd ["simplex"] [] := F.binds fun _ _ _ _ _ _ us hl => (match us, hl with | [_], _ => rfl)
  refine ⟨f, fd, ["simplex"], ?_, bb, gm, F.kp⟩
  suffices body : ∀ (cdv : Value) (A : Around) (outer : List PySem.Env) (s : Shared) (H : Hp) (E : XK) (A0 : List Addr), Room 0 (A.deeper (PyProof.Rows.envOfC "_law_faces" (defScope s__law_faces) s.heap.objs.size f cdv)) → A.guards = some [] →
      TSs (cxOf (L2.CX P w) P w K mg base ["simplex", "k"] "_law_faces" (defScope s__law_faces) f cdv A outer s H E) ⟨fun cls d _ H => E cls d H, rF K, H, A0⟩ (defBody s__law_faces) G__law_faces by
    exact fn_rule (k := 0) (G := G__law_faces) (N := ["simplex", "k"]) (ps := ["simplex"]) (rl := rF K) (fall := .no) F sc__law_faces (.inr rfl) body
  intro cdv A outer s H E A0 hr hg
  have hN := sc__law_faces.nd
  have hu := hr.un
  have u64 : (A.deeper (PyProof.Rows.envOfC "_law_faces" (defScope s__law_faces) s.heap.objs.size f cdv)).units + 64 < cLine := by omega
  have u65 : (A.deeper (PyProof.Rows.envOfC "_law_faces" (defScope s__law_faces) s.heap.objs.size f cdv)).units + 65 < cLine := by omega
  have u66 : (A.deeper (PyProof.Rows.envOfC "_law_faces" (defScope s__law_faces) s.heap.objs.size f cdv)).units + 66 < cLine := by omega
  have tk : Takes (cxOf (L2.CX P w) P w K mg base ["simplex", "k"] "_law_faces" (defScope s__law_faces) f cdv A outer s H E) (fun cls d _ H => E cls d H) := takes_of rfl rfl rfl rfl
  have hp : PassesOwn (model P w) (cxOf (L2.CX P w) P w K mg base ["simplex", "k"] "_law_faces" (defScope s__law_faces) f cdv A outer s H E).A (cxOf (L2.CX P w) P w K mg base ["simplex", "k"] "_law_faces" (defScope s__law_faces) f cdv A outer s H E).env (cxOf (L2.CX P w) P w K mg base ["simplex", "k"] "_law_faces" (defScope s__law_faces) f cdv A outer s H E).xe := passes_of (X := cxOf (L2.CX P w) P w K mg base ["simplex", "k"] "_law_faces" (defScope s__law_faces) f cdv A outer s H E) rfl
  exact ss_cons (s_if (b_eq u64 (TD.o (t_len z.b_len (as_cons keeps_O (TO.v (TD.o (t_var 0))) (as_nil)))) (TD.o (t_int))) (ss_cons (s_retF (t_lst (as_nil)) rfl)
    (ss_nil)) (ss_nil))
    (ss_cons (s_retF (t_lc rfl hN (i_any (t_slice (TF.o (t_lst (as_cons keeps_D (TD.v (t_int)) (as_cons keeps_D (TD.v (t_int)) (as_cons keeps_D (TD.v (t_int)) (as_nil)))))) (pt_1 (TD.o (t_op back_D op_sub o_sub (TD.o (t_int)) (TD.o (t_len z.b_len (as_cons keeps_O (TO.v (TD.o (t_var 0))) (as_nil))))))) (pt_0))) (blkOk_by (N := ["simplex", "k"]) (sc := defScope s__law_faces) (own := [("k", 1)]) (by decide +kernel)) (fun _ _ _ _ _ => g_name 1 hN) (fun _ _ _ _ _ => cs_nil) (fun _ _ _ _ _ => t_op back_D op_addA o_add (TD.o (t_slice (TD.o (t_var 0)) (pt_0) (pt_1 (TD.o (t_var 1))))) (TD.o (t_slice (TD.o (t_var 0)) (pt_1 (TD.o (t_op back_D op_addA o_add (TD.o (t_var 1)) (TD.o (t_int))))) (pt_0))))) rfl)
    (ss_nil))
abbrev s__law_is_simplex : Stmt := topS 12
theorem sc__law_is_simplex : FnScope ["value", "vertex", "k"] ["value"] (defScope s__law_is_simplex) := ⟨rfl, rfl, rfl, by decide +kernel, rfl, by decide +kernel, by decide +kernel⟩
set_option maxHeartbeats 400000 in
theorem ok__law_is_simplex {f : Addr} {fd : FuncData} (F : Fun K "_law_is_simplex" "_law_is_simplex" s__law_is_simplex f fd) (z : Zs mg) (gm : mg "_law_is_simplex" = some (.ref f)) : Df P w K mg base 1 "_law_is_simplex" 1 (rD K) F__law_is_simplex := by
  have bb : Binds K fd ["value"] [] := F.binds fun _ _ _ _ _ _ us hl => (match us, hl with | [_], _ => rfl)
  refine ⟨f, fd, ["value"], ?_, bb, gm, F.kp⟩
  suffices body : ∀ (cdv : Value) (A : Around) (outer : List PySem.Env) (s : Shared) (H : Hp) (E : XK) (A0 : List Addr), Room 0 (A.deeper (PyProof.Rows.envOfC "_law_is_simplex" (defScope s__law_is_simplex) s.heap.objs.size f cdv)) → A.guards = some [] →
      TSs (cxOf (L2.CX P w) P w K mg base ["value", "vertex", "k"] "_law_is_simplex" (defScope s__law_is_simplex) f cdv A outer s H E) ⟨fun cls d _ H => E cls d H, rD K, H, A0⟩ (defBody s__law_is_simplex) G__law_is_simplex by
    exact fn_rule (k := 0) (G := G__law_is_simplex) (N := ["value", "vertex", "k"]) (ps := ["value"]) (rl := rD K) (fall := .ok .none) F sc__law_is_simplex (.inl ⟨rfl, rfl⟩) body
  intro cdv A outer s H E A0 hr hg
  have hN := sc__law_is_simplex.nd
  have hu := hr.un
  have u64 : (A.deeper (PyProof.Rows.envOfC "_law_is_simplex" (defScope s__law_is_simplex) s.heap.objs.size f cdv)).units + 64 < cLine := by omega
  have u65 : (A.deeper (PyProof.Rows.envOfC "_law_is_simplex" (defScope s__law_is_simplex) s.heap.objs.size f cdv)).units + 65 < cLine := by omega
  have u66 : (A.deeper (PyProof.Rows.envOfC "_law_is_simplex" (defScope s__law_is_simplex) s.heap.objs.size f cdv)).units + 66 < cLine := by omega
  have tk : Takes (cxOf (L2.CX P w) P w K mg base ["value", "vertex", "k"] "_law_is_simplex" (defScope s__law_is_simplex) f cdv A outer s H E) (fun cls d _ H => E cls d H) := takes_of rfl rfl rfl rfl
  have hp : PassesOwn (model P w) (cxOf (L2.CX P w) P w K mg base ["value", "vertex", "k"] "_law_is_simplex" (defScope s__law_is_simplex) f cdv A outer s H E).A (cxOf (L2.CX P w) P w K mg base ["value", "vertex", "k"] "_law_is_simplex" (defScope s__law_is_simplex) f cdv A outer s H E).env (cxOf (L2.CX P w) P w K mg base ["value", "vertex", "k"] "_law_is_simplex" (defScope s__law_is_simplex) f cdv A outer s H E).xe := passes_of (X := cxOf (L2.CX P w) P w K mg base ["value", "vertex", "k"] "_law_is_simplex" (defScope s__law_is_simplex) f cdv A outer s H E) rfl
  exact ss_cons (s_if (b_w (w_or (b_not (b_val (TD.o (t_isi (T := "tuple") z.b_isinstance z.b_tuple (by decide +kernel) (TD.o (t_var 0)))))) (w_or (b_lt (TD.o (t_len z.b_len (as_cons keeps_O (TO.v (TD.o (t_var 0))) (as_nil)))) (TD.o (t_int))) (w_or1 (b_gt (TD.o (t_len z.b_len (as_cons keeps_O (TO.v (TD.o (t_var 0))) (as_nil)))) (TD.o (t_int))))))) (ss_cons (s_ret (t_bool) rfl)
    (ss_nil)) (ss_nil))
    (ss_cons (s_for hp rfl (i_any (t_var 0)) (g_name 1 hN) (ss_cons (s_if (b_w (w_or (b_not (b_val (TD.o (t_isi (T := "int") z.b_isinstance z.b_int (by decide +kernel) (TD.o (t_var 1)))))) (w_or (b_val (TD.o (t_isi (T := "bool") z.b_isinstance z.b_bool (by decide +kernel) (TD.o (t_var 1))))) (w_or (b_lt (TD.o (t_var 1)) (TD.o (t_int))) (w_or1 (b_gt (TD.o (t_var 1)) (TD.o (t_int)))))))) (ss_cons (s_ret (t_bool) rfl)
    (ss_nil)) (ss_nil))
    (ss_nil)))
    (ss_cons (s_ret (t_all rfl z.b_all (as_cons keeps_O (TO.v (TF.o (t_lc rfl hN (i_range1 (by rfl) z.b_range (as_cons keeps_O (TO.v (TD.o (t_op back_D op_sub o_sub (TD.o (t_len z.b_len (as_cons keeps_O (TO.v (TD.o (t_var 0))) (as_nil)))) (TD.o (t_int))))) (as_nil))) (blkOk_by (N := ["value", "vertex", "k"]) (sc := defScope s__law_is_simplex) (own := [("k", 2)]) (by decide +kernel)) (fun _ _ _ _ _ => g_name 2 hN) (fun _ _ _ _ _ => cs_nil) (fun _ _ _ _ _ => t_lt (TD.o (t_ix (TD.o (t_var 0)) (TD.o (t_var 2)))) (TD.o (t_ix (TD.o (t_var 0)) (TD.o (t_op back_D op_addA o_add (TD.o (t_var 2)) (TD.o (t_int)))))))))) (as_nil))) rfl)
    (ss_nil)))
abbrev s_law : Stmt := topS 13
theorem sc_law : FnScope ["script", "row", "picked", "simplex", "odd", "bent", "value", "asked", "actual", "due", "told", "k"] ["script"] (defScope s_law) := ⟨rfl, rfl, rfl, by decide +kernel, rfl, by decide +kernel, by decide +kernel⟩
set_option maxHeartbeats 400000 in
theorem ok_law {f : Addr} {fd : FuncData} (F : Fun K "law" "law" s_law f fd) (z : Zs mg) (d__law_cell : Df P w K mg base 1 "_law_cell" 2 (rD K) F__law_cell) (d__law_faces : Df P w K mg base 1 "_law_faces" 1 (rF K) F__law_faces) (d__law_is_simplex : Df P w K mg base 1 "_law_is_simplex" 1 (rD K) F__law_is_simplex) (d__law_row : Df P w K mg base 1 "_law_row" 3 (rF K) F__law_row) (d_dimension_of : Df P w K mg base 1 "dimension_of" 1 (rD K) F_dimension_of) (d_faces_of : Df P w K mg base 2 "faces_of" 1 (rF K) F_faces_of) (d_is_simplex : Df P w K mg base 3 "is_simplex" 1 (rD K) F_is_simplex) : FnG P w K mg base 4 f fd ["script"] (spD K mg (rD K) 1 F_law) := by
  suffices body : ∀ (cdv : Value) (A : Around) (outer : List PySem.Env) (s : Shared) (H : Hp) (E : XK) (A0 : List Addr), Room 3 (A.deeper (PyProof.Rows.envOfC "law" (defScope s_law) s.heap.objs.size f cdv)) → A.guards = some [] →
      TSs (cxOf (L2.CX P w) P w K mg base ["script", "row", "picked", "simplex", "odd", "bent", "value", "asked", "actual", "due", "told", "k"] "law" (defScope s_law) f cdv A outer s H E) ⟨fun cls d _ H => E cls d H, rD K, H, A0⟩ (defBody s_law) G_law by
    exact fn_rule (k := 3) (G := G_law) (N := ["script", "row", "picked", "simplex", "odd", "bent", "value", "asked", "actual", "due", "told", "k"]) (ps := ["script"]) (rl := rD K) (fall := .ok .none) F sc_law (.inl ⟨rfl, rfl⟩) body
  intro cdv A outer s H E A0 hr hg
  have hN := sc_law.nd
  have hu := hr.un
  have u64 : (A.deeper (PyProof.Rows.envOfC "law" (defScope s_law) s.heap.objs.size f cdv)).units + 64 < cLine := by omega
  have u65 : (A.deeper (PyProof.Rows.envOfC "law" (defScope s_law) s.heap.objs.size f cdv)).units + 65 < cLine := by omega
  have u66 : (A.deeper (PyProof.Rows.envOfC "law" (defScope s_law) s.heap.objs.size f cdv)).units + 66 < cLine := by omega
  have tk : Takes (cxOf (L2.CX P w) P w K mg base ["script", "row", "picked", "simplex", "odd", "bent", "value", "asked", "actual", "due", "told", "k"] "law" (defScope s_law) f cdv A outer s H E) (fun cls d _ H => E cls d H) := takes_of rfl rfl rfl rfl
  have hp : PassesOwn (model P w) (cxOf (L2.CX P w) P w K mg base ["script", "row", "picked", "simplex", "odd", "bent", "value", "asked", "actual", "due", "told", "k"] "law" (defScope s_law) f cdv A outer s H E).A (cxOf (L2.CX P w) P w K mg base ["script", "row", "picked", "simplex", "odd", "bent", "value", "asked", "actual", "due", "told", "k"] "law" (defScope s_law) f cdv A outer s H E).env (cxOf (L2.CX P w) P w K mg base ["script", "row", "picked", "simplex", "odd", "bent", "value", "asked", "actual", "due", "told", "k"] "law" (defScope s_law) f cdv A outer s H E).xe := passes_of (X := cxOf (L2.CX P w) P w K mg base ["script", "row", "picked", "simplex", "odd", "bent", "value", "asked", "actual", "due", "told", "k"] "law" (defScope s_law) f cdv A outer s H E) rfl
  exact ss_cons (s_set 1 hN (TF.d (t_callD d__law_row hr hg (as_cons keeps_D (TD.v (t_callD d__law_cell hr hg (as_cons keeps_D (TD.v (t_var 0)) (as_cons keeps_D (TD.v (t_int)) (as_nil))) (aC_len (aC_len a0_len)) back_D)) (as_cons keeps_D (TD.v (t_int)) (as_cons keeps_D (TD.v (t_int)) (as_nil)))) (aC_len (aC_len (aC_len a0_len))) back_F)))
    (ss_cons (s_set 2 hN (TF.d (t_lc rfl hN (i_range1 (by rfl) z.b_range (as_cons keeps_O (TO.v (TD.o (t_op back_D op_addA o_add (TD.o (t_int)) (TD.o (t_op back_D op_mod o_mod (TD.o (t_intc z.b_int (as_cons keeps_O (TO.v (TD.o (t_ix (TD.o (t_var 1)) (TD.o (t_int))))) (as_nil)))) (TD.o (t_int))))))) (as_nil))) (blkOk_by (N := ["script", "row", "picked", "simplex", "odd", "bent", "value", "asked", "actual", "due", "told", "k"]) (sc := defScope s_law) (own := [("k", 11)]) (by decide +kernel)) (fun _ _ _ _ _ => g_name 11 hN) (fun _ _ _ _ _ => cs_nil) (fun _ _ _ _ _ => t_op back_D op_mod o_mod (TD.o (t_intc z.b_int (as_cons keeps_O (TO.v (TD.o (t_ix (TD.o (t_var 1)) (TD.o (t_var 11))))) (as_nil)))) (TD.o (t_int))))))
    (ss_cons (s_set 3 hN (t_tuplec z.b_tuple (as_cons keeps_O (TO.v (TF.o (t_sortI z.b_sorted (as_cons keeps_O (TO.v (TF.o (t_lc rfl hN (i_range1 (by rfl) z.b_range (as_cons keeps_O (TO.v (TD.o (t_len z.b_len (as_cons keeps_O (TO.v (TD.o (t_var 2))) (as_nil))))) (as_nil))) (blkOk_by (N := ["script", "row", "picked", "simplex", "odd", "bent", "value", "asked", "actual", "due", "told", "k"]) (sc := defScope s_law) (own := [("k", 11)]) (by decide +kernel)) (fun _ _ _ _ _ => g_name 11 hN) (fun _ _ _ _ _ => cs_one (b_notin u65 (TD.o (t_ix (TD.o (t_var 2)) (TD.o (t_var 11)))) (TD.o (t_slice (TD.o (t_var 2)) (pt_0) (pt_1 (TD.o (t_var 11))))))) (fun _ _ _ _ _ => t_ix (TD.o (t_var 2)) (TD.o (t_var 11)))))) (as_nil))))) (as_nil))))
    (ss_cons (s_set 4 hN (t_ix (TF.o (t_lst (as_cons keeps_D (TD.v (t_int)) (as_cons keeps_D (TD.v (t_neg (TD.o (t_int)))) (as_cons keeps_D (TD.v (t_none)) (as_cons keeps_D (TD.v (t_bool)) (as_cons keeps_D (TD.v (t_str)) (as_cons keeps_D (TD.v (t_tup (as_cons keeps_D (TD.v (t_int)) (as_nil)))) (as_cons keeps_D (TD.v (t_int)) (as_cons keeps_D (TD.v (t_int)) (as_cons keeps_D (TD.v (t_int)) (as_cons keeps_D (TD.v (t_bool)) (as_nil))))))))))))) (TD.o (t_op back_D op_mod o_mod (TD.o (t_intc z.b_int (as_cons keeps_O (TO.v (TD.o (t_callD d__law_cell hr hg (as_cons keeps_D (TD.v (t_var 0)) (as_cons keeps_D (TD.v (t_int)) (as_nil))) (aC_len (aC_len a0_len)) back_D))) (as_nil)))) (TD.o (t_int))))))
    (ss_cons (s_set 5 hN (TF.d (t_lst (as_cons keeps_D (TD.v (t_var 3)) (as_cons keeps_D (TD.v (t_rev (TD.o (t_var 3)))) (as_cons keeps_D (TD.v (t_op back_D op_addA o_add (TD.o (t_var 3)) (TD.o (t_tup (as_cons keeps_D (TD.v (t_var 4)) (as_nil)))))) (as_cons keeps_D (TD.v (t_op back_D op_addA o_add (TD.o (t_tup (as_cons keeps_D (TD.v (t_var 4)) (as_nil)))) (TD.o (t_var 3)))) (as_cons keeps_D (TD.v (t_op back_D op_addA o_add (TD.o (t_var 3)) (TD.o (t_slice (TD.o (t_var 3)) (pt_1 (TD.o (t_neg (TD.o (t_int))))) (pt_0))))) (as_cons keeps_D (TD.v (t_tup (as_nil))) (as_cons keeps_D (TD.v (t_tup (as_cons keeps_D (TD.v (t_int)) (as_cons keeps_D (TD.v (t_int)) (as_cons keeps_D (TD.v (t_int)) (as_cons keeps_D (TD.v (t_int)) (as_nil))))))) (as_cons keeps_D (TD.v (TF.d (t_listc z.b_list (as_cons keeps_O (TO.v (TD.o (t_var 3))) (as_nil))))) (as_cons keeps_D (TD.v (t_var 4)) (as_nil)))))))))))))
    (ss_cons (s_set 6 hN (t_ix (TD.o (t_var 5)) (TD.o (t_op back_D op_mod o_mod (TD.o (t_intc z.b_int (as_cons keeps_O (TO.v (TD.o (t_callD d__law_cell hr hg (as_cons keeps_D (TD.v (t_var 0)) (as_cons keeps_D (TD.v (t_int)) (as_nil))) (aC_len (aC_len a0_len)) back_D))) (as_nil)))) (TD.o (t_int))))))
    (ss_cons (s_for hp rfl (i_any (TF.d (t_lst (as_cons keeps_D (TD.v (t_var 3)) (as_cons keeps_D (TD.v (t_var 6)) (as_nil)))))) (g_name 7 hN) (ss_cons (s_set 8 hN (t_callD d_is_simplex hr hg (as_cons keeps_D (TD.v (t_var 7)) (as_nil)) (aC_len a0_len) back_D))
    (ss_cons (s_if (b_w (w_or (b_not (b_val (TD.o (t_isi (T := "bool") z.b_isinstance z.b_bool (by decide +kernel) (TD.o (t_var 8)))))) (w_or1 (b_ne u64 (TD.o (t_var 8)) (TD.o (t_callD d__law_is_simplex hr hg (as_cons keeps_D (TD.v (t_var 7)) (as_nil)) (aC_len a0_len) back_D)))))) (ss_cons (s_ret (t_bool) rfl)
    (ss_nil)) (ss_nil))
    (ss_nil))))
    (ss_cons (s_set 9 hN (TF.d (t_callD d__law_faces hr hg (as_cons keeps_D (TD.v (t_var 3)) (as_nil)) (aC_len a0_len) back_F)))
    (ss_cons (s_own 10 hN (t_callD d_faces_of hr hg (as_cons keeps_D (TD.v (t_var 3)) (as_nil)) (aC_len a0_len) back_F))
    (ss_cons (s_if (b_w (w_or (b_ne u64 (TD.o (t_repr hg u66 z.b_repr (as_cons keeps_O (TO.v (t_own 10)) (as_nil)))) (TD.o (t_repr hg u66 z.b_repr (as_cons keeps_O (TO.v (TD.o (t_var 9))) (as_nil))))) (w_or1 (b_ne u64 (TD.o (t_repr hg u66 z.b_repr (as_cons keeps_O (TO.v (TD.o (t_callD d_dimension_of hr hg (as_cons keeps_D (TD.v (t_var 3)) (as_nil)) (aC_len a0_len) back_D))) (as_nil)))) (TD.o (t_repr hg u66 z.b_repr (as_cons keeps_O (TO.v (TD.o (t_op back_D op_sub o_sub (TD.o (t_len z.b_len (as_cons keeps_O (TO.v (TD.o (t_var 3))) (as_nil)))) (TD.o (t_int))))) (as_nil)))))))) (ss_cons (s_ret (t_bool) rfl)
    (ss_nil)) (ss_nil))
    (ss_cons (s_app 10 (t_str))
    (ss_cons (s_ret (t_eq u64 (TD.o (t_repr hg u66 z.b_repr (as_cons keeps_O (TO.v (TF.o (t_callD d_faces_of hr hg (as_cons keeps_D (TD.v (t_var 3)) (as_nil)) (aC_len a0_len) back_F))) (as_nil)))) (TD.o (t_repr hg u66 z.b_repr (as_cons keeps_O (TO.v (TD.o (t_var 9))) (as_nil))))) rfl)
    (ss_nil))))))))))))
end
end Bd
namespace Bd
open PySem L2

theorem cell_eq : F__law_cell = Lw.F_cell := rfl
theorem row_eq : F__law_row = Lw.F_row := rfl
theorem seq_nx {Gs Gt : Nv → Rs} {η η1 : Nv} (h : Gs η = .nx η1) : seqS Gs Gt η = Gt η1 := by
  rw [seqS_def, h]
  rfl
def isVt : D → Bool
  | .int i => decide (0 ≤ i) && decide (i ≤ 11)
  | _ => false
def ltB : D → D → Bool
  | .int i, .int j => decide (i < j)
  | _, _ => false
def ascB : List D → Bool
  | [a, b] => ltB a b
  | [a, b, c] => ltB a b && ltB b c
  | _ => true
def isSx : D → Bool
  | .tuple xs => decide (1 ≤ xs.length) && decide (xs.length ≤ 3) && xs.all isVt && ascB xs
  | _ => false
theorem whole_ok (d : D) : F_is_whole [d] = .ok (.bool (kInt d && !kBool d)) := by
  refine runD_rt [.d d] rfl ?_
  simp only [G_is_whole, seqS_def, retS_def, andV_def, e1_def, gv_zero, R.ok_bind, isi_int, isi_bool, of_some, tru_bool, notV_def]
  cases kInt d <;> rfl
theorem vertex_ok (d : D) : F_is_vertex [d] = .ok (.bool (isVt d)) := by
  refine runD_rt [.d d] rfl ?_
  cases d with
  | int i =>
    simp [G_is_vertex, whole_ok, kInt, kBool, isVt]
    by_cases h : 0 ≤ i <;> simp [h]
  | _ => simp [G_is_vertex, whole_ok, kInt, kBool, isVt]
theorem dim_ok (xs : List D) : F_dimension_of [.tuple xs] = .ok (.int (xs.length - 1)) := by
  refine runD_rt [.d (.tuple xs)] rfl ?_
  simp [G_dimension_of]
theorem vt_int {d : D} (h : isVt d = true) : ∃ i : Int, d = .int i ∧ 0 ≤ i ∧ i ≤ 11 := by
  cases d with
  | int i =>
    simp [isVt] at h
    exact ⟨i, rfl, h.1, h.2⟩
  | _ => simp [isVt] at h
theorem lineN_big (n : Nat) (h : n ≤ 16777216) : n ≤ lineN := by rw [lineN_eq]; exact h
theorem guard_ok (xs : List D) (s1 s2 s3 : Sl) : (orB (notB (tb (e1 (isiV "tuple") (gv 0)))) (notB (tb (chainV leV leV (k0 (.int 1)) (eN lenV (aC (gv 0) a0)) (e2 addV (k0 (.int (2))) (k0 (.int 1))))))) [.d (.tuple xs), s1, s2, s3] = .ok !(decide (1 ≤ xs.length) && decide (xs.length ≤ 3)) := by
  simp [isi_tuple, kTup]
  by_cases n1 : (1 : Int) ≤ xs.length
  · rw [if_pos n1, decide_eq_true (by omega : 1 ≤ xs.length)]
    show R.ok (!decide ((xs.length : Int) ≤ 3)) = R.ok (!decide (xs.length ≤ 3))
    rw [decide_eq_decide.mpr (by omega : (xs.length : Int) ≤ 3 ↔ xs.length ≤ 3)]
  · rw [if_neg n1, decide_eq_false (by omega : ¬ 1 ≤ xs.length)]
    rfl
theorem zip_ok {xs : List D} {bs : List Bool} (s1 s2 s3 : Sl) {ps : List D} (h1 : zip2 [.tuple xs, .tuple (xs.drop 1)] = .ok ps) (h2 : compD (gT 2 (gsC (gN 1) (gsC (gN 2) gs0))) (fun _ => .ok true) (e2 ltV (gv 1) (gv 2)) [.d (.tuple xs), .no, .no, s3] ps = .ok (bs.map PyData.bool)) (hl : bs.length ≤ 3) : (retS (eN allV (aC (compE (iZ (aC (gv 0) (aC (slE slV (gv 0) (p1 (k0 (.int 1))) p0) a0))) (gT 2 (gsC (gN 1) (gsC (gN 2) gs0))) (fun _ => .ok true) (e2 ltV (gv 1) (gv 2)) [1, 2]) a0))) [.d (.tuple xs), s1, s2, s3] = .rt (.bool (bs.all id)) := by
  have c : compE (iZ (aC (gv 0) (aC (slE slV (gv 0) (p1 (k0 (.int 1))) p0) a0))) (gT 2 (gsC (gN 1) (gsC (gN 2) gs0))) (fun _ => .ok true) (e2 ltV (gv 1) (gv 2)) [1, 2] [.d (.tuple xs), s1, s2, s3] = .ok (.list (bs.map PyData.bool)) := by
    refine compE_ok (xs := ps) ?_ ?_ (lineN_big _ (by rw [List.length_map]; omega))
    · rw [← h1]
      simp [cut_drop]
    · simpa [wipeE] using h2
  simp [c, all_bools]
theorem simplex_ok (d : D) : F_is_simplex [d] = .ok (.bool (isSx d)) := by
  refine runD_rt [.d d, .no, .no, .no] rfl ?_
  cases d with
  | tuple xs =>
    by_cases h1 : 1 ≤ xs.length ∧ xs.length ≤ 3
    · have gd := guard_ok xs .no .no .no
      rw [decide_eq_true h1.1, decide_eq_true h1.2] at gd
      have c1 : compE (iA (gv 0)) (gN 3) (fun _ => .ok true) (callV F_is_vertex (aC (gv 3) a0)) [3] [.d (.tuple xs), .no, .no, .no] = .ok (.list (xs.map fun d => .bool (isVt d))) := by
        refine compE_ok (xs := xs) (by simp) (compD_map xs fun x _ => ⟨_, rfl, rfl, ?_⟩) (lineN_big _ (by rw [List.length_map]; omega))
        simp [wipeE, vertex_ok]
      have c2 : allV [.list (xs.map fun d => .bool (isVt d))] = some (.bool (xs.all isVt)) := by
        have := all_bools (xs.map isVt)
        rw [List.map_map] at this
        rw [List.all_map] at this
        exact this
      by_cases h2 : xs.all isVt = true
      · rw [h2] at c2
        have h3 : ∀ x ∈ xs, isVt x = true := List.all_eq_true.mp h2
        have k1 : G_is_simplex [.d (.tuple xs), .no, .no, .no] = seqS (retS (eN allV (aC (compE (iZ (aC (gv 0) (aC (slE slV (gv 0) (p1 (k0 (.int 1))) p0) a0))) (gT 2 (gsC (gN 1) (gsC (gN 2) gs0))) (fun _ => .ok true) (e2 ltV (gv 1) (gv 2)) [1, 2]) a0))) .nx [.d (.tuple xs), .no, .no, .no] := by
          unfold G_is_simplex
          rw [seq_nx (η1 := [.d (.tuple xs), .no, .no, .no]) (by rw [ifS_def, gd]; rfl), seq_nx (η1 := [.d (.tuple xs), .no, .no, .no]) (by simp [c1, c2])]
        have e : isSx (.tuple xs) = ascB xs := by simp only [isSx, h2, decide_eq_true h1.1, decide_eq_true h1.2, Bool.true_and]
        rw [k1, e, seqS_def]
        match xs, h3 with
        | [a], h3 =>
          obtain ⟨a, rfl, _, _⟩ := vt_int (h3 a (by simp))
          rw [zip_ok (bs := []) .no .no .no (ps := []) rfl rfl (by simp)]
          rfl
        | [a, b], h3 =>
          obtain ⟨a, rfl, _, _⟩ := vt_int (h3 a (by simp))
          obtain ⟨b, rfl, _, _⟩ := vt_int (h3 b (by simp))
          rw [zip_ok (bs := [decide (a < b)]) .no .no .no (ps := [.tuple [.int a, .int b]]) rfl rfl (by simp)]
          show Rs.rt (.bool (decide (a < b) && true)) = _
          rw [Bool.and_true]
          rfl
        | [a, b, c], h3 =>
          obtain ⟨a, rfl, _, _⟩ := vt_int (h3 a (by simp))
          obtain ⟨b, rfl, _, _⟩ := vt_int (h3 b (by simp))
          obtain ⟨c, rfl, _, _⟩ := vt_int (h3 c (by simp))
          rw [zip_ok (bs := [decide (a < b), decide (b < c)]) .no .no .no (ps := [.tuple [.int a, .int b], .tuple [.int b, .int c]]) rfl rfl (by simp)]
          show Rs.rt (.bool (decide (a < b) && (decide (b < c) && true))) = _
          rw [Bool.and_true]
          rfl
        | [], _ => exact absurd h1.1 (by simp)
        | _ :: _ :: _ :: _ :: r, _ => exact absurd h1.2 (by simp)
      · have h2 : xs.all isVt = false := Bool.eq_false_iff.mpr h2
        rw [h2] at c2
        have e : isSx (.tuple xs) = false := by simp only [isSx, h2, Bool.and_false, Bool.false_and]
        unfold G_is_simplex
        rw [seq_nx (η1 := [.d (.tuple xs), .no, .no, .no]) (by rw [ifS_def, gd]; rfl), e]
        simp [c1, c2]
    · have g0 : (decide (1 ≤ xs.length) && decide (xs.length ≤ 3)) = false := by simp; omega
      have gd := guard_ok xs .no .no .no
      rw [g0] at gd
      have e : isSx (.tuple xs) = false := by simp only [isSx, g0, Bool.false_and]
      unfold G_is_simplex
      rw [seqS_def, ifS_def, gd, e]
      rfl
  | _ => simp [G_is_simplex, isi_tuple, kTup, isSx]
/-! the law's own is_simplex -/
theorem lguard_ok (xs : List D) (s1 s2 : Sl) : (orB (notB (tb (e1 (isiV "tuple") (gv 0)))) (orB (tb (e2 ltV (eN lenV (aC (gv 0) a0)) (k0 (.int 1)))) (tb (e2 gtV (eN lenV (aC (gv 0) a0)) (k0 (.int 3)))))) [.d (.tuple xs), s1, s2] = .ok !(decide (1 ≤ xs.length) && decide (xs.length ≤ 3)) := by
  simp [isi_tuple, kTup]
  by_cases n1 : (1 : Int) ≤ xs.length
  · rw [if_neg (by omega), decide_eq_true (by omega : 1 ≤ xs.length)]
    show R.ok (decide ((3 : Int) < xs.length)) = R.ok (!decide (xs.length ≤ 3))
    rw [← decide_not, decide_eq_decide.mpr (by omega : (3 : Int) < xs.length ↔ ¬ xs.length ≤ 3)]
  · rw [if_pos (by omega), decide_eq_false (by omega : ¬ 1 ≤ xs.length)]
    rfl
def B_lsx : Nv → Rs :=
  (seqS (ifS (orB (notB (tb (e1 (isiV "int") (gv 1)))) (orB (tb (e1 (isiV "bool") (gv 1))) (orB (tb (e2 ltV (gv 1) (k0 (.int 0)))) (tb (e2 gtV (gv 1) (k0 (.int 11))))))) (seqS (retS (k0 (.bool false)))
    .nx) .nx)
    .nx)
theorem lsx_turn (v x : D) (s2 : Sl) : B_lsx [.d v, .d x, s2] = if isVt x then .nx [.d v, .d x, s2] else .rt (.bool false) := by
  cases x with
  | int i =>
    simp [B_lsx, isi_int, isi_bool, kInt, kBool, isVt]
    by_cases h1 : i < 0
    · rw [if_pos h1, if_neg (by omega)]
      rfl
    · by_cases h2 : 11 < i
      · rw [if_neg h1, decide_eq_true h2, if_neg (by omega)]
        rfl
      · rw [if_neg h1, decide_eq_false h2, if_pos (by omega)]
        rfl
  | bool b => simp [B_lsx, isi_int, isi_bool, kInt, kBool, isVt]
  | _ => simp [B_lsx, isi_int, isi_bool, kInt, kBool, isVt]
theorem lsx_loop (v : D) (s2 : Sl) : ∀ (xs : List D) (s1 : Sl), ∃ s1', loopG (gN 1) B_lsx xs [.d v, s1, s2] = if xs.all isVt then .nx [.d v, s1', s2] else .rt (.bool false)
  | [], s1 => ⟨s1, rfl⟩
  | x :: xs, s1 => by
    obtain ⟨s1', e⟩ := lsx_loop v s2 xs (.d x)
    refine ⟨s1', ?_⟩
    rw [loopG_cons (η1 := [.d v, .d x, s2]) (h := rfl), lsx_turn, List.all_cons]
    cases h : isVt x with
    | true => exact e
    | false => rfl
theorem lrange_ok (xs : List D) (s1 s2 : Sl) (h : 1 ≤ xs.length) (h3 : xs.length ≤ 3) : iR1 (aC (e2 subV (eN lenV (aC (gv 0) a0)) (k0 (.int 1))) a0) [.d (.tuple xs), s1, s2] = .ok (rangeD 0 (xs.length - 1)) := by
  have r := rng1_ok (n := (xs.length : Int) - 1) (by omega) (by omega)
  have e : ((xs.length : Int) - 1).toNat = xs.length - 1 := by omega
  rw [e] at r
  simp [r]
theorem lcomp_ok {xs : List D} {bs : List Bool} (s1 : Sl) (h : 1 ≤ xs.length) (h3 : xs.length ≤ 3) (hl : bs.length ≤ 3) (h2 : compD (gN 2) (fun _ => .ok true) (e2 ltV (e2 ixV (gv 0) (gv 2)) (e2 ixV (gv 0) (e2 addV (gv 2) (k0 (.int 1))))) [.d (.tuple xs), s1, .no] (rangeD 0 (xs.length - 1)) = .ok (bs.map PyData.bool)) : (retS (eN allV (aC (compE (iR1 (aC (e2 subV (eN lenV (aC (gv 0) a0)) (k0 (.int 1))) a0)) (gN 2) (fun _ => .ok true) (e2 ltV (e2 ixV (gv 0) (gv 2)) (e2 ixV (gv 0) (e2 addV (gv 2) (k0 (.int 1))))) [2]) a0))) [.d (.tuple xs), s1, .no] = .rt (.bool (bs.all id)) := by
  have c := compE_ok (vs := [2]) (lrange_ok xs s1 .no h h3) h2 (lineN_big _ (by rw [List.length_map]; omega))
  rw [retS_def, eN_def, aC_def, c, R.ok_bind, a0_def, R.ok_bind, R.ok_bind, all_bools]
  rfl
theorem lsimplex_ok (d : D) : F__law_is_simplex [d] = .ok (.bool (isSx d)) := by
  refine runD_rt [.d d, .no, .no] rfl ?_
  cases d with
  | tuple xs =>
    by_cases h1 : 1 ≤ xs.length ∧ xs.length ≤ 3
    · have gd := lguard_ok xs .no .no
      rw [decide_eq_true h1.1, decide_eq_true h1.2] at gd
      obtain ⟨s1, lo⟩ := lsx_loop (.tuple xs) .no xs .no
      have fo : forS (iA (gv 0)) (gN 1) B_lsx [.d (.tuple xs), .no, .no] = if xs.all isVt then .nx [.d (.tuple xs), s1, .no] else .rt (.bool false) := by
        rw [forS_def, iA_def, gv_zero, R.ok_bind, asSeq_tup, toS_ok]
        exact lo
      have ge : ∀ η, G__law_is_simplex η = (seqS (ifS (orB (notB (tb (e1 (isiV "tuple") (gv 0)))) (orB (tb (e2 ltV (eN lenV (aC (gv 0) a0)) (k0 (.int 1)))) (tb (e2 gtV (eN lenV (aC (gv 0) a0)) (k0 (.int 3)))))) (seqS (retS (k0 (.bool false))) .nx) .nx) (seqS (forS (iA (gv 0)) (gN 1) B_lsx) (seqS (retS (eN allV (aC (compE (iR1 (aC (e2 subV (eN lenV (aC (gv 0) a0)) (k0 (.int 1))) a0)) (gN 2) (fun _ => .ok true) (e2 ltV (e2 ixV (gv 0) (gv 2)) (e2 ixV (gv 0) (e2 addV (gv 2) (k0 (.int 1))))) [2]) a0))) .nx))) η := fun η => rfl
      rw [ge, seq_nx (η1 := [.d (.tuple xs), .no, .no]) (by rw [ifS_def, gd]; rfl)]
      by_cases h2 : xs.all isVt = true
      · rw [h2, if_pos rfl] at fo
        have h3 : ∀ x ∈ xs, isVt x = true := List.all_eq_true.mp h2
        have e : isSx (.tuple xs) = ascB xs := by simp only [isSx, h2, decide_eq_true h1.1, decide_eq_true h1.2, Bool.true_and]
        rw [e, seq_nx fo, seqS_def]
        clear fo lo ge gd e
        match xs, h3 with
        | [a], h3 =>
          obtain ⟨a, rfl, _, _⟩ := vt_int (h3 a (by simp))
          rw [lcomp_ok (bs := []) s1 (by simp) (by simp) (by simp) rfl]
          rfl
        | [a, b], h3 =>
          obtain ⟨a, rfl, _, _⟩ := vt_int (h3 a (by simp))
          obtain ⟨b, rfl, _, _⟩ := vt_int (h3 b (by simp))
          rw [lcomp_ok (bs := [decide (a < b)]) s1 (by simp) (by simp) (by simp) rfl]
          show Rs.rt (.bool (decide (a < b) && true)) = _
          rw [Bool.and_true]
          rfl
        | [a, b, c], h3 =>
          obtain ⟨a, rfl, _, _⟩ := vt_int (h3 a (by simp))
          obtain ⟨b, rfl, _, _⟩ := vt_int (h3 b (by simp))
          obtain ⟨c, rfl, _, _⟩ := vt_int (h3 c (by simp))
          rw [lcomp_ok (bs := [decide (a < b), decide (b < c)]) s1 (by simp) (by simp) (by simp) rfl]
          show Rs.rt (.bool (decide (a < b) && (decide (b < c) && true))) = _
          rw [Bool.and_true]
          rfl
        | [], _ => exact absurd h1.1 (by simp)
        | _ :: _ :: _ :: _ :: r, _ => exact absurd h1.2 (by simp)
      · have h2 : xs.all isVt = false := Bool.eq_false_iff.mpr h2
        rw [h2, if_neg Bool.false_ne_true] at fo
        have e : isSx (.tuple xs) = false := by simp only [isSx, h2, Bool.and_false, Bool.false_and]
        rw [e, seqS_def, fo]
        rfl
    · have g0 : (decide (1 ≤ xs.length) && decide (xs.length ≤ 3)) = false := by simp; omega
      have gd := lguard_ok xs .no .no
      rw [g0] at gd
      have e : isSx (.tuple xs) = false := by simp only [isSx, g0, Bool.false_and]
      unfold G__law_is_simplex
      rw [seqS_def, ifS_def, gd, e]
      rfl
  | _ => simp [G__law_is_simplex, isi_tuple, kTup, isSx]
end Bd
namespace Bd
open PySem L2
/-! ### faces -/
def facesD : List Int → D
  | [a, b] => .list [.tuple [.int a], .tuple [.int b]]
  | [a, b, c] => .list [.tuple [.int a, .int b], .tuple [.int a, .int c], .tuple [.int b, .int c]]
  | _ => .list []
theorem rr_ok0 {n : Int} (h0 : 0 ≤ n) (h : n < 1000000) : rr1 (.int n) = .ok (rrD n.toNat) := by
  show (if -(2 ^ 62) ≤ n ∧ n < 2 ^ 62 then _ else _) = _
  rw [if_pos ⟨by omega, by omega⟩]
theorem rr_ok {n : Nat} (h : n < 1000000) : rr1 (.int (n : Int)) = .ok (rrD n) := by
  rw [rr_ok0 (by omega) (by omega), Int.toNat_natCast]
theorem faces_comp {l : List Int} {ys : List D} (h : l.length ≤ 3) (h2 : compD (gN 1) (fun _ => .ok true) (e2 addV (slE slV (gv 0) p0 (p1 (gv 1))) (slE slV (gv 0) (p1 (e2 addV (gv 1) (k0 (.int 1)))) p0)) [.d (.tuple (l.map PyData.int)), .no] (rrD l.length) = .ok ys) (h3 : ys.length ≤ 3) : compE (iRR (eN lenV (aC (gv 0) a0))) (gN 1) (fun _ => .ok true) (e2 addV (slE slV (gv 0) p0 (p1 (gv 1))) (slE slV (gv 0) (p1 (e2 addV (gv 1) (k0 (.int 1)))) p0)) [1] [.d (.tuple (l.map PyData.int)), .no] = .ok (.list ys) :=
  compE_ok (vs := [1]) (by simp [rr_ok (show l.length < 1000000 by omega)]) h2 (lineN_big _ (by omega))
theorem faces_ok : ∀ l : List Int, 1 ≤ l.length → l.length ≤ 3 → F_faces_of [.tuple (l.map PyData.int)] = .ok (facesD l)
  | [a], _, _ => by
    refine runD_rt [.d (.tuple [.int a]), .no] rfl ?_
    simp [G_faces_of, dim_ok, eqV_int]
    rfl
  | [a, b], _, _ => by
    refine runD_rt [.d (.tuple [.int a, .int b]), .no] rfl ?_
    have c := faces_comp (l := [a, b]) (ys := [.tuple [.int a], .tuple [.int b]]) (by simp) (by simp [compD, rrD, List.range_succ, cut_take, cut_drop, addV_tup, R.bindN]) (by simp)
    simp only [List.map_cons, List.map_nil] at c
    simp [G_faces_of, dim_ok, eqV_int, c]
    rfl
  | [a, b, c], _, _ => by
    refine runD_rt [.d (.tuple [.int a, .int b, .int c]), .no] rfl ?_
    have c := faces_comp (l := [a, b, c]) (ys := [.tuple [.int a, .int b], .tuple [.int a, .int c], .tuple [.int b, .int c]]) (by simp) (by simp [compD, rrD, List.range_succ, cut_take, cut_drop, addV_tup, R.bindN]) (by simp)
    simp only [List.map_cons, List.map_nil] at c
    simp [G_faces_of, dim_ok, eqV_int, c]
    rfl
  | [], h, _ => absurd h (by simp)
  | _ :: _ :: _ :: _ :: r, _, h => absurd h (by simp)
theorem lfaces_comp {l : List Int} {xs ys : List D} (h : l.length ≤ 3) (h1 : (slE slV (lstV (aC (k0 (.int 2)) (aC (k0 (.int 1)) (aC (k0 (.int 0)) a0)))) (p1 (e2 subV (k0 (.int 3)) (eN lenV (aC (gv 0) a0)))) p0) [.d (.tuple (l.map PyData.int)), .no] = .ok (.list xs)) (h2 : compD (gN 1) (fun _ => .ok true) (e2 addV (slE slV (gv 0) p0 (p1 (gv 1))) (slE slV (gv 0) (p1 (e2 addV (gv 1) (k0 (.int 1)))) p0)) [.d (.tuple (l.map PyData.int)), .no] xs = .ok ys) (h3 : ys.length ≤ 3) : compE (iA (slE slV (lstV (aC (k0 (.int 2)) (aC (k0 (.int 1)) (aC (k0 (.int 0)) a0)))) (p1 (e2 subV (k0 (.int 3)) (eN lenV (aC (gv 0) a0)))) p0)) (gN 1) (fun _ => .ok true) (e2 addV (slE slV (gv 0) p0 (p1 (gv 1))) (slE slV (gv 0) (p1 (e2 addV (gv 1) (k0 (.int 1)))) p0)) [1] [.d (.tuple (l.map PyData.int)), .no] = .ok (.list ys) :=
  compE_ok (vs := [1]) (by rw [iA_def, h1]; rfl) h2 (lineN_big _ (by omega))
theorem lfaces_ok : ∀ l : List Int, 1 ≤ l.length → l.length ≤ 3 → F__law_faces [.tuple (l.map PyData.int)] = .ok (facesD l)
  | [a], _, _ => by
    refine runD_rt [.d (.tuple [.int a]), .no] rfl ?_
    simp [G__law_faces, eqV_int]
    rfl
  | [a, b], _, _ => by
    refine runD_rt [.d (.tuple [.int a, .int b]), .no] rfl ?_
    have c := lfaces_comp (l := [a, b]) (xs := [.int 1, .int 0]) (ys := [.tuple [.int a], .tuple [.int b]]) (by simp) (by simp [cut_drop, lineN_eq]) (by simp [compD, cut_take, cut_drop, addV_tup, R.bindN]) (by simp)
    simp only [List.map_cons, List.map_nil] at c
    simp [G__law_faces, eqV_int, c]
    rfl
  | [a, b, c], _, _ => by
    refine runD_rt [.d (.tuple [.int a, .int b, .int c]), .no] rfl ?_
    have c := lfaces_comp (l := [a, b, c]) (xs := [.int 2, .int 1, .int 0]) (ys := [.tuple [.int a, .int b], .tuple [.int a, .int c], .tuple [.int b, .int c]]) (by simp) (by simp [cut_drop, lineN_eq]) (by simp [compD, cut_take, cut_drop, addV_tup, R.bindN]) (by simp)
    simp only [List.map_cons, List.map_nil] at c
    simp [G__law_faces, eqV_int, c]
    rfl
  | [], h, _ => absurd h (by simp)
  | _ :: _ :: _ :: _ :: r, _, h => absurd h (by simp)
def SmallI (l : List Int) : Prop := ∀ x ∈ l, 0 ≤ x ∧ x < 12
theorem fine_simplex {l : List Int} (h : SmallI l) (hl : l.length ≤ 3) : Fine 1 126 (.tuple (l.map PyData.int)) := by
  refine (fine_tuple (k := 0) (n := 41) fun x m => ?_).mono (Nat.le_refl _) (by rw [List.length_map]; omega)
  obtain ⟨i, hi, rfl⟩ := List.mem_map.mp m
  have := h i hi
  exact fine_int (by omega) (by omega)
theorem fine_faces : ∀ l : List Int, SmallI l → l.length ≤ 3 → ∃ xs, facesD l = .list xs ∧ xs.length ≤ 3 ∧ ∀ x ∈ xs, Fine 1 126 x
  | [a, b], h, _ => ⟨_, rfl, by simp, fun x m => by
    simp at m
    rcases m with rfl | rfl
    · exact fine_simplex (l := [a]) (fun y q => h y (by simp at q ⊢; omega)) (by simp)
    · exact fine_simplex (l := [b]) (fun y q => h y (by simp at q ⊢; omega)) (by simp)⟩
  | [a, b, c], h, _ => ⟨_, rfl, by simp, fun x m => by
    simp at m
    rcases m with rfl | rfl | rfl
    · exact fine_simplex (l := [a, b]) (fun y q => h y (by simp at q ⊢; omega)) (by simp)
    · exact fine_simplex (l := [a, c]) (fun y q => h y (by simp at q ⊢; omega)) (by simp)
    · exact fine_simplex (l := [b, c]) (fun y q => h y (by simp at q ⊢; omega)) (by simp)⟩
  | [], _, _ => ⟨[], rfl, by simp, fun x m => by simp at m⟩
  | [a], _, _ => ⟨[], rfl, by simp, fun x m => by simp at m⟩
  | _ :: _ :: _ :: _ :: r, _, h => absurd h (by simp)
/-! ### the script -/
theorem small_isort {p : List Int} (h : SmallI p) : SmallI (isort (once p)) := fun x m => h x (once_mem ((isort_perm _).mem_iff.mp m))
theorem len_isort (p : List Int) : (isort (once p)).length ≤ p.length := by
  rw [(isort_perm _).length_eq]
  exact once_len p
theorem pos_isort {p : List Int} (h : 1 ≤ p.length) : 1 ≤ (isort (once p)).length := by
  rw [(isort_perm _).length_eq]
  exact once_ne h
theorem neV_bool (b : Bool) : neV' (.bool b) (.bool b) = some (.bool false) := by
  have s : SeqAt.shaped (.bool b) = true := by
    unfold SeqAt.shaped
    simp only [PyData.canLay0, PyData.depth]
    rfl
  show (if SeqAt.shaped (.bool b) = true ∧ SeqAt.shaped (.bool b) = true then some (PyData.eqv (.bool b) (.bool b)) else none).map (fun z => PyData.bool !z) = _
  rw [if_pos ⟨s, s⟩]
  unfold PyData.eqv
  cases b <;> rfl
theorem cut_len (xs : List D) (lo hi : Option Int) : (cutD xs lo hi).length ≤ xs.length := by
  unfold cutD
  rw [List.length_take, List.length_drop]
  omega
def pick12 (ys : List D) : Nv → R D := compE (iR1 (aC (e2 addV (k0 (.int 1)) (e2 modV (eN intV (aC (e2 ixV (gv 1) (k0 (.int 3))) a0)) (k0 (.int 3)))) a0)) (gN 11) (fun _ => .ok true) (e2 modV (eN intV (aC (e2 ixV (gv 1) (gv 11)) a0)) (k0 (.int 12))) [11]
theorem picked_ok {v : D} {y : List Int} (hl : y.length = 4) : ∃ p : List Int, SmallI p ∧ 1 ≤ p.length ∧ p.length ≤ 3 ∧ compE (iR1 (aC (e2 addV (k0 (.int 1)) (e2 modV (eN intV (aC (e2 ixV (gv 1) (k0 (.int 3))) a0)) (k0 (.int 3)))) a0)) (gN 11) (fun _ => .ok true) (e2 modV (eN intV (aC (e2 ixV (gv 1) (gv 11)) a0)) (k0 (.int 12))) [11] [.d v, .d (.list (y.map PyData.int)), .no, .no, .no, .no, .no, .no, .no, .no, .no, .no] = .ok (.list (p.map PyData.int)) := by
  have m3 : ∀ z : Int, modV (.int z) (.int 3) = some (.int (z % 3)) := fun z => modV_int (by decide)
  have m12 : ∀ z : Int, modV (.int z) (.int 12) = some (.int (z % 12)) := fun z => modV_int (by decide)
  have at1 : ∀ i : Nat, i < 4 → atD (y.map PyData.int) (i : Int) = some (.int (y.getD i 0)) := fun i h => atD_nat (by omega) (by
    rw [Int.toNat_natCast, List.getElem?_map, List.getElem?_eq_getElem (by omega), List.getD_eq_getElem?_getD, List.getElem?_eq_getElem (by omega)]
    rfl)
  have at3 : atD (y.map PyData.int) 3 = some (.int (y.getD 3 0)) := at1 3 (by decide)
  generalize hn : (1 + y.getD 3 0 % 3 : Int).toNat = n
  have hn1 : 1 ≤ n ∧ n ≤ 3 := by omega
  refine ⟨(List.range n).map fun i => y.getD i 0 % 12, fun x m => ?_, by rw [List.length_map, List.length_range]; omega, by rw [List.length_map, List.length_range]; omega, ?_⟩
  · obtain ⟨i, _, rfl⟩ := List.mem_map.mp m
    omega
  · have r : rng1 [.int (1 + y.getD 3 0 % 3)] = .ok (rangeD 0 n) := by rw [rng1_ok (by omega) (by omega), hn]
    have f : ((List.range n).map fun i => y.getD i 0 % 12).map PyData.int = (rangeD 0 n).map fun d => match d with | .int i => PyData.int (y.getD i.toNat 0 % 12) | _ => .none := by
      unfold rangeD
      rw [List.map_map, List.map_map]
      apply List.map_congr_left
      intro i _
      show PyData.int _ = PyData.int (y.getD (0 + (i : Int)).toNat 0 % 12)
      rw [show (0 + (i : Int)).toNat = i by omega]
    rw [f]
    refine compE_ok (xs := rangeD 0 n) ?_ (compD_map _ fun x m => ?_) (lineN_big _ (by unfold rangeD; rw [List.length_map, List.length_map, List.length_range]; omega))
    · simp [at3, m3, r, -List.getD_eq_getElem?_getD]
    · unfold rangeD at m
      obtain ⟨i, hi, rfl⟩ := List.mem_map.mp m
      have hi : i < n := List.mem_range.mp hi
      refine ⟨_, rfl, rfl, ?_⟩
      have ti : (0 + (i : Int)).toNat = i := by omega
      have a := at1 i (by omega)
      show _ = R.ok (PyData.int (y.getD (0 + (i : Int)).toNat 0 % 12))
      rw [ti]
      simp only [e2_def, eN_def, aC_def, a0_def, wipeE, gv_succ, gv_zero, k0_def, R.ok_bind, ixV_list, of_some, List.set]
      simp [a, m12, -List.getD_eq_getElem?_getD]
end Bd
namespace Bd
open PySem L2
theorem below_ints {b : Int} : ∀ {ys : List D}, Lw.Below b ys → ∃ y : List Int, ys = y.map PyData.int
  | [], _ => ⟨[], rfl⟩
  | d :: r, h => by
    obtain ⟨i, rfl, _⟩ := h d List.mem_cons_self
    obtain ⟨y, e⟩ := below_ints fun x m => h x (List.mem_cons_of_mem _ m)
    exact ⟨i :: y, by rw [e]; rfl⟩
theorem atD_any {xs : List D} {i : Int} (h0 : 0 ≤ i) (h : i < xs.length) : ∃ d, atD xs i = some d :=
  ⟨xs[i.toNat]'(by omega), atD_nat h0 (List.getElem?_eq_getElem (by omega))⟩
def B_k01 : Nv → Rs :=
  (seqS (setS 8 (callV F_is_simplex (aC (gv 7) a0)))
    (seqS (ifS (orB (notB (tb (e1 (isiV "bool") (gv 8)))) (tb (e2 neV' (gv 8) (callV F__law_is_simplex (aC (gv 7) a0))))) (seqS (retS (k0 (.bool false)))
    .nx) .nx)
    .nx))
theorem k01_turn (s0 s1 s2 s3 s4 s5 s6 s8 s9 s10 s11 : Sl) (d : D) : B_k01 [s0, s1, s2, s3, s4, s5, s6, .d d, s8, s9, s10, s11] = .nx [s0, s1, s2, s3, s4, s5, s6, .d d, .d (.bool (isSx d)), s9, s10, s11] := by
  unfold B_k01
  rw [seq_nx (η1 := [s0, s1, s2, s3, s4, s5, s6, .d d, .d (.bool (isSx d)), s9, s10, s11]) (by simp [simplex_ok])]
  simp [isi_bool, kBool, lsimplex_ok, neV_bool]
theorem law_true (ns : List Int) (hl : ns.length ≤ 63) : F_law [.list (ns.map PyData.int)] = .ok (.bool true) := by
  obtain ⟨ys, hlen, hb, he⟩ := Lw.row_ok (c := Lw.cell ns 0) (b := 5040) (n := 4) (by decide) (by decide)
  obtain ⟨y, rfl⟩ := below_ints hb
  rw [List.length_map] at hlen
  have he : F__law_row [.int (Lw.cell ns 0), .int 4, .int 5040] = .ok (.list (y.map PyData.int)) := he
  have c0 : F__law_cell [.list (ns.map PyData.int), .int 0] = .ok (.int (Lw.cell ns 0)) := Lw.cell_ok ns 0
  have c1 : F__law_cell [.list (ns.map PyData.int), .int 1] = .ok (.int (Lw.cell ns 1)) := Lw.cell_ok ns 1
  have c2 : F__law_cell [.list (ns.map PyData.int), .int 2] = .ok (.int (Lw.cell ns 2)) := Lw.cell_ok ns 2
  generalize hS : (PyData.list (ns.map PyData.int)) = S at c0 c1 c2 ⊢
  obtain ⟨p, q1, q2, q3, pk⟩ := picked_ok (v := S) hlen
  have si := small_isort q1
  have sl : (isort (once p)).length ≤ 3 := Nat.le_trans (len_isort p) q3
  have sp := pos_isort q2
  have oc := pick_comp (sp := 2) (sk := 11) (η := [.d S, .d (.list (y.map PyData.int)), .d (.list (p.map PyData.int)), .no, .no, .no, .no, .no, .no, .no, .no, .no]) (p := p) (by omega) rfl (fun _ => rfl) (fun _ => rfl)
  have so := sort_ints (once p)
  generalize hl : isort (once p) = l at si sl sp so
  have m10 : ∀ z : Int, modV (.int z) (.int 10) = some (.int (z % 10)) := fun z => modV_int (by decide)
  have m9 : ∀ z : Int, modV (.int z) (.int 9) = some (.int (z % 9)) := fun z => modV_int (by decide)
  have tl : (l.map PyData.int).length = l.length := List.length_map ..
  obtain ⟨o, ho⟩ := atD_any (xs := [.int 12, .int (-1), .none, .bool true, .str "1", .tuple [.int 1], .int 5, .int 0, .int 11, .bool false]) (i := Lw.cell ns 1 % 10) (by omega) (by show Lw.cell ns 1 % 10 < ((10 : Nat) : Int); omega)
  obtain ⟨bs, hbl, hbe⟩ : ∃ bs : List D, bs.length = 9 ∧ (lstV (aC (gv 3) (aC (e1 revV (gv 3)) (aC (e2 addV (gv 3) (tupV (aC (gv 4) a0))) (aC (e2 addV (tupV (aC (gv 4) a0)) (gv 3)) (aC (e2 addV (gv 3) (slE slV (gv 3) (p1 (e1 negV (k0 (.int 1)))) p0)) (aC (tupV a0) (aC (tupV (aC (k0 (.int 0)) (aC (k0 (.int 1)) (aC (k0 (.int 2)) (aC (k0 (.int 3)) a0))))) (aC (eN listV (aC (gv 3) a0)) (aC (gv 4) a0)))))))))) [.d S, .d (.list (y.map PyData.int)), .d (.list (p.map PyData.int)), .d (.tuple (l.map PyData.int)), .d o, .no, .no, .no, .no, .no, .no, .no] = .ok (.list bs) := by
    have cl := cut_len (l.map PyData.int) (some (-1)) none
    have a1 := addV_tup (xs := l.map PyData.int) (ys := [o]) (by rw [tl]; show l.length + 1 ≤ _; omega)
    have a2 := addV_tup (xs := [o]) (ys := l.map PyData.int) (by rw [tl]; show 1 + l.length ≤ _; omega)
    have a3 := addV_tup (xs := l.map PyData.int) (ys := cutD (l.map PyData.int) (some (-1)) none) (by rw [tl] at *; omega)
    simp only [lstV_def, aC_def, gv_succ, gv_zero, R.ok_bind, e1_def, revV_tup, of_some, e2_def, tupV_def, a0_def, k0_def, negV_int, slE_def, p1_def, asInt_int, p0_def, slV_tup, eN_def, listV_tup, List.length_cons, List.length_nil, lineN_eq, Nat.reduceAdd, Nat.reduceLeDiff, Nat.zero_le, ↓reduceIte, a1, a2, a3]
    exact ⟨_, rfl, rfl⟩
  obtain ⟨vl, hv⟩ := atD_any (xs := bs) (i := Lw.cell ns 2 % 9) (by omega) (by rw [hbl]; omega)
  obtain ⟨fs, hf, fl, ff⟩ := fine_faces l si sl
  have fo := faces_ok l sp sl
  have lf := lfaces_ok l sp sl
  rw [hf] at fo lf
  have rp : reprV [.list fs] = some (.str (PyData.list fs).shown) := (fine_list ff).repr (by decide) (by omega)
  have dm := dim_ok (l.map PyData.int)
  rw [tl] at dm
  have rd : reprV [.int ((l.length : Int) - 1)] = some (.str (PyData.int ((l.length : Int) - 1)).shown) := (fine_int (i := (l.length : Int) - 1) (by omega) (by omega)).repr (by decide) (by decide)
  refine runD_rt [.d S, .no, .no, .no, .no, .no, .no, .no, .no, .no, .no, .no] rfl ?_
  unfold G_law
  rw [seq_nx (η1 := [.d S, .d (.list (y.map PyData.int)), .no, .no, .no, .no, .no, .no, .no, .no, .no, .no]) (by simp [c0, he]),
    seq_nx (η1 := [.d S, .d (.list (y.map PyData.int)), .d (.list (p.map PyData.int)), .no, .no, .no, .no, .no, .no, .no, .no, .no]) (by rw [setS_def, pk]; rfl),
    seq_nx (η1 := [.d S, .d (.list (y.map PyData.int)), .d (.list (p.map PyData.int)), .d (.tuple (l.map PyData.int)), .no, .no, .no, .no, .no, .no, .no, .no]) (by rw [setS_def, eN_def, aC_def, eN_def, aC_def, oc, R.ok_bind, a0_def, R.ok_bind, R.ok_bind, so, of_some, R.ok_bind, R.ok_bind, R.ok_bind, tupleV_list]; rfl),
    seq_nx (η1 := [.d S, .d (.list (y.map PyData.int)), .d (.list (p.map PyData.int)), .d (.tuple (l.map PyData.int)), .d o, .no, .no, .no, .no, .no, .no, .no]) (by simp [c1, m10, lineN_eq, ho]),
    seq_nx (η1 := [.d S, .d (.list (y.map PyData.int)), .d (.list (p.map PyData.int)), .d (.tuple (l.map PyData.int)), .d o, .d (.list bs), .no, .no, .no, .no, .no, .no]) (by rw [setS_def, hbe]; rfl),
    seq_nx (η1 := [.d S, .d (.list (y.map PyData.int)), .d (.list (p.map PyData.int)), .d (.tuple (l.map PyData.int)), .d o, .d (.list bs), .d vl, .no, .no, .no, .no, .no]) (by simp [c2, m9, hv]),
    seq_nx (η1 := [.d S, .d (.list (y.map PyData.int)), .d (.list (p.map PyData.int)), .d (.tuple (l.map PyData.int)), .d o, .d (.list bs), .d vl, .d vl, .d (.bool (isSx vl)), .no, .no, .no]) (by
      rw [forS_def, iA_def, lstV_def]
      simp only [aC_def, gv_succ, gv_zero, R.ok_bind, a0_def, List.length_cons, List.length_nil, lineN_eq]
      show loopG (gN 7) B_k01 [.tuple (l.map PyData.int), vl] _ = _
      rw [loopG_cons (η1 := [.d S, .d (.list (y.map PyData.int)), .d (.list (p.map PyData.int)), .d (.tuple (l.map PyData.int)), .d o, .d (.list bs), .d vl, .d (.tuple (l.map PyData.int)), .no, .no, .no, .no]) (h := rfl), k01_turn]
      show loopG (gN 7) B_k01 [vl] _ = _
      rw [loopG_cons (η1 := [.d S, .d (.list (y.map PyData.int)), .d (.list (p.map PyData.int)), .d (.tuple (l.map PyData.int)), .d o, .d (.list bs), .d vl, .d vl, .d (.bool (isSx (.tuple (l.map PyData.int)))), .no, .no, .no]) (h := rfl), k01_turn]
      rfl),
    seq_nx (η1 := [.d S, .d (.list (y.map PyData.int)), .d (.list (p.map PyData.int)), .d (.tuple (l.map PyData.int)), .d o, .d (.list bs), .d vl, .d vl, .d (.bool (isSx vl)), .d (.list fs), .no, .no]) (by simp [lf]),
    seq_nx (η1 := [.d S, .d (.list (y.map PyData.int)), .d (.list (p.map PyData.int)), .d (.tuple (l.map PyData.int)), .d o, .d (.list bs), .d vl, .d vl, .d (.bool (isSx vl)), .d (.list fs), .own fs, .no]) (by rw [ownS_list 10 _ _ fs (by simp [fo])]; rfl),
    seq_nx (η1 := [.d S, .d (.list (y.map PyData.int)), .d (.list (p.map PyData.int)), .d (.tuple (l.map PyData.int)), .d o, .d (.list bs), .d vl, .d vl, .d (.bool (isSx vl)), .d (.list fs), .own fs, .no]) (by simp [rp, dm, rd]),
    seq_nx (η1 := [.d S, .d (.list (y.map PyData.int)), .d (.list (p.map PyData.int)), .d (.tuple (l.map PyData.int)), .d o, .d (.list bs), .d vl, .d vl, .d (.bool (isSx vl)), .d (.list fs), .own (fs ++ [.str "spoilt"]), .no]) (appS_own 10 _ _ fs _ rfl (by simp) (by rw [lineN_eq]; omega))]
  simp [fo, rp]
end Bd
namespace Bd
open PySem L2
set_option maxHeartbeats 4000000 in
theorem all_mk {l : PySem.W.OpenLaw} {w : World} {K : PySem.W.Frag} {h : Heap} {mg : Str → Option Value} {fa : Addr} (X : K.In h) (Gm : h.Ns mainGlobals mg) (hfa : mg "law" = some (.ref fa))
    {f1 f2 f3 f4 f5 f6 f7 f8 f9 f10 : Addr} {od1 an1 od2 an2 od3 an3 od4 an4 od5 an5 od6 an6 od7 an7 od8 an8 od9 an9 od10 an10 : Option Addr} {sl1 sl2 sl3 sl4 sl5 sl6 sl7 sl8 sl9 sl10 : Array (Option Value)} {oc1 kV1 dc1 pm1 cd1 ct1 oc2 kV2 dc2 pm2 cd2 ct2 oc3 kV3 dc3 pm3 cd3 ct3 oc4 kV4 dc4 pm4 cd4 ct4 oc5 kV5 dc5 pm5 cd5 ct5 oc6 kV6 dc6 pm6 cd6 ct6 oc7 kV7 dc7 pm7 cd7 ct7 oc8 kV8 dc8 pm8 cd8 ct8 oc9 kV9 dc9 pm9 cd9 ct9 oc10 kV10 dc10 pm10 cd10 ct10 : Value}
    (a1 : PySem.W.nsIn K mainGlobals "is_whole" = some (some (.ref f1))) (l1 : K.lookup f1 = some ⟨oc1, od1, .func (PySem.W.fnOf "is_whole" "is_whole" (defArgs s_is_whole) (defBody s_is_whole) (defScope s_is_whole) .none kV1 dc1 pm1 an1 cd1 ct1), sl1⟩) (c1 : PySem.W.codeIn K cd1 "is_whole" = true) (k1 : PySem.W.keepIn K (.ref f1) = true)
    (a2 : PySem.W.nsIn K mainGlobals "is_vertex" = some (some (.ref f2))) (l2 : K.lookup f2 = some ⟨oc2, od2, .func (PySem.W.fnOf "is_vertex" "is_vertex" (defArgs s_is_vertex) (defBody s_is_vertex) (defScope s_is_vertex) .none kV2 dc2 pm2 an2 cd2 ct2), sl2⟩) (c2 : PySem.W.codeIn K cd2 "is_vertex" = true) (k2 : PySem.W.keepIn K (.ref f2) = true)
    (a3 : PySem.W.nsIn K mainGlobals "is_simplex" = some (some (.ref f3))) (l3 : K.lookup f3 = some ⟨oc3, od3, .func (PySem.W.fnOf "is_simplex" "is_simplex" (defArgs s_is_simplex) (defBody s_is_simplex) (defScope s_is_simplex) .none kV3 dc3 pm3 an3 cd3 ct3), sl3⟩) (c3 : PySem.W.codeIn K cd3 "is_simplex" = true) (k3 : PySem.W.keepIn K (.ref f3) = true)
    (a4 : PySem.W.nsIn K mainGlobals "dimension_of" = some (some (.ref f4))) (l4 : K.lookup f4 = some ⟨oc4, od4, .func (PySem.W.fnOf "dimension_of" "dimension_of" (defArgs s_dimension_of) (defBody s_dimension_of) (defScope s_dimension_of) .none kV4 dc4 pm4 an4 cd4 ct4), sl4⟩) (c4 : PySem.W.codeIn K cd4 "dimension_of" = true) (k4 : PySem.W.keepIn K (.ref f4) = true)
    (a5 : PySem.W.nsIn K mainGlobals "faces_of" = some (some (.ref f5))) (l5 : K.lookup f5 = some ⟨oc5, od5, .func (PySem.W.fnOf "faces_of" "faces_of" (defArgs s_faces_of) (defBody s_faces_of) (defScope s_faces_of) .none kV5 dc5 pm5 an5 cd5 ct5), sl5⟩) (c5 : PySem.W.codeIn K cd5 "faces_of" = true) (k5 : PySem.W.keepIn K (.ref f5) = true)
    (a6 : PySem.W.nsIn K mainGlobals "_law_cell" = some (some (.ref f6))) (l6 : K.lookup f6 = some ⟨oc6, od6, .func (PySem.W.fnOf "_law_cell" "_law_cell" (defArgs s__law_cell) (defBody s__law_cell) (defScope s__law_cell) .none kV6 dc6 pm6 an6 cd6 ct6), sl6⟩) (c6 : PySem.W.codeIn K cd6 "_law_cell" = true) (k6 : PySem.W.keepIn K (.ref f6) = true)
    (a7 : PySem.W.nsIn K mainGlobals "_law_row" = some (some (.ref f7))) (l7 : K.lookup f7 = some ⟨oc7, od7, .func (PySem.W.fnOf "_law_row" "_law_row" (defArgs s__law_row) (defBody s__law_row) (defScope s__law_row) .none kV7 dc7 pm7 an7 cd7 ct7), sl7⟩) (c7 : PySem.W.codeIn K cd7 "_law_row" = true) (k7 : PySem.W.keepIn K (.ref f7) = true)
    (a8 : PySem.W.nsIn K mainGlobals "_law_faces" = some (some (.ref f8))) (l8 : K.lookup f8 = some ⟨oc8, od8, .func (PySem.W.fnOf "_law_faces" "_law_faces" (defArgs s__law_faces) (defBody s__law_faces) (defScope s__law_faces) .none kV8 dc8 pm8 an8 cd8 ct8), sl8⟩) (c8 : PySem.W.codeIn K cd8 "_law_faces" = true) (k8 : PySem.W.keepIn K (.ref f8) = true)
    (a9 : PySem.W.nsIn K mainGlobals "_law_is_simplex" = some (some (.ref f9))) (l9 : K.lookup f9 = some ⟨oc9, od9, .func (PySem.W.fnOf "_law_is_simplex" "_law_is_simplex" (defArgs s__law_is_simplex) (defBody s__law_is_simplex) (defScope s__law_is_simplex) .none kV9 dc9 pm9 an9 cd9 ct9), sl9⟩) (c9 : PySem.W.codeIn K cd9 "_law_is_simplex" = true) (k9 : PySem.W.keepIn K (.ref f9) = true)
    (a10 : PySem.W.nsIn K mainGlobals "law" = some (some (.ref f10))) (l10 : K.lookup f10 = some ⟨oc10, od10, .func (PySem.W.fnOf "law" "law" (defArgs s_law) (defBody s_law) (defScope s_law) .none kV10 dc10 pm10 an10 cd10 ct10), sl10⟩) (c10 : PySem.W.codeIn K cd10 "law" = true) (k10 : PySem.W.keepIn K (.ref f10) = true)
    (z_all : PySem.W.nsIn K mainGlobals "all" = some none)
    (z_bool : PySem.W.nsIn K mainGlobals "bool" = some none)
    (z_int : PySem.W.nsIn K mainGlobals "int" = some none)
    (z_isinstance : PySem.W.nsIn K mainGlobals "isinstance" = some none)
    (z_len : PySem.W.nsIn K mainGlobals "len" = some none)
    (z_list : PySem.W.nsIn K mainGlobals "list" = some none)
    (z_range : PySem.W.nsIn K mainGlobals "range" = some none)
    (z_repr : PySem.W.nsIn K mainGlobals "repr" = some none)
    (z_reversed : PySem.W.nsIn K mainGlobals "reversed" = some none)
    (z_sorted : PySem.W.nsIn K mainGlobals "sorted" = some none)
    (z_tuple : PySem.W.nsIn K mainGlobals "tuple" = some none)
    (z_zip : PySem.W.nsIn K mainGlobals "zip" = some none)
    {t_VERTEX_MOST : Tok} (z_VERTEX_MOST : PySem.W.nsIn K mainGlobals "VERTEX_MOST" = some (some (.int (11) t_VERTEX_MOST)))
    {t_DIMENSION_MOST : Tok} (z_DIMENSION_MOST : PySem.W.nsIn K mainGlobals "DIMENSION_MOST" = some (some (.int (2) t_DIMENSION_MOST)))
    : ∃ fd : FuncData, (∀ (s : Shared) (v : Value), BindsTo s fd ⟨[v], []⟩ [("script", v)]) ∧ ∀ base : Heap, K.In base → base.Ns mainGlobals mg → FnG l.prog w K mg base 4 fa fd ["script"] (spD K mg (rD K) 1 F_law) := by
  have e := hfa.symm.trans (PySem.W.mg_of X Gm a10)
  cases e
  have z : Zs mg := ⟨PySem.W.mg_none_of X Gm z_all, PySem.W.mg_none_of X Gm z_bool, PySem.W.mg_none_of X Gm z_int, PySem.W.mg_none_of X Gm z_isinstance, PySem.W.mg_none_of X Gm z_len, PySem.W.mg_none_of X Gm z_list, PySem.W.mg_none_of X Gm z_range, PySem.W.mg_none_of X Gm z_repr, PySem.W.mg_none_of X Gm z_reversed, PySem.W.mg_none_of X Gm z_sorted, PySem.W.mg_none_of X Gm z_tuple, PySem.W.mg_none_of X Gm z_zip, ⟨t_VERTEX_MOST, PySem.W.mg_of X Gm z_VERTEX_MOST⟩, ⟨t_DIMENSION_MOST, PySem.W.mg_of X Gm z_DIMENSION_MOST⟩⟩
  refine ⟨PySem.W.fnOf "law" "law" (defArgs s_law) (defBody s_law) (defScope s_law) .none kV10 dc10 pm10 an10 cd10 ct10, fun s v => .of_eq rfl, fun base _ _ => ?_⟩
  have d_is_whole := ok_is_whole (P := l.prog) (w := w) (base := base) (fun_mk (st := s_is_whole) l1 c1 k1) z  (PySem.W.mg_of X Gm a1)
  have d_is_vertex := ok_is_vertex (P := l.prog) (w := w) (base := base) (fun_mk (st := s_is_vertex) l2 c2 k2) z d_is_whole (PySem.W.mg_of X Gm a2)
  have d_is_simplex := ok_is_simplex (P := l.prog) (w := w) (base := base) (fun_mk (st := s_is_simplex) l3 c3 k3) z d_is_vertex (PySem.W.mg_of X Gm a3)
  have d_dimension_of := ok_dimension_of (P := l.prog) (w := w) (base := base) (fun_mk (st := s_dimension_of) l4 c4 k4) z  (PySem.W.mg_of X Gm a4)
  have d_faces_of := ok_faces_of (P := l.prog) (w := w) (base := base) (fun_mk (st := s_faces_of) l5 c5 k5) z d_dimension_of (PySem.W.mg_of X Gm a5)
  have d__law_cell := ok__law_cell (P := l.prog) (w := w) (base := base) (fun_mk (st := s__law_cell) l6 c6 k6) z  (PySem.W.mg_of X Gm a6)
  have d__law_row := ok__law_row (P := l.prog) (w := w) (base := base) (fun_mk (st := s__law_row) l7 c7 k7) z  (PySem.W.mg_of X Gm a7)
  have d__law_faces := ok__law_faces (P := l.prog) (w := w) (base := base) (fun_mk (st := s__law_faces) l8 c8 k8) z  (PySem.W.mg_of X Gm a8)
  have d__law_is_simplex := ok__law_is_simplex (P := l.prog) (w := w) (base := base) (fun_mk (st := s__law_is_simplex) l9 c9 k9) z  (PySem.W.mg_of X Gm a9)
  exact ok_law (P := l.prog) (w := w) (base := base) (fun_mk (st := s_law) l10 c10 k10) z d__law_cell d__law_faces d__law_is_simplex d__law_row d_dimension_of d_faces_of d_is_simplex
end Bd
open PySem PySem.W
set_option maxRecDepth 100000 in
set_option maxHeartbeats 0 in
theorem PySem.Challenge.cw_barstay_k01_simplices_and_faces_holds : PySem.Challenge.rw_barstay_k01_simplices_and_faces.Holds := by
  w_on; o_law; k_head; (case hw => w_witness2)
  k_fill
  refine Bd.walk_end (l := PySem.Challenge.rw_barstay_k01_simplices_and_faces) (n := 63) (k := 4) (x := "script") (Fn := Bd.F_law) rfl (by decide) rfl ⟨rfl, by decide, by decide⟩ (fun w h Y => PySem.W.kIn_of Y) ?F (fun ns hl => Bd.law_true ns hl)
  case F =>
    intro w mg fa h KX G hmg
    refine' Bd.all_mk KX G hmg ?a1 ?l1 ?c1 ?k1 ?a2 ?l2 ?c2 ?k2 ?a3 ?l3 ?c3 ?k3 ?a4 ?l4 ?c4 ?k4 ?a5 ?l5 ?c5 ?k5 ?a6 ?l6 ?c6 ?k6 ?a7 ?l7 ?c7 ?k7 ?a8 ?l8 ?c8 ?k8 ?a9 ?l9 ?c9 ?k9 ?a10 ?l10 ?c10 ?k10 ?z_all ?z_bool ?z_int ?z_isinstance ?z_len ?z_list ?z_range ?z_repr ?z_reversed ?z_sorted ?z_tuple ?z_zip ?z_VERTEX_MOST ?z_DIMENSION_MOST
    (case a1 => k_is)
    (case l1 => k_is)
    (case c1 => k_is)
    (case k1 => k_is)
    (case a2 => k_is)
    (case l2 => k_is)
    (case c2 => k_is)
    (case k2 => k_is)
    (case a3 => k_is)
    (case l3 => k_is)
    (case c3 => k_is)
    (case k3 => k_is)
    (case a4 => k_is)
    (case l4 => k_is)
    (case c4 => k_is)
    (case k4 => k_is)
    (case a5 => k_is)
    (case l5 => k_is)
    (case c5 => k_is)
    (case k5 => k_is)
    (case a6 => k_is)
    (case l6 => k_is)
    (case c6 => k_is)
    (case k6 => k_is)
    (case a7 => k_is)
    (case l7 => k_is)
    (case c7 => k_is)
    (case k7 => k_is)
    (case a8 => k_is)
    (case l8 => k_is)
    (case c8 => k_is)
    (case k8 => k_is)
    (case a9 => k_is)
    (case l9 => k_is)
    (case c9 => k_is)
    (case k9 => k_is)
    (case a10 => k_is)
    (case l10 => k_is)
    (case c10 => k_is)
    (case k10 => k_is)
    (case z_all => k_is)
    (case z_bool => k_is)
    (case z_int => k_is)
    (case z_isinstance => k_is)
    (case z_len => k_is)
    (case z_list => k_is)
    (case z_range => k_is)
    (case z_repr => k_is)
    (case z_reversed => k_is)
    (case z_sorted => k_is)
    (case z_tuple => k_is)
    (case z_zip => k_is)
    (case z_VERTEX_MOST => k_is)
    (case z_DIMENSION_MOST => k_is)
