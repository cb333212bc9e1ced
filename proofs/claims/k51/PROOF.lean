import PyProof.Rows.All
import Wide.All
import OpenK.AllK
import Wide.FinOn
import HandS.ForMost
import HandS.Deep
import HandS.TupAny
import HandS.IsInst
import HandS.Flow
import HandS.Zip
import HandS.Rev
import HandS.RevRange
import HandS.SortInts
import HandS.Style
import HandS.Exc
import PyProof.ReprRoads
import HandS.ExcOwn
import HandS.More
import HandS.SetFor
import KE.SortData
import KE.DataCmp
import HandS.Conv
import PyProof.ReprLen
import HandS.SetBool
import HandS.Strs
import HandS.SortOrd
import PySem.Challenge.RW_barstay_k51_costs_of_bars
set_option Elab.async false
set_option maxRecDepth 100000
set_option linter.all false
/-! D0: a layer of plain data over the hand layer: what an expression, a statement, a def does is a Lean function of data (PyData), the heap is dealt with once. -/
namespace Bd
open PySem L2

abbrev D := PyData
/-- an answer: a value; an exception (its class, its word, its place); or nothing is told -/
inductive R (α : Type) where
  | ok (a : α)
  | ex (c w : Str) (p : D)
  | no
def R.bind {α β : Type} : R α → (α → R β) → R β
  | .ok a, f => f a
  | .ex c w p, _ => .ex c w p
  | .no, _ => .no
instance : Monad R where
  pure := R.ok
  bind := R.bind
@[simp] theorem R.ok_bind {α β : Type} (a : α) (f : α → R β) : (R.ok a).bind f = f a := Eq.trans rfl rfl
@[simp] theorem R.no_bind {α β : Type} (f : α → R β) : (R.no : R α).bind f = R.no := Eq.trans rfl rfl
@[simp] theorem R.ex_bind {α β : Type} (c w : Str) (p : D) (f : α → R β) : (R.ex c w p : R α).bind f = R.ex c w p := Eq.trans rfl rfl

/-! ### data in the heap -/
/-- the heap without the cells at A -/
def hid (A : List Addr) (H : Hp) : Hp := fun b => if b ∈ A then none else H b
theorem hid_out {A : List Addr} {H : Hp} {b : Addr} (h : b ∉ A) : hid A H b = H b := if_neg h
theorem hid_in {A : List Addr} {H : Hp} {b : Addr} (h : b ∈ A) : hid A H b = none := if_pos h
theorem hid_some {A : List Addr} {H : Hp} {b : Addr} {o : HO} (h : hid A H b = some o) : b ∉ A ∧ H b = some o := by
  by_cases q : b ∈ A
  · rw [hid_in q] at h
    cases h
  · rw [hid_out q] at h
    exact ⟨q, h⟩
theorem hid_le (A : List Addr) (H : Hp) : Same (hid A H) H := fun _ _ e => (hid_some e).2
theorem hid_mono {A B : List Addr} {H : Hp} (h : ∀ b ∈ B, b ∈ A) : Same (hid A H) (hid B H) := fun b o e => by
  obtain ⟨n, e⟩ := hid_some e
  rw [hid_out fun q => n (h b q)]
  exact e
theorem hid_same {A : List Addr} {H H' : Hp} (s : Same H H') : Same (hid A H) (hid A H') := fun b o e => by
  obtain ⟨n, e⟩ := hid_some e
  rw [hid_out n]
  exact s b o e
/-- a cell that was free is hidden too -/
theorem hid_new {A : List Addr} {H H' : Hp} {p : Addr} (s : Same H H') (hp : H p = none) : Same (hid A H) (hid (p :: A) H') := fun b o e => by
  obtain ⟨n, e⟩ := hid_some e
  rw [hid_out fun q => (List.mem_cons.mp q).elim (fun z => by subst z; rw [hp] at e; cases e) n]
  exact s b o e
theorem hid_upd {A : List Addr} {H : Hp} {a : Addr} {o : HO} (h : a ∈ A) : hid A (upd H a o) = hid A H := by
  funext b
  by_cases q : b ∈ A
  · rw [hid_in q, hid_in q]
  · rw [hid_out q, hid_out q, upd_ne fun z => q (by rw [z]; exact h)]
theorem same_new {H : Hp} {p : Addr} {o : HO} (h : H p = none) : Same H (upd H p o) := fun b x e => by
  rw [upd_ne (ne_of_none e h)]
  exact e

section
variable {K : PySem.W.Frag} {H H' : Hp}
theorem sqT_same {a : Addr} {xs : List V} (s : Same H H') (h : SqT K H a xs) : SqT K H' a xs := by
  rcases h with (h | ⟨o, h⟩) | h
  · exact .inl (.inl (s _ _ h))
  · exact .inl (.inr ⟨o, s _ _ h⟩)
  · exact .inr h
mutual
theorem dp_same (s : Same H H') : ∀ (d : D) (v : V), Dp K H v d → Dp K H' v d
  | .none, _, h => by cases h; exact .non
  | .bool b, _, h => by cases h; exact .bl b
  | .int i, _, h => by cases h; exact .int i
  | .str x, _, h => by cases h; exact .str x
  | .list ds, _, h => by
    cases h with
    | lst h1 h2 => exact .lst (s.seq h1) (dpAll_same s ds _ h2)
  | .tuple ds, _, h => by
    cases h with
    | tup h1 h2 => exact .tup (sqT_same s h1) (dpAll_same s ds _ h2)
  | .dict _, _, h => by cases h
theorem dpAll_same (s : Same H H') : ∀ (ds : List D) (vs : List V), DpAll K H vs ds → DpAll K H' vs ds
  | [], _, h => by cases h; exact .nil
  | d :: ds, _, h => by
    cases h with
    | cons h1 h2 => exact .cons (dp_same s d _ h1) (dpAll_same s ds _ h2)
end
theorem Dp_mono {v : V} {d : D} (h : Dp K H v d) (s : Same H H') : Dp K H' v d := dp_same s d v h
theorem DpAll_mono {vs : List V} {ds : List D} (h : DpAll K H vs ds) (s : Same H H') : DpAll K H' vs ds := dpAll_same s ds vs h
theorem DpAll_length : ∀ {vs : List V} {ds : List D}, DpAll K H vs ds → vs.length = ds.length
  | _, _, .nil => rfl
  | _, _, .cons _ t => by rw [List.length_cons, List.length_cons, DpAll_length t]
theorem DpAll_get : ∀ {vs : List V} {ds : List D} {i : Nat} {d : D}, DpAll K H vs ds → ds[i]? = some d → ∃ v, vs[i]? = some v ∧ Dp K H v d
  | _, _, _, _, .nil, e => by simp at e
  | _, _, 0, _, .cons h _, e => by simp at e; subst e; exact ⟨_, rfl, h⟩
  | _, _, i + 1, d, .cons _ t, e => by
    obtain ⟨v, h1, h2⟩ := DpAll_get (i := i) (d := d) t (by simpa using e)
    exact ⟨v, by simpa using h1, h2⟩
theorem DpAll_getV : ∀ {vs : List V} {ds : List D} {i : Nat} {v : V}, DpAll K H vs ds → vs[i]? = some v → ∃ d, ds[i]? = some d ∧ Dp K H v d
  | _, _, _, _, .nil, e => by simp at e
  | _, _, 0, _, .cons h _, e => by simp at e; subst e; exact ⟨_, rfl, h⟩
  | _, _, i + 1, d, .cons _ t, e => by
    obtain ⟨v, h1, h2⟩ := DpAll_getV (i := i) (v := d) t (by simpa using e)
    exact ⟨v, by simpa using h1, h2⟩
theorem DpAll_append : ∀ {vs ws : List V} {ds es : List D}, DpAll K H vs ds → DpAll K H ws es → DpAll K H (vs ++ ws) (ds ++ es)
  | _, _, _, _, .nil, s => s
  | _, _, _, _, .cons h t, s => .cons h (DpAll_append t s)
theorem DpAll_take : ∀ {vs : List V} {ds : List D} (n : Nat), DpAll K H vs ds → DpAll K H (vs.take n) (ds.take n)
  | _, _, 0, _ => .nil
  | _, _, _ + 1, .nil => .nil
  | _, _, n + 1, .cons h t => .cons h (DpAll_take n t)
theorem DpAll_drop : ∀ {vs : List V} {ds : List D} (n : Nat), DpAll K H vs ds → DpAll K H (vs.drop n) (ds.drop n)
  | _, _, 0, h => h
  | _, _, _ + 1, .nil => .nil
  | _, _, n + 1, .cons _ t => DpAll_drop n t
theorem DpAll_rev : ∀ {vs : List V} {ds : List D}, DpAll K H vs ds → DpAll K H vs.reverse ds.reverse
  | _, _, .nil => .nil
  | _, _, .cons h t => by
    rw [List.reverse_cons, List.reverse_cons]
    exact DpAll_append (DpAll_rev t) (.cons h .nil)
theorem DpAll_ints : ∀ (ns : List Int), DpAll K H (ns.map V.int) (ns.map PyData.int)
  | [] => .nil
  | n :: ns => .cons (.int n) (DpAll_ints ns)
end

/-! ### the def's names -/
/-- a name: nothing is told; data; a list of its own that stands nowhere else -/
structure OL where
  b : Bool
  l : List D
/-- a dict whose keys are tuples of ints: key, where its tuple lies, what stands there -/
abbrev Zr := List Int × Addr × V
def entZ (x : List Int × Addr × Value) : DictEntry := ⟨reduceHash (Builtin.Tuple.tupleHashOf (x.1.map hashInt)), .ref x.2.1, x.2.2⟩
def DcP (a : Addr) (zs : List Zr) (h : Heap) : Prop :=
  ∃ xs : List (List Int × Addr × Value), Paired (fun (z : Zr) (x : List Int × Addr × Value) => z.1 = x.1 ∧ z.2.1 = x.2.1 ∧ RelV z.2.2 x.2.2) zs xs ∧
    ∃ o es ep, h.get? a = some o ∧ o.ExactDict ∧ o.data = .dict es ep ∧ es.toList = xs.map entZ ∧ (xs.map (·.1)).Nodup
def dco (a : Addr) (zs : List Zr) : HO := .ext (DcP a zs)
def ZD (K : PySem.W.Frag) (T : Hp) (z : Zr) (k : D × D) : Prop := k.1 = PyData.tuple (z.1.map PyData.int) ∧ SqT K T z.2.1 (z.1.map V.int) ∧ Dp K T z.2.2 k.2
/-- the dict ks stands at a, read only -/
def DcR (K : PySem.W.Frag) (T : Hp) (a : Addr) (ks : List (D × D)) : Prop := (a == sysModules) = false ∧ ks.length ≤ sizeLine ∧ ∃ zs, T a = some (dco a zs) ∧ Paired (ZD K T) zs ks
theorem DcR.same {K : PySem.W.Frag} {T T' : Hp} {a : Addr} {ks : List (D × D)} (h : DcR K T a ks) (s : Same T T') : DcR K T' a ks := by
  obtain ⟨h1, h2, zs, h3, h4⟩ := h
  exact ⟨h1, h2, zs, s _ _ h3, Paired.mapP h4 fun z k ⟨e1, e2, e3⟩ => ⟨e1, sqT_same s e2, Dp_mono e3 s⟩⟩
inductive Sl where
  | no
  | d (x : D)
  | own (xs : OL)
  | m (x : List (D × D))
abbrev Nv := List Sl
def SlotR (K : PySem.W.Frag) (H : Hp) (A : List Addr) : Option V → Sl → Prop
  | _, .no => True
  | some v, .d x => Dp K (hid A H) v x
  | some (.ref a), .own xs => a ∈ A ∧ ∃ vs, H a = some (.lst vs) ∧ DpAll K (hid A H) vs xs.l
  | some (.ref a), .m x => DcR K (hid A H) a x
  | _, _ => False
theorem SlotR.m' {K : PySem.W.Frag} {H H' : Hp} {A A' : List Addr} {o : Option V} {x : List (D × D)} (h : SlotR K H A o (.m x)) (s : Same (hid A H) (hid A' H')) : SlotR K H' A' o (.m x) := by
  match o, h with
  | some (.ref a), h => exact DcR.same (show DcR K (hid A H) a x from h) s
structure EnvD (K : PySem.W.Frag) (H : Hp) (A : List Addr) (σ : St) (η : Nv) : Prop where
  len : σ.length = η.length
  at_ : ∀ (i : Nat) (s : Sl), η[i]? = some s → ∃ o, σ[i]? = some o ∧ SlotR K H A o s
  ap : ∀ (i j : Nat) (a : Addr) (xs ys : OL), η[i]? = some (.own xs) → η[j]? = some (.own ys) → σ[i]? = some (some (.ref a)) → σ[j]? = some (some (.ref a)) → i = j
  tr : ∀ a ∈ A, H a ≠ none
section
variable {K : PySem.W.Frag} {H H' : Hp} {A A' : List Addr} {σ : St} {η : Nv}
theorem SlotR.keep {o : Option V} {s : Sl} (h : SlotR K H A o s) (k : Same (hid A H) (hid A' H')) (hA : ∀ a ∈ A, a ∈ A') (hl : ∀ a vs, a ∈ A → H a = some (.lst vs) → H' a = some (.lst vs)) : SlotR K H' A' o s := by
  cases s with
  | no => cases o <;> trivial
  | d x =>
    cases o with
    | none => exact h
    | some v => exact Dp_mono (show Dp K (hid A H) v x from h) k
  | own xs =>
    match o, h with
    | some (.ref a), ⟨m, vs, e, q⟩ => exact ⟨hA a m, vs, hl a vs m e, DpAll_mono q k⟩
  | m x => exact h.m' k
theorem EnvD.same (h : EnvD K H A σ η) (s : Same H H') : EnvD K H' A σ η where
  len := h.len
  at_ := fun i x e => by
    obtain ⟨o, e1, q⟩ := h.at_ i x e
    exact ⟨o, e1, q.keep (hid_same s) (fun _ m => m) fun a vs _ z => s _ _ z⟩
  ap := h.ap
  tr := fun a m z => by
    cases q : H a with
    | none => exact h.tr a m q
    | some o =>
      rw [s a o q] at z
      cases z
/-- a cell that was free is hidden -/
theorem EnvD.new {p : Addr} (h : EnvD K H A σ η) (s : Same H H') (hp : H p = none) (hp' : H' p ≠ none) : EnvD K H' (p :: A) σ η where
  len := h.len
  at_ := fun i x e => by
    obtain ⟨o, e1, q⟩ := h.at_ i x e
    exact ⟨o, e1, q.keep (hid_new s hp) (fun _ m => List.mem_cons_of_mem _ m) fun a vs _ z => s _ _ z⟩
  ap := h.ap
  tr := fun a m => by
    rcases List.mem_cons.mp m with rfl | m
    · exact hp'
    · exact (h.same s).tr a m
theorem EnvD.fresh {p : Addr} (h : EnvD K H A σ η) (hp : H p = none) : p ∉ A := fun m => h.tr p m hp
end

/-! ### readings of expressions -/
/-- how a value lies: the heap ahead, behind, what is hidden, the value, its data -/
abbrev Rl := Hp → Hp → List Addr → V → D → Prop
/-- data -/
def rD (K : PySem.W.Frag) : Rl := fun _ H' A v d => Dp K (hid A H') v d
/-- data, or a list of the def's own -/
def rO (K : PySem.W.Frag) : Rl := fun _ H' A v d => Dp K (hid A H') v d ∨ ∃ a vs ds, v = .ref a ∧ d = .list ds ∧ H' a = some (.lst vs) ∧ DpAll K (hid A H') vs ds
/-- a new list -/
def rF (K : PySem.W.Frag) : Rl := fun H H' A v d => ∃ p vs ds, v = .ref p ∧ d = .list ds ∧ H p = none ∧ H' p = some (.lst vs) ∧ DpAll K (hid (p :: A) H') vs ds
/-- an exception of the program: its class, word, place -/
def ExR (K : PySem.W.Frag) (mg : Str → Option Value) (H : Hp) (cls : Value) (dd : Option Addr) (c w : Str) (p : D) : Prop :=
  mg c = some cls ∧ ∃ dx v, dd = some dx ∧ H dx = some (.xd [("place", v), ("word", .str w)]) ∧ Dp K H v p
/-- what an answer asks -/
def Post (K : PySem.W.Frag) (mg : Str → Option Value) (W : WX) (rl : Rl) (σ : St) (A : List Addr) (H : Hp) (r : R D) (Q : VK) : Prop :=
  match r with
  | .ok d => ∀ v H', Same H H' → rl H H' A v d → Q v H'
  | .ex c w p => ∀ cls dd H', Same H H' → ExR K mg (hid A H') cls dd c w p → W cls dd σ H'
  | .no => False
def tR (K : PySem.W.Frag) (mg : Str → Option Value) (W : WX) (rl : Rl) (F : Nv → R D) : TE := fun σ H Q => ∃ η A, EnvD K H A σ η ∧ Post K mg W rl σ A H (F η) Q
theorem peW {X : Cx} {e : Expr} {t t' : TE} (h : PE X e t) (k : ∀ σ H Q, t' σ H Q → t σ H Q) : PE X e t' := ⟨fun pins s σ H Q I q => h.run pins s σ H Q I (k _ _ _ q)⟩
/-- the heap ahead may be an earlier one -/
def Back (rl : Rl) : Prop := ∀ H H1 H' A v d, Same H H1 → rl H1 H' A v d → rl H H' A v d
theorem back_D {K : PySem.W.Frag} : Back (rD K) := fun _ _ _ _ _ _ _ h => h
theorem back_O {K : PySem.W.Frag} : Back (rO K) := fun _ _ _ _ _ _ _ h => h
theorem back_F {K : PySem.W.Frag} : Back (rF K) := fun _ _ _ _ _ _ s ⟨p, vs, ds, a, b, c, r⟩ => ⟨p, vs, ds, a, b, s.free c, r⟩
section
variable {K : PySem.W.Frag} {mg : Str → Option Value} {W : WX} {rl : Rl} {σ : St} {A : List Addr} {H H1 : Hp} {Q : VK}
theorem Post.same {r : R D} (b : Back rl) (s : Same H H1) (h : Post K mg W rl σ A H r Q) : Post K mg W rl σ A H1 r Q := by
  cases r with
  | ok d => exact fun v H' s' q => h v H' (s.trans s') (b _ _ _ _ _ _ s q)
  | ex c w p => exact fun cls dd H' s' q => h cls dd H' (s.trans s') q
  | no => exact h
/-- THE STEP: a part's answer, then the rest's -/
theorem bindR {rl' : Rl} {F : Nv → R D} {g : Nv → D → R D} (b : Back rl) (h : tR K mg W rl (fun η => (F η).bind (g η)) σ H Q) :
    tR K mg W rl' F σ H fun v H1 => ∃ η A d, Same H H1 ∧ EnvD K H1 A σ η ∧ rl' H H1 A v d ∧ F η = .ok d ∧ Post K mg W rl σ A H1 (g η d) Q := by
  obtain ⟨η, A, E, p0⟩ := h
  refine ⟨η, A, E, ?_⟩
  have p : Post K mg W rl σ A H ((F η).bind (g η)) Q := p0
  cases e : F η with
  | ok d =>
    rw [e] at p
    exact fun v H' s q => ⟨η, A, d, s, E.same s, q, e, Post.same b s p⟩
  | ex c w p' =>
    rw [e] at p
    exact p
  | no =>
    rw [e] at p
    exact p
end

/-- an expression: data; an operand; a new list -/
def TD (X : Cx) (W : WX) (e : Expr) (F : Nv → R D) : Prop := PE X e (tR X.K X.mg W (rD X.K) F)
def TO (X : Cx) (W : WX) (e : Expr) (F : Nv → R D) : Prop := PE X e (tR X.K X.mg W (rO X.K) F)
def TF (X : Cx) (W : WX) (e : Expr) (F : Nv → R D) : Prop := PE X e (tR X.K X.mg W (rF X.K) F)
section
variable {X : Cx} {W : WX} {e : Expr} {F : Nv → R D}
theorem tR_imp {K : PySem.W.Frag} {mg : Str → Option Value} {rl rl' : Rl} {σ : St} {H : Hp} {Q : VK} (k : ∀ (η : Nv) (A : List Addr) (H' : Hp) (v : V) (d : D), EnvD K H A σ η → Same H H' → rl H H' A v d → rl' H H' A v d) (h : tR K mg W rl' F σ H Q) : tR K mg W rl F σ H Q := by
  obtain ⟨η, A, E, p⟩ := h
  refine ⟨η, A, E, ?_⟩
  cases e : F η with
  | ok d =>
    rw [e] at p
    exact fun v H' s q => p v H' s (k η A H' v d E s q)
  | ex c w p' =>
    rw [e] at p
    exact p
  | no =>
    rw [e] at p
    exact p
theorem rF_D {K : PySem.W.Frag} {H H' : Hp} {A : List Addr} {v : V} {d : D} (hA : ∀ p, H p = none → p ∉ A) (h : rF K H H' A v d) : rD K H H' A v d := by
  obtain ⟨p, vs, ds, rfl, rfl, hp, hp', q⟩ := h
  exact .lst (SqL.of (by rw [hid_out (hA p hp)]; exact hp')) (DpAll_mono q (hid_mono fun b m => List.mem_cons_of_mem _ m))
theorem TD.o (h : TD X W e F) : TO X W e F := peW h fun _ _ _ => tR_imp fun _ _ _ _ _ _ _ q => .inl q
theorem TF.d (h : TF X W e F) : TD X W e F := peW h fun _ _ _ => tR_imp fun _ _ _ _ _ E _ q => rF_D (fun _ hp => E.fresh hp) q
theorem TF.o (h : TF X W e F) : TO X W e F := h.d.o
end
end Bd
/-! D1: operators, comparisons, truth, calls of built-ins, over data. -/
namespace Bd
open PySem L2

section
variable {K : PySem.W.Frag} {H H' : Hp} {A : List Addr} {v : V} {d : D}
theorem rO_same (s : Same H H') {Ha Hb : Hp} (h : rO K Ha H A v d) : rO K Hb H' A v d := by
  rcases h with h | ⟨a, vs, ds, rfl, rfl, e, q⟩
  · exact .inl (Dp_mono h (hid_same s))
  · exact .inr ⟨a, vs, ds, rfl, rfl, s _ _ e, DpAll_mono q (hid_same s)⟩
theorem rO_dp {Ha : Hp} (h : rO K Ha H A v d) : Dp K H v d := by
  rcases h with h | ⟨a, vs, ds, rfl, rfl, e, q⟩
  · exact Dp_mono h (hid_le A H)
  · exact .lst (SqL.of e) (DpAll_mono q (hid_le A H))
theorem rO_list {Ha : Hp} {ds : List D} (h : rO K Ha H A v (.list ds)) : ∃ a vs, v = .ref a ∧ SqL K H a vs ∧ DpAll K (hid A H) vs ds := by
  rcases h with h | ⟨a, vs, ds', rfl, e1, e, q⟩
  · cases h with
    | lst h1 h2 => exact ⟨_, _, rfl, (hid_le A H).seq h1, h2⟩
  · cases e1
    exact ⟨a, vs, rfl, SqL.of e, q⟩
theorem rO_tup {Ha : Hp} {ds : List D} (h : rO K Ha H A v (.tuple ds)) : ∃ a vs, v = .ref a ∧ SqT K H a vs ∧ SqT K (hid A H) a vs ∧ DpAll K (hid A H) vs ds := by
  rcases h with h | ⟨a, vs, ds', rfl, e1, e, q⟩
  · cases h with
    | tup h1 h2 => exact ⟨_, _, rfl, sqT_same (hid_le A H) h1, h1, h2⟩
  · cases e1
theorem rO_int {Ha : Hp} {i : Int} (h : rO K Ha H A v (.int i)) : v = .int i := by
  rcases h with h | ⟨a, vs, ds', rfl, e1, e, q⟩
  · cases h; rfl
  · cases e1
theorem rO_bool {Ha : Hp} {i : Bool} (h : rO K Ha H A v (.bool i)) : v = .bl i := by
  rcases h with h | ⟨a, vs, ds', rfl, e1, e, q⟩
  · cases h; rfl
  · cases e1
theorem rO_str {Ha : Hp} {i : Str} (h : rO K Ha H A v (.str i)) : v = .str i := by
  rcases h with h | ⟨a, vs, ds', rfl, e1, e, q⟩
  · cases h; rfl
  · cases e1
theorem rO_none {Ha : Hp} (h : rO K Ha H A v .none) : v = .non := by
  rcases h with h | ⟨a, vs, ds', rfl, e1, e, q⟩
  · cases h; rfl
  · cases e1
end

/-- the answer of a built-in operation -/
def R.of : Option D → R D
  | some d => .ok d
  | none => .no
/-- a two-place operation on operands gives the data f tells, lying as rl says -/
def Op2 (X : Cx) (rl : Rl) (r : R2) (f : D → D → Option D) : Prop :=
  ∀ (H : Hp) (A : List Addr) (x y : V) (a b d : D) (Q : VK), (∀ p ∈ A, H p ≠ none) → rO X.K H H A x a → rO X.K H H A y b → f a b = some d → (∀ v H', Same H H' → rl H H' A v d → Q v H') → r x y H Q
def Op1 (X : Cx) (rl : Rl) (r : V → Hp → VK → Prop) (f : D → Option D) : Prop :=
  ∀ (H : Hp) (A : List Addr) (x : V) (a d : D) (Q : VK), (∀ p ∈ A, H p ≠ none) → rO X.K H H A x a → f a = some d → (∀ v H', Same H H' → rl H H' A v d → Q v H') → r x H Q
section
variable {X : Cx} {W : WX} {rl : Rl} {a b : Expr} {Fa Fb : Nv → R D} {f : D → D → Option D} {g : D → Option D} {r : R2}
def e2 (f : D → D → Option D) (Fa Fb : Nv → R D) : Nv → R D := fun η => (Fa η).bind fun x => (Fb η).bind fun y => .of (f x y)
def e1 (g : D → Option D) (Fa : Nv → R D) : Nv → R D := fun η => (Fa η).bind fun x => .of (g x)
theorem op2_t (hb : Back rl) (ho : Op2 X rl r f) {σ : L2.St} {H : Hp} {Q : VK} (h : tR X.K X.mg W rl (e2 f Fa Fb) σ H Q) : tOp r (tR X.K X.mg W (rO X.K) Fa) (tR X.K X.mg W (rO X.K) Fb) σ H Q := by
  have h1 := bindR (rl' := rO X.K) (F := Fa) (g := fun η x => (Fb η).bind fun y => .of (f x y)) hb h
  refine (show tR X.K X.mg W (rO X.K) Fa σ H _ from ?_)
  obtain ⟨η, A, E, p⟩ := h1
  refine ⟨η, A, E, ?_⟩
  cases e : Fa η with
  | ex c w q => rw [e] at p; exact p
  | no => rw [e] at p; exact p
  | ok d1 =>
    rw [e] at p
    intro v1 H1 s1 q1
    obtain ⟨η1, A1, dd, sm, E1, qd, _, P1⟩ := p v1 H1 s1 q1
    have h2 : tR X.K X.mg W rl (fun η => (Fb η).bind fun y => .of (f dd y)) σ H1 Q := ⟨η1, A1, E1, P1⟩
    have h3 := bindR (rl' := rO X.K) (F := Fb) (g := fun η y => .of (f dd y)) hb h2
    -- the second operand at the same names
    refine ⟨η1, A1, E1, ?_⟩
    cases e2 : Fb η1 with
    | ex c w q =>
      have P1' : Post X.K X.mg W rl σ A1 H1 ((Fb η1).bind fun y => .of (f dd y)) Q := P1
      rw [e2] at P1'
      exact P1'
    | no =>
      have P1' : Post X.K X.mg W rl σ A1 H1 ((Fb η1).bind fun y => .of (f dd y)) Q := P1
      rw [e2] at P1'
      exact P1'
    | ok d2 =>
      have P1' : Post X.K X.mg W rl σ A1 H1 ((Fb η1).bind fun y => .of (f dd y)) Q := P1
      rw [e2] at P1'
      have P2 : Post X.K X.mg W rl σ A1 H1 (.of (f dd d2)) Q := P1'
      intro v2 H2 s2 q2
      cases e3 : f dd d2 with
      | none => rw [e3] at P2; exact False.elim P2
      | some d =>
        rw [e3] at P2
        exact ho H2 A1 v1 v2 dd d2 d Q (E1.same s2).tr (rO_same s2 qd) (rO_same (Same.refl _) q2) e3 fun v H' s q => P2 v H' (s2.trans s) (hb _ _ _ _ _ _ s2 q)
theorem op1_t (hb : Back rl) {r : V → Hp → VK → Prop} (ho : Op1 X rl r g) {σ : L2.St} {H : Hp} {Q : VK} (h : tR X.K X.mg W rl (e1 g Fa) σ H Q) : tUn r (tR X.K X.mg W (rO X.K) Fa) σ H Q := by
  obtain ⟨η, A, E, p0⟩ := h
  have p : Post X.K X.mg W rl σ A H ((Fa η).bind fun x => .of (g x)) Q := p0
  refine ⟨η, A, E, ?_⟩
  cases e : Fa η with
  | ex c w q => rw [e] at p; exact p
  | no => rw [e] at p; exact p
  | ok d1 =>
    rw [e] at p
    have P2 : Post X.K X.mg W rl σ A H (.of (g d1)) Q := p
    intro v1 H1 s1 q1
    cases e3 : g d1 with
    | none => rw [e3] at P2; exact False.elim P2
    | some d =>
      rw [e3] at P2
      exact ho H1 A v1 d1 d Q (E.same s1).tr (rO_same (Same.refl _) q1) e3 fun v H' s q => P2 v H' (s1.trans s) (hb _ _ _ _ _ _ s1 q)
/-- a op b -/
theorem t_op {op : Operator} {pos : Pos} (hb : Back rl) (hop : OpR X (binaryOp op) r) (ho : Op2 X rl r f) (ha : TO X W a Fa) (hc : TO X W b Fb) : PE X (.BinOp a op b pos) (tR X.K X.mg W rl (e2 f Fa Fb)) :=
  peW (pe_op hop ha hc) fun _ _ _ => op2_t hb ho
theorem t_cmp {op : CmpOp} {pos : Pos} (hop : OpR X (compareOp op) r) (ho : Op2 X (rD X.K) r f) (ha : TO X W a Fa) (hc : TO X W b Fb) (h1 : behindInMarks op b = false) : TD X W (.Compare a [op] [b] pos) (e2 f Fa Fb) :=
  peW (pe_cmpR hop ha hc h1) fun _ _ _ => op2_t back_D ho

/-! ### ints and sequences: +, -, *, //, % -/
@[irreducible] def lineN : Nat := 16777216
theorem lineN_eq : lineN = 16777216 := by unfold lineN; rfl
theorem line_eq : sizeLine = lineN := by rw [lineN_eq]; exact sizeLine_eq
def addV : D → D → Option D
  | .int i, .int j => some (.int (i + j))
  | .list xs, .list ys => if xs.length + ys.length ≤ lineN then some (.list (xs ++ ys)) else none
  | .tuple xs, .tuple ys => if xs.length + ys.length ≤ lineN then some (.tuple (xs ++ ys)) else none
  | .str x, .str y => if x.length + y.length ≤ lineN then some (.str (x ++ y)) else none
  | _, _ => none
def rCatS (K : PySem.W.Frag) : R2 := fun x y H Q => ∃ l b xs zs, x = .ref l ∧ y = .ref b ∧ SqL K H l xs ∧ SqL K H b zs ∧ xs.length + zs.length ≤ sizeLine ∧ ∀ p, H p = none → Q (.ref p) (upd H p (.lst (xs ++ zs)))
theorem op_catS : OpR X (binaryOp .Add) (rCatS X.K) := by
  intro pins s σ H x y v u Q I rx ry h
  obtain ⟨l, b, xs, zs, rfl, rfl, h1, h2, hz, q⟩ := h
  cases rx
  cases ry
  obtain ⟨its, r, hl, e⟩ := I.list h1
  obtain ⟨its2, r2, hl2, e2⟩ := I.list h2
  obtain ⟨⟨cls, dd, data, sl⟩, ho, hc, n, hd⟩ := hl.isList
  obtain ⟨⟨cls2, dd2, data2, sl2⟩, ho2, hc2, n2, hd2⟩ := hl2.isList
  simp only at hc hd hc2 hd2
  subst hc hd hc2 hd2
  have ea : its.toArray ++ its2.toArray = (its ++ its2).toArray := by simp
  have hz2 : its.toArray.size + its2.toArray.size ≤ sizeLine := by
    rw [List.size_toArray, List.size_toArray, ← r.length, ← r2.length]
    exact hz
  refine concat_meets ⟨_, ho, rfl⟩ ⟨_, ho2, rfl⟩ noFill_list_add seq_list_add PySem.F.slot_list_add PySem.F.entry_list_add (PySem.F.args_list_add_2 _ _) (PyProof.Rows.list_addW l b its.toArray its2.toArray n n2 dd dd2 sl sl2 hz2) ⟨ho, ho2, ?_⟩
  rw [ea]
  exact ⟨.ref _, _, I.lnew (t' := s.toks) (r.append r2) (by rw [List.length_append]; omega), rfl, q _ I.fresh⟩
def rAddA (K : PySem.W.Frag) : R2 := fun x y H Q => rI0 (fun i j => .int (i + j)) x y H Q ∨ rCatS K x y H Q ∨ rCatA K x y H Q ∨ ∃ i j, x = .str i ∧ y = .str j ∧ i.length + j.length ≤ sizeLine ∧ Q (.str (i ++ j)) H
theorem op_addA : OpR X (binaryOp .Add) (rAddA X.K) := by
  intro pins s σ H x y v u Q I rx ry h
  rcases h with h | h | h | h
  · exact op_add pins s σ H x y v u Q I rx ry h
  · exact op_catS pins s σ H x y v u Q I rx ry h
  · exact op_catA pins s σ H x y v u Q I rx ry h
  · exact op_add_str pins s σ H x y v u Q I rx ry h
theorem dp_new_list {K : PySem.W.Frag} {H : Hp} {A : List Addr} {p : Addr} {vs : List V} {ds : List D} (hA : ∀ a ∈ A, H a ≠ none) (hp : H p = none) (h : DpAll K (hid A H) vs ds) : rF K H (upd H p (.lst vs)) A (.ref p) (.list ds) :=
  ⟨p, vs, ds, rfl, rfl, hp, upd_same, DpAll_mono h (hid_new (same_new hp) hp)⟩
theorem dp_new_tup {K : PySem.W.Frag} {H : Hp} {A : List Addr} {p : Addr} {vs : List V} {ds : List D} (hA : ∀ a ∈ A, H a ≠ none) (hp : H p = none) (h : DpAll K (hid A H) vs ds) : Dp K (hid A (upd H p (.tup vs))) (.ref p) (.tuple ds) :=
  .tup (SqT.of (by rw [hid_out fun m => hA p m hp, upd_same])) (DpAll_mono h (hid_same (same_new hp)))
theorem nofree {H : Hp} {A : List Addr} (hA : ∀ a ∈ A, H a ≠ none) : ∀ p, H p = none → p ∉ A := fun p hp m => hA p m hp
theorem o_add : Op2 X (rD X.K) (rAddA X.K) addV := by
  intro H A x y a b d Q hA ha hb e k
  unfold addV at e
  split at e
  · have e := Option.some.inj e
    subst e
    exact .inl ⟨_, _, rO_int ha, rO_int hb, k _ H (Same.refl _) (.int _)⟩
  · rename_i xs ys
    split at e
    · rename_i hz
      have e := Option.some.inj e
      subst e
      obtain ⟨l, vs, rfl, h1, q1⟩ := rO_list ha
      obtain ⟨l2, vs2, rfl, h2, q2⟩ := rO_list hb
      refine .inr (.inl ⟨l, l2, vs, vs2, rfl, rfl, h1, h2, ?_, fun p hp => k _ _ (same_new hp) (rF_D (nofree hA) (dp_new_list hA hp (DpAll_append q1 q2)))⟩)
      rw [DpAll_length q1, DpAll_length q2, line_eq]
      exact hz
    · cases e
  · rename_i xs ys
    split at e
    · rename_i hz
      have e := Option.some.inj e
      subst e
      obtain ⟨l, vs, rfl, h1, h1', q1⟩ := rO_tup ha
      obtain ⟨l2, vs2, rfl, h2, h2', q2⟩ := rO_tup hb
      refine .inr (.inr (.inl ⟨l, l2, vs, vs2, rfl, rfl, h1, h2, ?_, fun z => ?_, fun _ z => ?_, fun _ _ p hp => k _ _ (same_new hp) (dp_new_tup hA hp (DpAll_append q1 q2))⟩))
      · rw [DpAll_length q1, DpAll_length q2, line_eq]
        exact hz
      · subst z
        cases q1
        exact k _ H (Same.refl _) (.tup h2' q2)
      · subst z
        cases q2
        rw [List.append_nil] at k
        exact k _ H (Same.refl _) (.tup h1' q1)
    · cases e
  · split at e
    · rename_i hz
      have e := Option.some.inj e
      subst e
      exact .inr (.inr (.inr ⟨_, _, rO_str ha, rO_str hb, by rw [line_eq]; exact hz, k _ H (Same.refl _) (.str _)⟩))
    · cases e
  · cases e
/-- list + list: a new list -/
def catV : D → D → Option D
  | .list xs, .list ys => if xs.length + ys.length ≤ lineN then some (.list (xs ++ ys)) else none
  | _, _ => none
theorem o_cat : Op2 X (rF X.K) (rCatS X.K) catV := by
  intro H A x y a b d Q hA ha hb e k
  unfold catV at e
  split at e
  · rename_i xs ys
    split at e
    · rename_i hz
      have e := Option.some.inj e
      subst e
      obtain ⟨l, vs, rfl, h1, q1⟩ := rO_list ha
      obtain ⟨l2, vs2, rfl, h2, q2⟩ := rO_list hb
      refine ⟨l, l2, vs, vs2, rfl, rfl, h1, h2, ?_, fun p hp => k _ _ (same_new hp) (dp_new_list hA hp (DpAll_append q1 q2))⟩
      rw [DpAll_length q1, DpAll_length q2, line_eq]
      exact hz
    · cases e
  · cases e
def subV : D → D → Option D
  | .int i, .int j => some (.int (i - j))
  | _, _ => none
def mulV : D → D → Option D
  | .int i, .int j => if (-(2 ^ 64) < i ∧ i < 2 ^ 64) ∨ (-(2 ^ 64) < j ∧ j < 2 ^ 64) then some (.int (i * j)) else none
  | _, _ => none
def fdivV : D → D → Option D
  | .int i, .int j => if 0 < j ∧ j < 1073741824 then some (.int (i / j)) else none
  | _, _ => none
def modV : D → D → Option D
  | .int i, .int j => if 0 < j then some (.int (i % j)) else none
  | _, _ => none
def powV : D → D → Option D
  | .int i, .int j => if 0 ≤ j ∧ j ≤ 1000000 ∧ i.natAbs < 2 ^ 64 then some (.int (i ^ j.toNat)) else none
  | _, _ => none
theorem o_sub : Op2 X (rD X.K) (rI0 fun i j => .int (i - j)) subV := by
  intro H A x y a b d Q hA ha hb e k
  unfold subV at e
  split at e
  · have e := Option.some.inj e
    subst e
    exact ⟨_, _, rO_int ha, rO_int hb, k _ H (Same.refl _) (.int _)⟩
  · cases e
theorem o_ifI {C : Int → Int → Prop} [∀ i j, Decidable (C i j)] {g : Int → Int → Int} {f : D → D → Option D} (hf : ∀ a b d, f a b = some d → ∃ i j, a = .int i ∧ b = .int j ∧ C i j ∧ d = .int (g i j)) : Op2 X (rD X.K) (rI C fun i j => .int (g i j)) f := by
  intro H A x y a b d Q hA ha hb e k
  obtain ⟨i, j, rfl, rfl, hc, rfl⟩ := hf a b d e
  exact ⟨i, j, rO_int ha, rO_int hb, hc, k _ H (Same.refl _) (.int _)⟩
instance : ∀ i j, Decidable (CMul i j) := fun i j => by unfold CMul; infer_instance
instance : ∀ i j, Decidable (CDiv i j) := fun i j => by unfold CDiv; infer_instance
instance : ∀ i j, Decidable (CPow i j) := fun i j => by unfold CPow; infer_instance
theorem o_mul : Op2 X (rD X.K) (rI CMul fun i j => .int (i * j)) mulV := o_ifI fun a b d e => by
  unfold mulV at e
  split at e
  · split at e
    · rename_i h
      exact ⟨_, _, rfl, rfl, h, (Option.some.inj e).symm⟩
    · cases e
  · cases e
theorem o_fdiv : Op2 X (rD X.K) (rI CDiv fun i j => .int (i / j)) fdivV := o_ifI fun a b d e => by
  unfold fdivV at e
  split at e
  · split at e
    · rename_i h
      exact ⟨_, _, rfl, rfl, h, (Option.some.inj e).symm⟩
    · cases e
  · cases e
theorem o_mod : Op2 X (rD X.K) (rI (fun _ j => 0 < j) fun i j => .int (i % j)) modV := o_ifI (C := fun _ j => 0 < j) fun a b d e => by
  unfold modV at e
  split at e
  · split at e
    · rename_i h
      exact ⟨_, _, rfl, rfl, h, (Option.some.inj e).symm⟩
    · cases e
  · cases e
theorem o_pow : Op2 X (rD X.K) (rI CPow fun i j => .int (i ^ j.toNat)) powV := o_ifI fun a b d e => by
  unfold powV at e
  split at e
  · split at e
    · rename_i h
      exact ⟨_, _, rfl, rfl, h, (Option.some.inj e).symm⟩
    · cases e
  · cases e
end
end Bd
/-! D2: names, constants, comparisons, truth, built-ins by data. -/
namespace Bd
open PySem L2

section
variable {X : Cx} {W : WX} {rl : Rl} {a b c e : Expr} {Fa Fb Fc F : Nv → R D} {pos : Pos}
/-! ### names and constants -/
def gv (i : Nat) : Nv → R D := fun η => match η[i]? with
  | some (.d x) => .ok x
  | _ => .no
/-- a name's data -/
theorem t_var (i : Nat) {x : Str} (hN : X.N[i]? = some x := by rfl) (hv : Vis X.env.scope x := by first | exact Or.inl rfl | exact Or.inr (Or.inl rfl) | exact Or.inr (Or.inr rfl)) (hd : (x == ("__debug__" : Str)) = false := by decide)
    (hcd : (x == ("__classdict__" : Str)) = false := by decide) : TD X W (.Name x pos) (gv i) := by
  refine peW (pe_var hN hv hd hcd) fun σ H Q h => ?_
  obtain ⟨η, A, E, p0⟩ := h
  have p : Post X.K X.mg W (rD X.K) σ A H (gv i η) Q := p0
  unfold gv at p
  split at p
  · rename_i x e
    obtain ⟨o, e1, q⟩ := E.at_ i _ e
    cases o with
    | none => exact False.elim q
    | some v => exact ⟨v, e1, p v H (Same.refl _) q⟩
  · exact False.elim p
/-- a list of the def's own, read -/
def go (i : Nat) : Nv → R D := fun η => match η[i]? with
  | some (.own xs) => .ok (.list xs.l)
  | some (.d x) => .ok x
  | _ => .no
theorem t_own (i : Nat) {x : Str} (hN : X.N[i]? = some x := by rfl) (hv : Vis X.env.scope x := by first | exact Or.inl rfl | exact Or.inr (Or.inl rfl) | exact Or.inr (Or.inr rfl)) (hd : (x == ("__debug__" : Str)) = false := by decide)
    (hcd : (x == ("__classdict__" : Str)) = false := by decide) : TO X W (.Name x pos) (go i) := by
  refine peW (pe_var hN hv hd hcd) fun σ H Q h => ?_
  obtain ⟨η, A, E, p0⟩ := h
  have p : Post X.K X.mg W (rO X.K) σ A H (go i η) Q := p0
  unfold go at p
  split at p
  · rename_i x e
    obtain ⟨o, e1, q⟩ := E.at_ i _ e
    match o, q with
    | some (.ref a), ⟨m, vs, e2, q⟩ => exact ⟨_, e1, p _ H (Same.refl _) (.inr ⟨a, vs, _, rfl, rfl, e2, q⟩)⟩
  · rename_i x e
    obtain ⟨o, e1, q⟩ := E.at_ i _ e
    cases o with
    | none => exact False.elim q
    | some v => exact ⟨v, e1, p v H (Same.refl _) (.inl q)⟩
  · exact False.elim p
def k0 (d : D) : Nv → R D := fun _ => .ok d
theorem t_const {v : V} {d : D} (h : PE X e (tC v)) (hd : ∀ H, Dp X.K H v d) : TD X W e (k0 d) := peW h fun σ H Q ⟨η, A, E, p⟩ => p v H (Same.refl _) (hd _)
theorem t_int {i : Int} {j : Nat} : TD X W (.Constant (.int i) j pos) (k0 (.int i)) := t_const pe_int fun _ => .int i
theorem t_bool {i : Bool} {j : Nat} : TD X W (.Constant (.bool i) j pos) (k0 (.bool i)) := t_const pe_bl fun _ => .bl i
theorem t_none {j : Nat} : TD X W (.Constant .none j pos) (k0 .none) := t_const pe_non fun _ => .non
theorem t_str {i : Str} {j : Nat} : TD X W (.Constant (.str i) j pos) (k0 (.str i)) := t_const pe_str fun _ => .str i
theorem t_globI {x : Str} {i : Int} (hm : ∃ t, X.mg x = some (.int i t)) (hg : Gl X x := by rfl) (hd : (x == ("__debug__" : Str)) = false := by decide) : TD X W (.Name x pos) (k0 (.int i)) := by
  obtain ⟨t, hm⟩ := hm
  exact t_const (pe_glob (v := .int i) hg hm ⟨t, rfl⟩ hd) fun _ => .int i
/-- -a -/
def negV : D → Option D
  | .int i => some (.int (-i))
  | _ => none
theorem t_neg (ha : TO X W a Fa) : TD X W (.UnaryOp .USub a pos) (e1 negV Fa) := peW (pe_un un_neg ha) fun _ _ _ => op1_t back_D fun H A x a d Q hA hx e k => by
  unfold negV at e
  split at e
  · have e := Option.some.inj e
    subst e
    exact ⟨_, rO_int hx, k _ H (Same.refl _) (.int _)⟩
  · cases e

/-! ### comparisons -/
/-- a truth value -/
def rB : Rl := fun _ _ _ v d => ∃ k, d = .bool k ∧ v = .bl k
theorem rB_D {K : PySem.W.Frag} {H H' : Hp} {A : List Addr} {v : V} {d : D} (h : rB H H' A v d) : rD K H H' A v d := by
  obtain ⟨k, rfl, rfl⟩ := h
  exact .bl k
theorem t_cmpB {op : CmpOp} {r : R2} {f : D → D → Option D} (hop : OpR X (compareOp op) r) (ho : Op2 X rB r f) (ha : TO X W a Fa) (hc : TO X W b Fb) (h1 : behindInMarks op b = false) : TD X W (.Compare a [op] [b] pos) (e2 f Fa Fb) :=
  peW (pe_cmpR hop ha hc h1) fun _ _ _ => op2_t back_D fun H A x y a b d Q hA h1 h2 e k => ho H A x y a b d Q hA h1 h2 e fun v H' s q => k v H' s (rB_D q)
/-- of two ints -/
def cmpI (p : Int → Int → Bool) : D → D → Option D
  | .int i, .int j => some (.bool (p i j))
  | _, _ => none
theorem o_cmpI {p : Int → Int → Bool} : Op2 X rB (rI0 fun i j => .bl (p i j)) (cmpI p) := by
  intro H A x y a b d Q hA ha hb e k
  unfold cmpI at e
  split at e
  · have e := Option.some.inj e
    subst e
    exact ⟨_, _, rO_int ha, rO_int hb, k _ H (Same.refl _) ⟨_, rfl, rfl⟩⟩
  · cases e
def ltV := cmpI fun i j => decide (i < j)
def leV := cmpI fun i j => decide (i ≤ j)
def gtV := cmpI fun i j => decide (j < i)
def geV := cmpI fun i j => decide (j ≤ i)
theorem t_lt (ha : TO X W a Fa) (hb : TO X W b Fb) : TD X W (.Compare a [.Lt] [b] pos) (e2 ltV Fa Fb) := t_cmpB op_lt o_cmpI ha hb (nomark _)
theorem t_le (ha : TO X W a Fa) (hb : TO X W b Fb) : TD X W (.Compare a [.LtE] [b] pos) (e2 leV Fa Fb) := t_cmpB op_le o_cmpI ha hb (nomark _)
theorem t_gt (ha : TO X W a Fa) (hb : TO X W b Fb) : TD X W (.Compare a [.Gt] [b] pos) (e2 gtV Fa Fb) := t_cmpB op_gt o_cmpI ha hb (nomark _)
theorem t_ge (ha : TO X W a Fa) (hb : TO X W b Fb) : TD X W (.Compare a [.GtE] [b] pos) (e2 geV Fa Fb) := t_cmpB op_ge o_cmpI ha hb (nomark _)
/-- == of data -/
def eqV' : D → D → Option D
  | .str a, .str b => some (.bool (decide (a = b)))
  | x, y => if SeqAt.shaped x = true ∧ SeqAt.shaped y = true then some (.bool (PyData.eqv x y)) else none
def neV' : D → D → Option D
  | .str a, .str b => some (.bool (!decide (a = b)))
  | x, y => if SeqAt.shaped x = true ∧ SeqAt.shaped y = true then some (.bool (!PyData.eqv x y)) else none
def rEqA (K : PySem.W.Frag) : R2 := fun x y H Q => rEq x y H Q ∨ rEqD K x y H Q
def rNeA (K : PySem.W.Frag) : R2 := fun x y H Q => rNe x y H Q ∨ rNeD K x y H Q
theorem op_eqA (hu : X.A.units + 64 < cLine) : OpR X (compareOp .Eq) (rEqA X.K) := fun pins s σ H x y v u Q I rx ry h => h.elim (op_eq pins s σ H x y v u Q I rx ry) (op_eqD hu pins s σ H x y v u Q I rx ry)
theorem op_neA (hu : X.A.units + 64 < cLine) : OpR X (compareOp .NotEq) (rNeA X.K) := fun pins s σ H x y v u Q I rx ry h => h.elim (op_ne pins s σ H x y v u Q I rx ry) (op_neD hu pins s σ H x y v u Q I rx ry)
theorem dec_V {a b : Str} : decide (V.str a = V.str b) = decide (a = b) := by
  by_cases e : a = b
  · rw [decide_eq_true e, e]
    exact decide_eq_true rfl
  · rw [decide_eq_false e]
    exact decide_eq_false fun z => e (V.str.inj z)
theorem o_eq : Op2 X rB (rEqA X.K) eqV' := fun H A x y a b d Q hA ha hb e k => by
  unfold eqV' at e
  split at e
  · have e := Option.some.inj e
    subst e
    refine .inl ?_
    rw [rO_str ha, rO_str hb]
    exact ⟨rfl, by rw [dec_V]; exact k _ H (Same.refl _) ⟨_, rfl, rfl⟩⟩
  · split at e
    · rename_i h
      have e := Option.some.inj e
      subst e
      exact .inr ⟨_, _, rO_dp ha, rO_dp hb, h.1, h.2, k _ H (Same.refl _) ⟨_, rfl, rfl⟩⟩
    · cases e
theorem o_ne : Op2 X rB (rNeA X.K) neV' := fun H A x y a b d Q hA ha hb e k => by
  unfold neV' at e
  split at e
  · have e := Option.some.inj e
    subst e
    refine .inl ?_
    rw [rO_str ha, rO_str hb]
    exact ⟨rfl, by rw [dec_V]; exact k _ H (Same.refl _) ⟨_, rfl, rfl⟩⟩
  · split at e
    · rename_i h
      have e := Option.some.inj e
      subst e
      exact .inr ⟨_, _, rO_dp ha, rO_dp hb, h.1, h.2, k _ H (Same.refl _) ⟨_, rfl, rfl⟩⟩
    · cases e
theorem t_eq (hu : X.A.units + 64 < cLine) (ha : TO X W a Fa) (hb : TO X W b Fb) : TD X W (.Compare a [.Eq] [b] pos) (e2 eqV' Fa Fb) := t_cmpB (op_eqA hu) o_eq ha hb (nomark _)
theorem t_ne (hu : X.A.units + 64 < cLine) (ha : TO X W a Fa) (hb : TO X W b Fb) : TD X W (.Compare a [.NotEq] [b] pos) (e2 neV' Fa Fb) := t_cmpB (op_neA hu) o_ne ha hb (nomark _)
/-- is None -/
def isNone : D → Bool
  | .none => true
  | _ => false
theorem isNone_of {K : PySem.W.Frag} {H : Hp} {v : V} {d : D} (h : Dp K H v d) : decide (v = .non) = isNone d := by
  cases h <;> first | rfl | (exact decide_eq_false fun z => by cases z)
def isV (x y : D) : Option D := match y with
  | .none => some (.bool (isNone x))
  | _ => none
def isnotV (x y : D) : Option D := match y with
  | .none => some (.bool (!isNone x))
  | _ => none
theorem o_is : Op2 X rB (fun x y H Q => y = .non ∧ Q (.bl (decide (x = .non))) H) isV := fun H A x y a b d Q hA ha hb e k => by
  unfold isV at e
  split at e
  · have e := Option.some.inj e
    subst e
    exact ⟨rO_none hb, by rw [isNone_of (rO_dp ha)]; exact k _ H (Same.refl _) ⟨_, rfl, rfl⟩⟩
  · cases e
theorem t_is (ha : TO X W a Fa) (hb : TO X W b Fb) : TD X W (.Compare a [.Is] [b] pos) (e2 isV Fa Fb) := t_cmpB op_isN o_is ha hb (nomark _)
theorem o_isnot : Op2 X rB (fun x y H Q => y = .non ∧ Q (.bl (!decide (x = .non))) H) isnotV := fun H A x y a b d Q hA ha hb e k => by
  unfold isnotV at e
  split at e
  · have e := Option.some.inj e
    subst e
    exact ⟨rO_none hb, by rw [isNone_of (rO_dp ha)]; exact k _ H (Same.refl _) ⟨_, rfl, rfl⟩⟩
  · cases e
theorem t_isnot (ha : TO X W a Fa) (hb : TO X W b Fb) : TD X W (.Compare a [.IsNot] [b] pos) (e2 isnotV Fa Fb) := t_cmpB op_notN o_isnot ha hb (nomark _)
/-! in, not in -/
def flatD : D → Bool
  | .none => true
  | .bool _ => true
  | .int _ => true
  | .str _ => true
  | _ => false
theorem flat_of {K : PySem.W.Frag} {H : Hp} {v : V} {d : D} (h : Dp K H v d) : flatV v = flatD d := by
  cases h <;> rfl
theorem eqV_of {K : PySem.W.Frag} {H : Hp} {v w : V} {d e : D} (h : Dp K H v d) (h' : Dp K H w e) (f : flatD d = true) (f' : flatD e = true) : eqV v w = PyData.eqv d e := by
  cases h with
  | lst _ _ => exact absurd f Bool.false_ne_true
  | tup _ _ => exact absurd f Bool.false_ne_true
  | _ => cases h' with
    | lst _ _ => exact absurd f' Bool.false_ne_true
    | tup _ _ => exact absurd f' Bool.false_ne_true
    | _ => first | rfl | (unfold PyData.eqv; rfl) | (simp [eqV, PyData.eqv])
theorem flats_of {K : PySem.W.Frag} {H : Hp} : ∀ {vs : List V} {ds : List D}, DpAll K H vs ds → vs.all flatV = ds.all flatD
  | _, _, .nil => rfl
  | _, _, .cons h t => by rw [List.all_cons, List.all_cons, flat_of h, flats_of t]
theorem inV_of {K : PySem.W.Frag} {H : Hp} {w : V} {e : D} (h' : Dp K H w e) (f' : flatD e = true) : ∀ {vs : List V} {ds : List D}, DpAll K H vs ds → ds.all flatD = true → inV w vs = ds.any fun z => PyData.eqv z e
  | _, _, .nil, _ => rfl
  | _, _, .cons (ds := ds) h t, f => by
    rw [List.all_cons, Bool.and_eq_true] at f
    have q := inV_of h' f' t f.2
    unfold inV at q ⊢
    rw [List.any_cons, List.any_cons, eqV_of h h' f.1 f', q]
def inD (x c : D) : Option Bool := match c with
  | .list ds => if SeqAt.shaped x = true ∧ SeqAt.shaped (.list ds) = true then some (ds.any fun z => PyData.eqv z x) else none
  | .tuple ds => if flatD x = true ∧ ds.all flatD = true then some (ds.any fun z => PyData.eqv z x) else none
  | _ => none
def inV' (x c : D) : Option D := (inD x c).map .bool
def ninV' (x c : D) : Option D := (inD x c).map fun b => .bool (!b)
def rInA (K : PySem.W.Frag) : R2 := fun x y H Q => rInD K x y H Q ∨ rIn K false x y H Q
def rNotInA (K : PySem.W.Frag) : R2 := fun x y H Q => rNotInD K x y H Q ∨ rIn K true x y H Q
theorem op_inA (hu : X.A.units + 65 < cLine) : OpR X (compareOp .In) (rInA X.K) := by
  intro pins s σ H x y v u Q I rx ry h
  rcases h with h | h
  · exact op_inD hu pins s σ H x y v u Q I rx ry h
  · exact op_in_seq pins s σ H x y v u Q I rx ry h
theorem op_notInA (hu : X.A.units + 65 < cLine) : OpR X (compareOp .NotIn) (rNotInA X.K) := by
  intro pins s σ H x y v u Q I rx ry h
  rcases h with h | h
  · exact op_notInD hu pins s σ H x y v u Q I rx ry h
  · exact op_notIn_seq pins s σ H x y v u Q I rx ry h
theorem o_in : Op2 X rB (rInA X.K) inV' := fun H A x y a b d Q hA ha hb e k => by
  unfold inV' inD at e
  split at e
  · rename_i ds
    split at e
    · rename_i h
      have e := Option.some.inj e
      subst e
      exact .inl ⟨_, _, rO_dp ha, rO_dp hb, h.1, h.2, k _ H (Same.refl _) ⟨_, rfl, rfl⟩⟩
    · cases e
  · rename_i ds
    split at e
    · rename_i h
      have e := Option.some.inj e
      subst e
      obtain ⟨l, vs, rfl, h1, h2, q⟩ := rO_tup hb
      have q := DpAll_mono q (hid_le A H)
      refine .inr ⟨l, vs, rfl, .inr h1, by rw [flat_of (rO_dp ha)]; exact h.1, by rw [flats_of q]; exact h.2, ?_⟩
      rw [inV_of (rO_dp ha) h.1 q h.2]
      exact k _ H (Same.refl _) ⟨_, rfl, rfl⟩
    · cases e
  · cases e
theorem t_in (hu : X.A.units + 65 < cLine) (ha : TO X W a Fa) (hb : TO X W b Fb) (h1 : behindInMarks .In b = false := by with_unfolding_all rfl) : TD X W (.Compare a [.In] [b] pos) (e2 inV' Fa Fb) := t_cmpB (op_inA hu) o_in ha hb h1
theorem o_notin : Op2 X rB (rNotInA X.K) ninV' := fun H A x y a b d Q hA ha hb e k => by
  unfold ninV' inD at e
  split at e
  · rename_i ds
    split at e
    · rename_i h
      have e := Option.some.inj e
      subst e
      exact .inl ⟨_, _, rO_dp ha, rO_dp hb, h.1, h.2, k _ H (Same.refl _) ⟨_, rfl, rfl⟩⟩
    · cases e
  · rename_i ds
    split at e
    · rename_i h
      have e := Option.some.inj e
      subst e
      obtain ⟨l, vs, rfl, h1, h2, q⟩ := rO_tup hb
      have q := DpAll_mono q (hid_le A H)
      refine .inr ⟨l, vs, rfl, .inr h1, by rw [flat_of (rO_dp ha)]; exact h.1, by rw [flats_of q]; exact h.2, ?_⟩
      rw [inV_of (rO_dp ha) h.1 q h.2]
      exact k _ H (Same.refl _) ⟨_, rfl, rfl⟩
    · cases e
  · cases e
theorem t_notin (hu : X.A.units + 65 < cLine) (ha : TO X W a Fa) (hb : TO X W b Fb) (h1 : behindInMarks .NotIn b = false := by with_unfolding_all rfl) : TD X W (.Compare a [.NotIn] [b] pos) (e2 ninV' Fa Fb) := t_cmpB (op_notInA hu) o_notin ha hb h1

/-! ### truth and tests -/
def tru : D → R Bool
  | .none => .ok false
  | .bool b => .ok b
  | .int i => .ok (i != 0)
  | .str y => if y.length ≤ lineN then .ok ((y.length : Int) != 0) else .no
  | .list xs => .ok !xs.isEmpty
  | .tuple xs => .ok !xs.isEmpty
  | .dict _ => .no
/-- what a test's answer asks -/
def PostB (K : PySem.W.Frag) (mg : Str → Option Value) (W : WX) (σ : L2.St) (A : List Addr) (H : Hp) (r : R Bool) (Q : Bool → Hp → Prop) : Prop :=
  match r with
  | .ok b => ∀ H', Same H H' → Q b H'
  | .ex c w p => ∀ cls dd H', Same H H' → ExR K mg (hid A H') cls dd c w p → W cls dd σ H'
  | .no => False
def tT (K : PySem.W.Frag) (mg : Str → Option Value) (W : WX) (G : Nv → R Bool) : TT := fun σ H Q => ∃ η A, EnvD K H A σ η ∧ PostB K mg W σ A H (G η) Q
def TB (X : Cx) (W : WX) (e : Expr) (G : Nv → R Bool) : Prop := PT X e (tT X.K X.mg W G)
theorem ptW {t t' : TT} (h : PT X e t) (k : ∀ σ H Q, t' σ H Q → t σ H Q) : PT X e t' := ⟨fun pins s σ H Q I q => h.run pins s σ H Q I (k _ _ _ q)⟩
theorem PostB.same {K : PySem.W.Frag} {mg : Str → Option Value} {σ : L2.St} {A : List Addr} {H H1 : Hp} {r : R Bool} {Q : Bool → Hp → Prop} (s : Same H H1) (h : PostB K mg W σ A H r Q) : PostB K mg W σ A H1 r Q := by
  cases r with
  | ok d => exact fun H' s' => h H' (s.trans s')
  | ex c w p => exact fun cls dd H' s' q => h cls dd H' (s.trans s') q
  | no => exact h
def tb (F : Nv → R D) : Nv → R Bool := fun η => (F η).bind tru
theorem tru_of {K : PySem.W.Frag} {H : Hp} {v : V} {d : D} {k : Bool} (h : Dp K H v d) (e : tru d = .ok k) : TruV K v H k := by
  cases h with
  | non => unfold tru at e; cases e; rfl
  | bl b => unfold tru at e; cases e; rfl
  | int i => unfold tru at e; cases e; rfl
  | str y =>
    have e : (if y.length ≤ lineN then R.ok ((y.length : Int) != 0) else R.no) = .ok k := e
    by_cases hz : y.length ≤ lineN
    · rw [if_pos hz] at e
      cases e
      exact ⟨by rw [line_eq]; exact hz, rfl⟩
    · rw [if_neg hz] at e
      cases e
  | @lst a xs ds h1 h2 =>
    unfold tru at e
    cases e
    refine .inl ⟨xs, h1, ?_⟩
    cases h2 <;> rfl
  | @tup a xs ds h1 h2 =>
    unfold tru at e
    cases e
    refine .inr (.inl ⟨xs, h1, ?_⟩)
    cases h2 <;> rfl
/-- from a value's answer to a test's -/
theorem tT_of {t : TE} {rl : Rl} {K : PySem.W.Frag} {mg : Str → Option Value} {σ : L2.St} {H : Hp} {Q : Bool → Hp → Prop} {R1 : V → Hp → Prop} (h : tT K mg W (tb F) σ H Q)
    (k : ∀ (A : List Addr) (H1 : Hp) (v : V) (d : D) (b : Bool), rl H H1 A v d → tru d = .ok b → Q b H1 → R1 v H1) : tR K mg W rl F σ H R1 := by
  obtain ⟨η, A, E, p0⟩ := h
  have p : PostB K mg W σ A H ((F η).bind tru) Q := p0
  refine ⟨η, A, E, ?_⟩
  cases e : F η with
  | ex c w q => rw [e] at p; exact p
  | no => rw [e] at p; exact p
  | ok d =>
    rw [e] at p
    have p : PostB K mg W σ A H (tru d) Q := p
    intro v H1 s q
    cases e2 : tru d with
    | ex c w q =>
      exfalso
      unfold tru at e2
      split at e2 <;> first | cases e2 | (split at e2 <;> cases e2)
    | no => rw [e2] at p; exact False.elim p
    | ok b =>
      rw [e2] at p
      exact k A H1 v d b q e2 (p H1 s)
theorem b_val (ha : TO X W a Fa) (he : ∀ whole, isTrue a X.env whole = (do let v ← whole; standAt a.pos; holding [v] (truthy v)) := by intro _; rfl) : TB X W a (tb Fa) :=
  ptW (pt_truth ha he) fun σ H Q h => tT_of (t := fun _ _ _ => True) h fun A H1 v d b q e r => ⟨b, tru_of (rO_dp q) e, r⟩
/-- a comparison as a test -/
theorem b_cmp {op : CmpOp} {r : R2} {f : D → D → Option D} (hop : OpR X (compareOp op) r) (ho : Op2 X rB r f) (ha : TO X W a Fa) (hb : TO X W b Fb) (h1 : behindInMarks op b = false) : TB X W (.Compare a [op] [b] pos) (tb (e2 f Fa Fb)) :=
  ptW (pt_cmpR hop ha hb h1) fun σ H Q h => op2_t (fun _ _ _ _ _ _ _ q => q) ho (tT_of (t := fun _ _ _ => True) (rl := rB) h fun A H1 v d b q e r => by
    obtain ⟨k, rfl, rfl⟩ := q
    cases e
    exact ⟨_, rfl, r⟩)
theorem b_lt (ha : TO X W a Fa) (hb : TO X W b Fb) : TB X W (.Compare a [.Lt] [b] pos) (tb (e2 ltV Fa Fb)) := b_cmp op_lt o_cmpI ha hb (nomark _)
theorem b_le (ha : TO X W a Fa) (hb : TO X W b Fb) : TB X W (.Compare a [.LtE] [b] pos) (tb (e2 leV Fa Fb)) := b_cmp op_le o_cmpI ha hb (nomark _)
theorem b_gt (ha : TO X W a Fa) (hb : TO X W b Fb) : TB X W (.Compare a [.Gt] [b] pos) (tb (e2 gtV Fa Fb)) := b_cmp op_gt o_cmpI ha hb (nomark _)
theorem b_ge (ha : TO X W a Fa) (hb : TO X W b Fb) : TB X W (.Compare a [.GtE] [b] pos) (tb (e2 geV Fa Fb)) := b_cmp op_ge o_cmpI ha hb (nomark _)
theorem b_eq (hu : X.A.units + 64 < cLine) (ha : TO X W a Fa) (hb : TO X W b Fb) : TB X W (.Compare a [.Eq] [b] pos) (tb (e2 eqV' Fa Fb)) := b_cmp (op_eqA hu) o_eq ha hb (nomark _)
theorem b_ne (hu : X.A.units + 64 < cLine) (ha : TO X W a Fa) (hb : TO X W b Fb) : TB X W (.Compare a [.NotEq] [b] pos) (tb (e2 neV' Fa Fb)) := b_cmp (op_neA hu) o_ne ha hb (nomark _)
theorem b_is (ha : TO X W a Fa) (hb : TO X W b Fb) : TB X W (.Compare a [.Is] [b] pos) (tb (e2 isV Fa Fb)) := b_cmp op_isN o_is ha hb (nomark _)
theorem b_isnot (ha : TO X W a Fa) (hb : TO X W b Fb) : TB X W (.Compare a [.IsNot] [b] pos) (tb (e2 isnotV Fa Fb)) := b_cmp op_notN o_isnot ha hb (nomark _)
theorem b_in (hu : X.A.units + 65 < cLine) (ha : TO X W a Fa) (hb : TO X W b Fb) (h1 : behindInMarks .In b = false := by with_unfolding_all rfl) : TB X W (.Compare a [.In] [b] pos) (tb (e2 inV' Fa Fb)) := b_cmp (op_inA hu) o_in ha hb h1
theorem b_notin (hu : X.A.units + 65 < cLine) (ha : TO X W a Fa) (hb : TO X W b Fb) (h1 : behindInMarks .NotIn b = false := by with_unfolding_all rfl) : TB X W (.Compare a [.NotIn] [b] pos) (tb (e2 ninV' Fa Fb)) := b_cmp (op_notInA hu) o_notin ha hb h1
end
end Bd
/-! D3: and, or, not, if-else, chains; arguments; built-ins and own defs called; displays, subscripts, slices. -/
namespace Bd
open PySem L2

section
variable {X : Cx} {W : WX} {rl : Rl} {a b c e : Expr} {rest : List Expr} {Fa Fb Fc F : Nv → R D} {Ga Gb G : Nv → R Bool} {pos : Pos}
/-! ### tests joined -/
def TW (X : Cx) (W : WX) (e : Expr) (G : Nv → R Bool) : Prop := PW X e (tT X.K X.mg W G)
theorem pwW {t t' : TT} (h : PW X e t) (k : ∀ σ H Q, t' σ H Q → t σ H Q) : PW X e t' := ⟨fun w pins s σ H Q I q => h.run w pins s σ H Q I (k _ _ _ q)⟩
def andB (Ga Gb : Nv → R Bool) : Nv → R Bool := fun η => (Ga η).bind fun k => if k then Gb η else .ok false
def orB (Ga Gb : Nv → R Bool) : Nv → R Bool := fun η => (Ga η).bind fun k => if k then .ok true else Gb η
def notB (Ga : Nv → R Bool) : Nv → R Bool := fun η => (Ga η).bind fun k => .ok !k
theorem tT_bind {K : PySem.W.Frag} {mg : Str → Option Value} {g : Nv → Bool → R Bool} {σ : L2.St} {H : Hp} {Q : Bool → Hp → Prop} {R1 : Bool → Hp → Prop} (h : tT K mg W (fun η => (Ga η).bind (g η)) σ H Q)
    (k : ∀ (η : Nv) (A : List Addr) (H1 : Hp) (b : Bool), EnvD K H1 A σ η → PostB K mg W σ A H1 (g η b) Q → R1 b H1) : tT K mg W Ga σ H R1 := by
  obtain ⟨η, A, E, p0⟩ := h
  have p : PostB K mg W σ A H ((Ga η).bind (g η)) Q := p0
  refine ⟨η, A, E, ?_⟩
  cases e : Ga η with
  | ex c w q => rw [e] at p; exact p
  | no => rw [e] at p; exact p
  | ok d =>
    rw [e] at p
    have p : PostB K mg W σ A H (g η d) Q := p
    exact fun H1 s => k η A H1 d (E.same s) (p.same s)
theorem w_and1 (ha : TB X W a Ga) : TW X W (.BoolOp .And [a] pos) Ga := pw_and1 ha
theorem w_or1 (ha : TB X W a Ga) : TW X W (.BoolOp .Or [a] pos) Ga := pw_or1 ha
theorem w_and (ha : TB X W a Ga) (hb : TW X W (.BoolOp .And (b :: rest) pos) Gb) : TW X W (.BoolOp .And (a :: b :: rest) pos) (andB Ga Gb) := pwW (pw_and ha hb) fun σ H Q h => tT_bind h fun η A H1 b E p => by
  cases b with
  | true => exact iteT ⟨η, A, E, p⟩
  | false => exact iteF (p H1 (Same.refl _))
theorem w_or (ha : TB X W a Ga) (hb : TW X W (.BoolOp .Or (b :: rest) pos) Gb) : TW X W (.BoolOp .Or (a :: b :: rest) pos) (orB Ga Gb) := pwW (pw_or ha hb) fun σ H Q h => tT_bind h fun η A H1 b E p => by
  cases b with
  | true => exact iteT (p H1 (Same.refl _))
  | false => exact iteF ⟨η, A, E, p⟩
theorem b_w (h : TW X W e G) : TB X W e G := PW.pt h
theorem b_not (ha : TB X W a Ga) : TB X W (.UnaryOp .Not a pos) (notB Ga) := ptW (pt_not ha) fun σ H Q h => tT_bind h fun η A H1 b E p => p H1 (Same.refl _)
/-! as values -/
def andV (Fa Fb : Nv → R D) : Nv → R D := fun η => (Fa η).bind fun x => (tru x).bind fun k => if k then Fb η else .ok x
def orV (Fa Fb : Nv → R D) : Nv → R D := fun η => (Fa η).bind fun x => (tru x).bind fun k => if k then .ok x else Fb η
def notV (Fa : Nv → R D) : Nv → R D := fun η => (Fa η).bind fun x => (tru x).bind fun k => .ok (.bool !k)
theorem tru_noex {d : D} {c w : Str} {p : D} : tru d ≠ .ex c w p := by
  intro e
  cases d <;> first | (cases e; done) | skip
  rename_i y
  have e : (if y.length ≤ lineN then R.ok ((y.length : Int) != 0) else R.no) = .ex c w p := e
  split at e <;> cases e
theorem bindT {g : Nv → D → Bool → R D} {σ : L2.St} {H : Hp} {Q : VK} {R1 : V → Hp → Prop} {rl' : Rl} (hb : Back rl) (h : tR X.K X.mg W rl (fun η => (F η).bind fun x => (tru x).bind fun k => g η x k) σ H Q)
    (k : ∀ (η : Nv) (A : List Addr) (H0 H1 : Hp) (v : V) (d : D) (b : Bool), EnvD X.K H1 A σ η → rl' H0 H1 A v d → tru d = .ok b → Post X.K X.mg W rl σ A H1 (g η d b) Q → R1 v H1) : tR X.K X.mg W rl' F σ H R1 := by
  obtain ⟨η, A, E, p⟩ := bindR (rl' := rl') hb h
  refine ⟨η, A, E, ?_⟩
  cases e : F η with
  | ex c w q => rw [e] at p; exact p
  | no => rw [e] at p; exact p
  | ok d =>
    rw [e] at p
    intro v1 H1 s1 q1
    obtain ⟨η1, A1, d1, s2, E1, q2, _, P⟩ := p v1 H1 s1 q1
    have P : Post X.K X.mg W rl σ A1 H1 ((tru d1).bind fun k => g η1 d1 k) Q := P
    cases e2 : tru d1 with
    | ex c w q => exact absurd e2 tru_noex
    | no => rw [e2] at P; exact False.elim P
    | ok b =>
      rw [e2] at P
      exact k η1 A1 H H1 v1 d1 b E1 q2 e2 P
theorem t_one {op : BoolOp} (h : TD X W a Fa) : TD X W (.BoolOp op [a] pos) Fa := pe_one h
theorem t_and (ha : TD X W a Fa) (hb : TD X W (.BoolOp .And (b :: rest) pos) Fb) : TD X W (.BoolOp .And (a :: b :: rest) pos) (andV Fa Fb) := peW (pe_andT ha hb) fun σ H Q h => bindT (rl' := rD X.K) back_D h fun η A H0 H1 v d k E q e p => by
  refine ⟨k, tru_of (Dp_mono q (hid_le A H1)) e, ?_⟩
  cases k with
  | true => exact iteT ⟨η, A, E, p⟩
  | false => exact iteF (p v H1 (Same.refl _) q)
theorem t_or (ha : TD X W a Fa) (hb : TD X W (.BoolOp .Or (b :: rest) pos) Fb) : TD X W (.BoolOp .Or (a :: b :: rest) pos) (orV Fa Fb) := peW (pe_orT ha hb) fun σ H Q h => bindT (rl' := rD X.K) back_D h fun η A H0 H1 v d k E q e p => by
  refine ⟨k, tru_of (Dp_mono q (hid_le A H1)) e, ?_⟩
  cases k with
  | true => exact iteT (p v H1 (Same.refl _) q)
  | false => exact iteF ⟨η, A, E, p⟩
theorem t_not (ha : TO X W a Fa) : TD X W (.UnaryOp .Not a pos) (notV Fa) := peW (pe_notT ha) fun σ H Q h => bindT (rl' := rO X.K) back_D h fun η A H0 H1 v d k E q e p =>
  ⟨k, tru_of (rO_dp q) e, p _ H1 (Same.refl _) (.bl _)⟩
/-! ### a if t else b -/
def ifV (G : Nv → R Bool) (Fa Fb : Nv → R D) : Nv → R D := fun η => (G η).bind fun k => if k then Fa η else Fb η
theorem tT_bindR {K : PySem.W.Frag} {mg : Str → Option Value} {g : Nv → Bool → R D} {σ : L2.St} {H : Hp} {Q : VK} {R1 : Bool → Hp → Prop} (hb : Back rl) (h : tR K mg W rl (fun η => (Ga η).bind (g η)) σ H Q)
    (k : ∀ (η : Nv) (A : List Addr) (H1 : Hp) (b : Bool), EnvD K H1 A σ η → Post K mg W rl σ A H1 (g η b) Q → R1 b H1) : tT K mg W Ga σ H R1 := by
  obtain ⟨η, A, E, p0⟩ := h
  have p : Post K mg W rl σ A H ((Ga η).bind (g η)) Q := p0
  refine ⟨η, A, E, ?_⟩
  cases e : Ga η with
  | ex c w q => rw [e] at p; exact p
  | no => rw [e] at p; exact p
  | ok d =>
    rw [e] at p
    have p : Post K mg W rl σ A H (g η d) Q := p
    exact fun H1 s => k η A H1 d (E.same s) (Post.same hb s p)
theorem t_if (hc : TB X W c G) (ha : TD X W a Fa) (hb : TD X W b Fb) : TD X W (.IfExp c a b pos) (ifV G Fa Fb) := peW (pe_ifExp hc ha hb) fun σ H Q h => tT_bindR back_D h fun η A H1 k E p => by
  cases k with
  | true => exact iteT ⟨η, A, E, p⟩
  | false => exact iteF ⟨η, A, E, p⟩
/-! ### a op b op' c -/
def chainV (f g : D → D → Option D) (Fa Fb Fc : Nv → R D) : Nv → R D := fun η => (Fa η).bind fun x => (Fb η).bind fun y => (R.of (f x y)).bind fun z => (tru z).bind fun k => if k then (Fc η).bind fun w => .of (g y w) else .ok (.bool false)
theorem chain_t {r r' : R2} {f g : D → D → Option D} (ho : Op2 X rB r f) (ho' : Op2 X rB r' g) {σ : L2.St} {H : Hp} {Q : VK} (h : tR X.K X.mg W rB (chainV f g Fa Fb Fc) σ H Q) :
    tChain r r' (tR X.K X.mg W (rO X.K) Fa) (tR X.K X.mg W (rO X.K) Fb) (tR X.K X.mg W (rO X.K) Fc) σ H Q := by
  have bk : Back rB := fun _ _ _ _ _ _ _ q => q
  obtain ⟨η, A, E, p0⟩ := h
  have p : Post X.K X.mg W rB σ A H ((Fa η).bind fun x => (Fb η).bind fun y => (R.of (f x y)).bind fun z => (tru z).bind fun k => if k then (Fc η).bind fun w => .of (g y w) else .ok (.bool false)) Q := p0
  refine ⟨η, A, E, ?_⟩
  cases e1 : Fa η with
  | ex c w q => rw [e1] at p; exact p
  | no => rw [e1] at p; exact p
  | ok x =>
    rw [e1] at p
    have p : Post X.K X.mg W rB σ A H ((Fb η).bind fun y => (R.of (f x y)).bind fun z => (tru z).bind fun k => if k then (Fc η).bind fun w => .of (g y w) else .ok (.bool false)) Q := p
    intro v1 H1 s1 q1
    refine ⟨η, A, E.same s1, ?_⟩
    cases e2 : Fb η with
    | ex c w q => rw [e2] at p; exact Post.same bk s1 (rl := rB) (r := .ex c w q) p
    | no => rw [e2] at p; exact p
    | ok y =>
      rw [e2] at p
      have p : Post X.K X.mg W rB σ A H ((R.of (f x y)).bind fun z => (tru z).bind fun k => if k then (Fc η).bind fun w => .of (g y w) else .ok (.bool false)) Q := p
      intro v2 H2 s2 q2
      cases e3 : f x y with
      | none => rw [e3] at p; exact False.elim p
      | some z =>
        rw [e3] at p
        have p : Post X.K X.mg W rB σ A H ((tru z).bind fun k => if k then (Fc η).bind fun w => .of (g y w) else .ok (.bool false)) Q := p
        refine ho H2 A v1 v2 x y z _ ((E.same s1).same s2).tr (rO_same s2 q1) (rO_same (Same.refl _) q2) e3 fun v3 H3 s3 q3 => ?_
        obtain ⟨k, rfl, rfl⟩ := q3
        have s13 := (s1.trans s2).trans s3
        refine ⟨k, rfl, ?_⟩
        cases k with
        | false => exact iteF (p (.bl false) H3 s13 ⟨_, rfl, rfl⟩)
        | true =>
          have p : Post X.K X.mg W rB σ A H ((Fc η).bind fun w => .of (g y w)) Q := p
          refine iteT ⟨η, A, E.same s13, ?_⟩
          cases e4 : Fc η with
          | ex c w q => rw [e4] at p; exact Post.same bk s13 (rl := rB) (r := .ex c w q) p
          | no => rw [e4] at p; exact p
          | ok u =>
            rw [e4] at p
            have p : Post X.K X.mg W rB σ A H (.of (g y u)) Q := p
            intro v4 H4 s4 q4
            cases e5 : g y u with
            | none => rw [e5] at p; exact False.elim p
            | some z' =>
              rw [e5] at p
              have s24 := s3.trans s4
              exact ho' H4 A v2 v4 y u z' Q (E.same (s13.trans s4)).tr (rO_same s24 q2) (rO_same (Same.refl _) q4) e5 fun v5 H5 s5 q5 => p v5 H5 ((s13.trans s4).trans s5) q5
theorem t_chain {op op' : CmpOp} {r r' : R2} {f g : D → D → Option D} (hop : OpR X (compareOp op) r) (hop' : OpR X (compareOp op') r') (ho : Op2 X rB r f) (ho' : Op2 X rB r' g) (ha : TO X W a Fa) (hb : TO X W b Fb) (hc : TO X W c Fc)
    (hm : lastMarks [op, op'] [b, c] = false := by with_unfolding_all rfl) : TD X W (.Compare a [op, op'] [b, c] pos) (chainV f g Fa Fb Fc) :=
  peW (pe_chain hop hop' ha hb hc hm) fun σ H Q h => chain_t ho ho' (tR_imp (fun _ _ _ _ _ _ _ q => rB_D q) h)
theorem b_chain {op op' : CmpOp} {r r' : R2} {f g : D → D → Option D} (hop : OpR X (compareOp op) r) (hop' : OpR X (compareOp op') r') (ho : Op2 X rB r f) (ho' : Op2 X rB r' g) (ha : TO X W a Fa) (hb : TO X W b Fb) (hc : TO X W c Fc)
    (hm : lastMarks [op, op'] [b, c] = false := by with_unfolding_all rfl) : TB X W (.Compare a [op, op'] [b, c] pos) (tb (chainV f g Fa Fb Fc)) :=
  ptW (pt_chain hop hop' ha hb hc hm) fun σ H Q h => chain_t ho ho' (tT_of (t := fun _ _ _ => True) (rl := rB) h fun A H1 v d b q e r => by
    obtain ⟨k, rfl, rfl⟩ := q
    cases e
    exact ⟨_, rfl, r⟩)

/-! ### arguments -/
/-- how a value lies, without a heap ahead -/
abbrev Rv := Hp → List Addr → V → D → Prop
def vO (K : PySem.W.Frag) : Rv := fun H A v d => rO K H H A v d
def vD (K : PySem.W.Frag) : Rv := fun H A v d => Dp K (hid A H) v d
def Keeps (rv : Rv) : Prop := ∀ H H' A v d, Same H H' → rv H A v d → rv H' A v d
theorem keeps_O {K : PySem.W.Frag} : Keeps (vO K) := fun _ _ _ _ _ s h => rO_same s h
theorem keeps_D {K : PySem.W.Frag} : Keeps (vD K) := fun _ _ _ _ _ s h => Dp_mono h (hid_same s)
def AllV (rv : Rv) (H : Hp) (A : List Addr) : List V → List D → Prop
  | [], [] => True
  | v :: vs, d :: ds => rv H A v d ∧ AllV rv H A vs ds
  | _, _ => False
theorem AllV.dp {K : PySem.W.Frag} {H : Hp} {A : List Addr} : ∀ {vs : List V} {ds : List D}, AllV (vD K) H A vs ds → DpAll K (hid A H) vs ds
  | [], [], _ => .nil
  | _ :: _, _ :: _, h => .cons h.1 (AllV.dp h.2)
  | [], _ :: _, h => h.elim
  | _ :: _, [], h => h.elim
theorem AllV.len {rv : Rv} {H : Hp} {A : List Addr} : ∀ {vs : List V} {ds : List D}, AllV rv H A vs ds → vs.length = ds.length
  | [], [], _ => rfl
  | _ :: _, _ :: _, h => by rw [List.length_cons, List.length_cons, AllV.len h.2]
  | [], _ :: _, h => h.elim
  | _ :: _, [], h => h.elim
def PostA (K : PySem.W.Frag) (mg : Str → Option Value) (W : WX) (rv : Rv) (σ : L2.St) (A : List Addr) (H : Hp) (r : R (List D)) (Q : List V → Hp → Prop) : Prop :=
  match r with
  | .ok ds => ∀ vs H', Same H H' → AllV rv H' A vs ds → Q vs H'
  | .ex c w p => ∀ cls dd H', Same H H' → ExR K mg (hid A H') cls dd c w p → W cls dd σ H'
  | .no => False
def tA (K : PySem.W.Frag) (mg : Str → Option Value) (W : WX) (rv : Rv) (Fs : Nv → R (List D)) : TA := fun σ H Q => ∃ η A, EnvD K H A σ η ∧ PostA K mg W rv σ A H (Fs η) Q
def TAs (X : Cx) (W : WX) (rv : Rv) (es : List Expr) (Fs : Nv → R (List D)) : Prop := PA X es (tA X.K X.mg W rv Fs)
def TV (X : Cx) (W : WX) (rv : Rv) (e : Expr) (F : Nv → R D) : Prop := PE X e (tR X.K X.mg W (fun _ H' A v d => rv H' A v d) F)
theorem TD.v (h : TD X W e F) : TV X W (vD X.K) e F := h
theorem TO.v (h : TO X W e F) : TV X W (vO X.K) e F := peW h fun _ _ _ => tR_imp fun _ _ _ _ _ _ _ q => rO_same (Same.refl _) q
def a0 : Nv → R (List D) := fun _ => .ok []
def aC (Fa : Nv → R D) (Fs : Nv → R (List D)) : Nv → R (List D) := fun η => (Fa η).bind fun x => (Fs η).bind fun xs => .ok (x :: xs)
theorem paW {es : List Expr} {t t' : TA} (h : PA X es t) (k : ∀ σ H Q, t' σ H Q → t σ H Q) : PA X es t' := ⟨fun pos pins s σ H Q I q => h.run pos pins s σ H Q I (k _ _ _ q)⟩
theorem as_nil {rv : Rv} : TAs X W rv [] a0 := paW pa_nil fun σ H Q ⟨η, A, E, p⟩ => p [] H (Same.refl _) trivial
theorem as_cons {rv : Rv} {es : List Expr} {Fs : Nv → R (List D)} (hk : Keeps rv) (ha : TV X W rv a Fa) (hs : TAs X W rv es Fs) (h1 : starEach (a :: es) X.env = (false, eval a X.env) :: starEach es X.env := by rfl) : TAs X W rv (a :: es) (aC Fa Fs) :=
  paW (pa_cons ha hs h1) fun σ H Q h => by
    obtain ⟨η, A, E, p0⟩ := h
    have p : PostA X.K X.mg W rv σ A H ((Fa η).bind fun x => (Fs η).bind fun xs => .ok (x :: xs)) Q := p0
    refine (show tR X.K X.mg W (fun _ H' A v d => rv H' A v d) Fa σ H _ from ⟨η, A, E, ?_⟩)
    cases e1 : Fa η with
    | ex c w q => rw [e1] at p; exact p
    | no => rw [e1] at p; exact p
    | ok x =>
      rw [e1] at p
      have p : PostA X.K X.mg W rv σ A H ((Fs η).bind fun xs => .ok (x :: xs)) Q := p
      intro v H1 s1 q1
      refine (show tA X.K X.mg W rv Fs σ H1 _ from ⟨η, A, E.same s1, ?_⟩)
      cases e2 : Fs η with
      | ex c w q =>
        rw [e2] at p
        exact fun cls dd H' s q' => p cls dd H' (s1.trans s) q'
      | no => rw [e2] at p; exact p
      | ok xs =>
        rw [e2] at p
        exact fun vs H2 s2 q2 => p (v :: vs) H2 (s1.trans s2) ⟨hk _ _ _ _ _ s2 q1, q2⟩
/-- a built-in function's answer by data -/
def OpN (X : Cx) (rl : Rl) (r : List V → Hp → VK → Prop) (f : List D → Option D) : Prop :=
  ∀ (H : Hp) (A : List Addr) (vs : List V) (ds : List D) (d : D) (Q : VK), (∀ p ∈ A, H p ≠ none) → AllV (vO X.K) H A vs ds → f ds = some d → (∀ v H', Same H H' → rl H H' A v d → Q v H') → r vs H Q
def eN (f : List D → Option D) (Fs : Nv → R (List D)) : Nv → R D := fun η => (Fs η).bind fun ds => .of (f ds)
theorem opN_t {r : List V → Hp → VK → Prop} {f : List D → Option D} {Fs : Nv → R (List D)} (hb : Back rl) (ho : OpN X rl r f) {σ : L2.St} {H : Hp} {Q : VK} (h : tR X.K X.mg W rl (eN f Fs) σ H Q) : tCB r (tA X.K X.mg W (vO X.K) Fs) σ H Q := by
  obtain ⟨η, A, E, p0⟩ := h
  have p : Post X.K X.mg W rl σ A H ((Fs η).bind fun ds => .of (f ds)) Q := p0
  refine (show tA X.K X.mg W (vO X.K) Fs σ H _ from ⟨η, A, E, ?_⟩)
  cases e1 : Fs η with
  | ex c w q => rw [e1] at p; exact p
  | no => rw [e1] at p; exact p
  | ok ds =>
    rw [e1] at p
    have p : Post X.K X.mg W rl σ A H (.of (f ds)) Q := p
    intro vs H1 s1 q1
    cases e2 : f ds with
    | none => rw [e2] at p; exact False.elim p
    | some d =>
      rw [e2] at p
      exact ho H1 A vs ds d Q (E.same s1).tr q1 e2 fun v H' s q => p v H' (s1.trans s) (hb _ _ _ _ _ _ s1 q)
theorem t_callB {id : String} {x : Str} {p : Pos} {es : List Expr} {r : List V → Hp → VK → Prop} {f : List D → Option D} {Fs : Nv → R (List D)} (hb : Back rl) (hc : CallR X (.builtin id) r) (ho : OpN X rl r f) (hg : Gl X x) (hm : X.mg x = none) (hv : bootBuiltins x = some (.builtin id))
    (ha : TAs X W (vO X.K) (e :: es) Fs) (hn : x ≠ "__name__" := by decide) (hdb : (x == ("__debug__" : Str)) = false := by decide) (he : starEach (e :: es) X.env = (false, eval e X.env) :: starEach es X.env := by rfl)
    (hpl : (backTo pos (starEach es X.env)).any (·.1) = false := by rfl) : PE X (.Call (.Name x p) (e :: es) [] pos) (tR X.K X.mg W rl (eN f Fs)) :=
  peW (pe_callB hc hg hm hv ha hn hdb he hpl) fun _ _ _ => opN_t hb ho
theorem t_callTy {T : String} {x : Str} {p : Pos} {es : List Expr} {r : List V → Hp → VK → Prop} {f : List D → Option D} {Fs : Nv → R (List D)} (hb : Back rl) (hc : CallR X (.type T) r) (ho : OpN X rl r f) (hg : Gl X x) (hm : X.mg x = none) (hv : bootBuiltins x = some (.type T))
    (ha : TAs X W (vO X.K) (e :: es) Fs) (hn : x ≠ "__name__" := by decide) (hdb : (x == ("__debug__" : Str)) = false := by decide) (he : starEach (e :: es) X.env = (false, eval e X.env) :: starEach es X.env := by rfl)
    (hpl : (backTo pos (starEach es X.env)).any (·.1) = false := by rfl) : PE X (.Call (.Name x p) (e :: es) [] pos) (tR X.K X.mg W rl (eN f Fs)) :=
  peW (pe_callTy hc hg hm hv ha hn hdb he hpl) fun _ _ _ => opN_t hb ho
/-! ### displays -/
def tupV (Fs : Nv → R (List D)) : Nv → R D := eN (fun ds => if ds.length ≤ lineN then some (.tuple ds) else none) Fs
def lstV (Fs : Nv → R (List D)) : Nv → R D := eN (fun ds => if ds.length ≤ lineN then some (.list ds) else none) Fs
theorem t_tup {es : List Expr} {x1 : Nat} {Fs : Nv → R (List D)} (h : TAs X W (vD X.K) es Fs) : TD X W (.Tuple es x1 pos) (tupV Fs) := peW (pe_tup h) fun σ H Q hq => by
  obtain ⟨η, A, E, p0⟩ := hq
  have p : Post X.K X.mg W (rD X.K) σ A H ((Fs η).bind fun ds => .of (if ds.length ≤ lineN then some (.tuple ds) else none)) Q := p0
  refine (show tA X.K X.mg W (vD X.K) Fs σ H _ from ⟨η, A, E, ?_⟩)
  cases e1 : Fs η with
  | ex c w q => rw [e1] at p; exact p
  | no => rw [e1] at p; exact p
  | ok ds =>
    rw [e1] at p
    have p : Post X.K X.mg W (rD X.K) σ A H (.of (if ds.length ≤ lineN then some (.tuple ds) else none)) Q := p
    intro vs H1 s1 q1
    split at p
    · rename_i hz
      exact ⟨by rw [q1.len, line_eq]; exact hz, fun q hq => p _ _ (s1.trans (same_new hq)) (dp_new_tup (E.same s1).tr hq q1.dp)⟩
    · exact False.elim p
theorem t_lst {es : List Expr} {Fs : Nv → R (List D)} (h : TAs X W (vD X.K) es Fs) : TF X W (.List es pos) (lstV Fs) := peW (pe_lst h) fun σ H Q hq => by
  obtain ⟨η, A, E, p0⟩ := hq
  have p : Post X.K X.mg W (rF X.K) σ A H ((Fs η).bind fun ds => .of (if ds.length ≤ lineN then some (.list ds) else none)) Q := p0
  refine (show tA X.K X.mg W (vD X.K) Fs σ H _ from ⟨η, A, E, ?_⟩)
  cases e1 : Fs η with
  | ex c w q => rw [e1] at p; exact p
  | no => rw [e1] at p; exact p
  | ok ds =>
    rw [e1] at p
    have p : Post X.K X.mg W (rF X.K) σ A H (.of (if ds.length ≤ lineN then some (.list ds) else none)) Q := p
    intro vs H1 s1 q1
    split at p
    · rename_i hz
      exact ⟨by rw [q1.len, line_eq]; exact hz, fun q hq => p _ _ (s1.trans (same_new hq)) (back_F _ _ _ _ _ _ s1 (dp_new_list (E.same s1).tr hq q1.dp))⟩
    · exact False.elim p
/-! ### subscripts and slices -/
def atD (xs : List D) (i : Int) : Option D := (ixN xs.length i).bind fun j => xs[j]?
def ixV : D → D → Option D
  | .list xs, .int i => atD xs i
  | .tuple xs, .int i => atD xs i
  | _, _ => none
theorem atI_of {K : PySem.W.Frag} {H : Hp} {vs : List V} {ds : List D} {i : Int} {d : D} (h : DpAll K H vs ds) (e : atD ds i = some d) : ∃ v, atI vs i = some v ∧ Dp K H v d := by
  unfold atD at e
  unfold atI
  rw [DpAll_length h]
  cases q : ixN ds.length i with
  | none => rw [q] at e; cases e
  | some j =>
    rw [q] at e
    exact DpAll_get h e
theorem o_ix : Op2 X (rD X.K) (rIx X.K) ixV := by
  intro H A x y a b d Q hA ha hb e k
  unfold ixV at e
  split at e
  · obtain ⟨l, vs, rfl, h1, q⟩ := rO_list ha
    obtain ⟨v, e1, q1⟩ := atI_of q e
    exact .inl ⟨l, vs, _, v, rfl, rO_int hb, h1, e1, k v H (Same.refl _) q1⟩
  · obtain ⟨l, vs, rfl, h1, _, q⟩ := rO_tup ha
    obtain ⟨v, e1, q1⟩ := atI_of q e
    exact .inr (.inl ⟨l, vs, _, v, rfl, rO_int hb, h1, e1, k v H (Same.refl _) q1⟩)
  · cases e
theorem t_ix (ha : TO X W a Fa) (hb : TO X W b Fb) (hs : PlainIx b := by exact fun _ _ => rfl) : TD X W (.Subscript a b pos) (e2 ixV Fa Fb) := peW (pe_ix ix_seq ha hb hs) fun _ _ _ => op2_t back_D o_ix
def cutD (xs : List D) (lo hi : Option Int) : List D := (xs.drop (HT.sIx xs.length 0 lo)).take (HT.sIx xs.length xs.length hi - HT.sIx xs.length 0 lo)
theorem cut_of {K : PySem.W.Frag} {H : Hp} {vs : List V} {ds : List D} {lo hi : Option Int} (h : DpAll K H vs ds) : DpAll K H (cutV vs lo hi) (cutD ds lo hi) := by
  unfold cutV cutD
  rw [DpAll_length h]
  exact DpAll_take _ (DpAll_drop _ h)
def slV (lo hi : Option Int) : D → Option D
  | .list xs => some (.list (cutD xs lo hi))
  | .tuple xs => some (.tuple (cutD xs lo hi))
  | _ => none
def slL (lo hi : Option Int) : D → Option D
  | .list xs => some (.list (cutD xs lo hi))
  | _ => none
/-- a slice's part: left out, or an int -/
def TPt (X : Cx) (W : WX) (e : Option Expr) (F : Nv → R (Option Int)) : Prop :=
  ∃ t : L2.TO, PO X e t ∧ ∀ σ H (Q : Option Int → Hp → Prop), (∃ η A, EnvD X.K H A σ η ∧ match F η with
    | .ok o => ∀ H', Same H H' → Q o H'
    | .ex c w p => ∀ cls dd H', Same H H' → ExR X.K X.mg (hid A H') cls dd c w p → W cls dd σ H'
    | .no => False) → t σ H Q
def p0 : Nv → R (Option Int) := fun _ => .ok none
def asInt : D → R (Option Int)
  | .int i => .ok (some i)
  | _ => .no
def p1 (F : Nv → R D) : Nv → R (Option Int) := fun η => (F η).bind asInt
theorem pt_0 : TPt X W none p0 := ⟨_, po_none, fun σ H Q ⟨η, A, E, p⟩ => p H (Same.refl _)⟩
theorem pt_1 (h : TO X W e F) : TPt X W (some e) (p1 F) := ⟨_, po_some h, fun σ H Q ⟨η, A, E, p⟩ => by
  refine (show tR X.K X.mg W (rO X.K) F σ H _ from ⟨η, A, E, ?_⟩)
  unfold p1 at p
  cases e1 : F η with
  | ex c w q => rw [e1] at p; exact p
  | no => rw [e1] at p; exact p
  | ok d =>
    rw [e1] at p
    intro v H1 s1 q1
    cases d with
    | int i => exact ⟨i, rO_int q1, p H1 s1⟩
    | _ => exact False.elim p⟩
def slE (sl : Option Int → Option Int → D → Option D) (F : Nv → R D) (Lo Hi : Nv → R (Option Int)) : Nv → R D := fun η => (F η).bind fun x => (Lo η).bind fun l => (Hi η).bind fun h => .of (sl l h x)
theorem slice_t {r : V → Option Int → Option Int → Hp → VK → Prop} {sl : Option Int → Option Int → D → Option D} {lo hi : Option Expr} {Lo Hi : Nv → R (Option Int)} {p2 : Pos} (hb : Back rl) (hr : SlR X r)
    (ho : ∀ (H : Hp) (A : List Addr) (x : V) (a d : D) (l h : Option Int) (Q : VK), (∀ p ∈ A, H p ≠ none) → rO X.K H H A x a → sl l h a = some d → (∀ v H', Same H H' → rl H H' A v d → Q v H') → r x l h H Q)
    (ha : TO X W a Fa) (hl : TPt X W lo Lo) (hh : TPt X W hi Hi) : PE X (.Subscript a (.Slice lo hi none p2) pos) (tR X.K X.mg W rl (slE sl Fa Lo Hi)) := by
  obtain ⟨tl, pl, kl⟩ := hl
  obtain ⟨th, ph, kh⟩ := hh
  refine peW (pe_slice hr ha pl ph) fun σ H Q h => ?_
  obtain ⟨η, A, E, q0⟩ := h
  have p : Post X.K X.mg W rl σ A H ((Fa η).bind fun x => (Lo η).bind fun l => (Hi η).bind fun h => .of (sl l h x)) Q := q0
  refine (show tR X.K X.mg W (rO X.K) Fa σ H _ from ⟨η, A, E, ?_⟩)
  cases e1 : Fa η with
  | ex c w q => rw [e1] at p; exact p
  | no => rw [e1] at p; exact p
  | ok x =>
    rw [e1] at p
    have p : Post X.K X.mg W rl σ A H ((Lo η).bind fun l => (Hi η).bind fun h => .of (sl l h x)) Q := p
    intro v H1 s1 q1
    refine kl σ H1 _ ⟨η, A, E.same s1, ?_⟩
    cases e2 : Lo η with
    | ex c w q => rw [e2] at p; exact fun cls dd H' s q' => p cls dd H' (s1.trans s) q'
    | no => rw [e2] at p; exact p
    | ok l =>
      rw [e2] at p
      have p : Post X.K X.mg W rl σ A H ((Hi η).bind fun h => .of (sl l h x)) Q := p
      intro H2 s2
      have s12 := s1.trans s2
      refine kh σ H2 _ ⟨η, A, E.same s12, ?_⟩
      cases e3 : Hi η with
      | ex c w q => rw [e3] at p; exact fun cls dd H' s q' => p cls dd H' (s12.trans s) q'
      | no => rw [e3] at p; exact p
      | ok h =>
        rw [e3] at p
        have p : Post X.K X.mg W rl σ A H (.of (sl l h x)) Q := p
        intro H3 s3
        have s13 := s12.trans s3
        cases e4 : sl l h x with
        | none => rw [e4] at p; exact False.elim p
        | some d =>
          rw [e4] at p
          exact ho H3 A v x d l h Q (E.same s13).tr (rO_same (s2.trans s3) q1) e4 fun v' H' s q => p v' H' (s13.trans s) (hb _ _ _ _ _ _ s13 q)
theorem cut_whole {xs : List D} {lo hi : Option Int} (h : HT.sIx xs.length 0 lo = 0 ∧ HT.sIx xs.length xs.length hi = xs.length) : cutD xs lo hi = xs := by
  unfold cutD
  rw [h.1, h.2]
  simp
theorem t_slice {lo hi : Option Expr} {Lo Hi : Nv → R (Option Int)} {p2 : Pos} (ha : TO X W a Fa) (hl : TPt X W lo Lo) (hh : TPt X W hi Hi) : TD X W (.Subscript a (.Slice lo hi none p2) pos) (slE slV Fa Lo Hi) :=
  slice_t back_D (SlR.or sl_list sl_tupA) (fun H A x a d l h Q hA ha e k => by
    unfold slV at e
    split at e
    · have e := Option.some.inj e
      subst e
      obtain ⟨p, vs, rfl, h1, q⟩ := rO_list ha
      exact .inl ⟨p, vs, rfl, h1, fun z hz => k _ _ (same_new hz) (rF_D (nofree hA) (dp_new_list hA hz (cut_of q)))⟩
    · have e := Option.some.inj e
      subst e
      obtain ⟨p, vs, rfl, h1, h1', q⟩ := rO_tup ha
      refine .inr ⟨p, vs, rfl, h1, fun w => ?_, fun _ z hz => k _ _ (same_new hz) (dp_new_tup hA hz (cut_of q))⟩
      rw [DpAll_length q] at w
      refine k _ H (Same.refl _) ?_
      rw [cut_whole w]
      exact .tup h1' q
    · cases e) ha hl hh
/-- of a list: a new list -/
theorem t_sliceL {lo hi : Option Expr} {Lo Hi : Nv → R (Option Int)} {p2 : Pos} (ha : TO X W a Fa) (hl : TPt X W lo Lo) (hh : TPt X W hi Hi) : TF X W (.Subscript a (.Slice lo hi none p2) pos) (slE slL Fa Lo Hi) :=
  slice_t back_F sl_list (fun H A x a d l h Q hA ha e k => by
    unfold slL at e
    split at e
    · have e := Option.some.inj e
      subst e
      obtain ⟨p, vs, rfl, h1, q⟩ := rO_list ha
      exact ⟨p, vs, rfl, h1, fun z hz => k _ _ (same_new hz) (dp_new_list hA hz (cut_of q))⟩
    · cases e) ha hl hh
end
end Bd
/-! D4: targets, what is walked, comprehensions, statements. -/
namespace Bd
open PySem L2

section
variable {X : Cx} {W : WX} {rl : Rl} {a b c e tg iter : Expr} {Fa Fb Fc F : Nv → R D} {Ga Gb G : Nv → R Bool} {pos : Pos}
/-! ### targets -/
abbrev Tgt := D → Nv → Option Nv
abbrev Tgts := List D → Nv → Option Nv
structure Stored (σ σ' : L2.St) (η η' : Nv) (js : List Nat) : Prop where
  len : σ'.length = σ.length
  rest : ∀ j, j ∉ js → σ'[j]? = σ[j]?
  own : ∀ i xs, η'[i]? = some (.own xs) → i ∉ js ∧ η[i]? = some (.own xs)
theorem Stored.trans {σ σ1 σ2 : L2.St} {η η1 η2 : Nv} {js ks : List Nat} (h : Stored σ σ1 η η1 js) (k : Stored σ1 σ2 η1 η2 ks) : Stored σ σ2 η η2 (js ++ ks) where
  len := k.len.trans h.len
  rest := fun j n => by
    rw [List.mem_append, not_or] at n
    rw [k.rest j n.2, h.rest j n.1]
  own := fun i xs e => by
    obtain ⟨n1, e1⟩ := k.own i xs e
    obtain ⟨n2, e2⟩ := h.own i xs e1
    exact ⟨by rw [List.mem_append, not_or]; exact ⟨n2, n1⟩, e2⟩
def gD (K : PySem.W.Frag) (T : Tgt) (js : List Nat) : TG := fun v σ H Q => ∃ η A x η', EnvD K H A σ η ∧ Dp K (hid A H) v x ∧ T x η = some η' ∧ ∀ σ', EnvD K H A σ' η' → Stored σ σ' η η' js → Q σ' H
def gsD (K : PySem.W.Frag) (T : Tgts) (js : List Nat) : TGs := fun vs σ H Q => ∃ η A xs η', EnvD K H A σ η ∧ DpAll K (hid A H) vs xs ∧ T xs η = some η' ∧ ∀ σ', EnvD K H A σ' η' → Stored σ σ' η η' js → Q σ' H
def TT' (X : Cx) (tg : Expr) (T : Tgt) (js : List Nat) : Prop := PG X tg (gD X.K T js)
def TTs (X : Cx) (tgs : List Expr) (T : Tgts) (js : List Nat) : Prop := PGs X tgs (gsD X.K T js)
theorem pgW {t t' : TG} (h : PG X e t) (k : ∀ v σ H Q, t' v σ H Q → t v σ H Q) : PG X e t' := ⟨fun pins s σ H v u Q r I q => h.run pins s σ H v u Q r I (k _ _ _ _ q)⟩
theorem pgsW {es : List Expr} {t t' : TGs} (h : PGs X es t) (k : ∀ v σ H Q, t' v σ H Q → t v σ H Q) : PGs X es t' := ⟨fun pins s σ H v u Q r I q => h.run pins s σ H v u Q r I (k _ _ _ _ q)⟩
def gN (i : Nat) : Tgt := fun x η => some (η.set i (.d x))
theorem EnvD.set {K : PySem.W.Frag} {H : Hp} {A : List Addr} {σ : L2.St} {η : Nv} {i : Nat} {v : V} {x : D} (E : EnvD K H A σ η) (q : Dp K (hid A H) v x) : EnvD K H A (σ.set i (some v)) (η.set i (.d x)) where
  len := by rw [List.length_set, List.length_set, E.len]
  at_ := fun j s e => by
    by_cases hj : i = j
    · subst hj
      have hl : i < η.length := by
        have := (List.getElem?_eq_some_iff.mp e).1
        rwa [List.length_set] at this
      rw [List.getElem?_set_self hl] at e
      cases e
      exact ⟨some v, by rw [List.getElem?_set_self (by rw [E.len]; exact hl)], q⟩
    · rw [List.getElem?_set_ne hj] at e ⊢
      exact E.at_ j s e
  ap := fun j k a xs ys e1 e2 e3 e4 => by
    by_cases hj : i = j
    · subst hj
      by_cases hl : i < η.length
      · rw [List.getElem?_set_self hl] at e1
        cases e1
      · rw [List.getElem?_eq_none (by rw [List.length_set]; omega)] at e1
        cases e1
    · by_cases hk : i = k
      · subst hk
        by_cases hl : i < η.length
        · rw [List.getElem?_set_self hl] at e2
          cases e2
        · rw [List.getElem?_eq_none (by rw [List.length_set]; omega)] at e2
          cases e2
      · rw [List.getElem?_set_ne hj] at e1 e3
        rw [List.getElem?_set_ne hk] at e2 e4
        exact E.ap j k a xs ys e1 e2 e3 e4
  tr := E.tr
theorem own_set {η : Nv} {i j : Nat} {x : D} {xs : OL} (h : (η.set i (.d x))[j]? = some (.own xs)) : j ≠ i ∧ η[j]? = some (.own xs) := by
  by_cases hj : i = j
  · subst hj
    by_cases hl : i < η.length
    · rw [List.getElem?_set_self hl] at h
      cases h
    · rw [List.getElem?_eq_none (by rw [List.length_set]; omega)] at h
      cases h
  · rw [List.getElem?_set_ne hj] at h
    exact ⟨fun z => hj z.symm, h⟩
theorem g_name (i : Nat) {x : Str} (hN : X.N.Nodup) (hi : X.N[i]? = some x := by rfl) (hx : Loc X.env.scope x := by first | exact Or.inl rfl | exact Or.inr rfl) (hf : X.fn x = true ∨ X.env.scope.names.lookup x = some .local := by first | exact .inl rfl | exact .inr rfl) : TT' X (.Name x pos) (gN i) [i] :=
  pgW (pg_name hN hi hx hf) fun v σ H Q ⟨η, A, x, η', E, q, e, k⟩ => by
    cases e
    refine k _ (E.set q) ⟨List.length_set, fun j n => ?_, fun j xs e => ?_⟩
    · rw [List.getElem?_set_ne fun z => n (by rw [z]; exact List.mem_cons_self)]
    · obtain ⟨n, e⟩ := own_set e
      exact ⟨by simpa using n, e⟩
def gs0 : Tgts := fun xs η => match xs with
  | [] => some η
  | _ => none
def gsC (T : Tgt) (U : Tgts) : Tgts := fun xs η => match xs with
  | x :: r => (T x η).bind (U r)
  | _ => none
theorem g_nil : TTs X [] gs0 [] := pgsW pgs_nil fun v σ H Q ⟨η, A, xs, η', E, q, e, k⟩ => by
  unfold gs0 at e
  split at e
  · cases e
    cases q
    exact ⟨rfl, k σ E ⟨rfl, fun _ _ => rfl, fun i xs e => ⟨by simp, e⟩⟩⟩
  · cases e
theorem g_cons {es : List Expr} {T : Tgt} {U : Tgts} {js ks : List Nat} (h1 : TT' X e T js) (h2 : TTs X es U ks) (hs : (assignEach (e :: es) X.env).map (·.2) = assign e X.env :: (assignEach es X.env).map (·.2) := by rfl) : TTs X (e :: es) (gsC T U) (js ++ ks) := pgsW (pgs_cons h1 h2 hs) fun v σ H Q ⟨η, A, xs, η', E, q, e, k⟩ => by
  unfold gsC at e
  split at e
  · rename_i x r
    cases q with
    | cons q1 q2 =>
      cases e1 : T x η with
      | none => rw [e1] at e; cases e
      | some η1 =>
        rw [e1] at e
        exact ⟨_, _, rfl, η, A, x, η1, E, q1, e1, fun σ1 E1 S1 => ⟨η1, A, r, η', E1, q2, e, fun σ2 E2 S2 => k σ2 E2 (S1.trans S2)⟩⟩
  · cases e
def gT (n : Nat) (U : Tgts) : Tgt := fun x η => match x with
  | .tuple xs => if xs.length = n then U xs η else none
  | _ => none
theorem g_tup {es : List Expr} {k : Nat} {U : Tgts} {js : List Nat} {n : Nat} (hc : X.calm = true) (h : TTs X es U js) (hn : (assignEach es X.env).length = n := by rfl) (hst : (assignEach es X.env).findIdx? (·.1) = none := by rfl) : TT' X (.Tuple es k pos) (gT n U) js := by
  refine pgW (pg_tup hc h hn hst) fun v σ H Q ⟨η, A, x, η', E, q, e, k⟩ => ?_
  unfold gT at e
  split at e
  · split at e
    · rename_i hl
      cases q with
      | tup h1 h2 => exact ⟨_, _, rfl, sqT_same (hid_le A H) h1, by rw [DpAll_length h2]; exact hl, η, A, _, η', E, h2, e, k⟩
    · cases e
  · cases e

/-! ### what is walked -/
structure Walks (K : PySem.W.Frag) (J : It) (H1 : Hp) (A : List Addr) (ds : List D) : Prop where
  step : ∀ (i : Nat) (x : D), ds[i]? = some x → ∀ (A' : List Addr) (H2 : Hp), Same (hid A H1) (hid A' H2) → (∀ p ∈ A', H2 p ≠ none) → J.go i H2 ∧ ∀ v H3, J.yld i H2 v H3 → Same H2 H3 ∧ Dp K (hid A' H3) v x
  stop : ∀ (A' : List Addr) (H2 : Hp), Same (hid A H1) (hid A' H2) → J.stop ds.length H2
def PostI (K : PySem.W.Frag) (mg : Str → Option Value) (W : WX) (σ : L2.St) (A : List Addr) (H : Hp) (r : R (List D)) (Q : It → Hp → Prop) : Prop :=
  match r with
  | .ok ds => ∀ J H', Same H H' → Walks K J H' A ds → Q J H'
  | .ex c w p => ∀ cls dd H', Same H H' → ExR K mg (hid A H') cls dd c w p → W cls dd σ H'
  | .no => False
def tI (K : PySem.W.Frag) (mg : Str → Option Value) (W : WX) (F : Nv → R (List D)) : TI := fun σ H Q => ∃ η A, EnvD K H A σ η ∧ PostI K mg W σ A H (F η) Q
def TI' (X : Cx) (W : WX) (tg iter : Expr) (F : Nv → R (List D)) : Prop := PI X tg iter (tI X.K X.mg W F)
theorem piW {t t' : TI} (h : PI X tg iter t) (k : ∀ σ H Q, t' σ H Q → t σ H Q) : PI X tg iter t' := ⟨fun pins s σ H Q I q => h.run pins s σ H Q I (k _ _ _ q)⟩
theorem walks_list {K : PySem.W.Frag} {H1 : Hp} {A : List Addr} {a : Addr} {vs : List V} {ds : List D} (h1 : SqL K (hid A H1) a vs) (q : DpAll K (hid A H1) vs ds) : Walks K (Itl K a) H1 A ds where
  step := fun i x e A' H2 s _ => by
    obtain ⟨v, e1, q1⟩ := DpAll_get q e
    have h2 : SqL K H2 a vs := (hid_le A' H2).seq (s.seq h1)
    refine ⟨⟨vs, v, h2, e1⟩, fun u H3 y => ?_⟩
    obtain ⟨rfl, y⟩ := y
    have z := y vs h2
    rw [e1] at z
    cases z
    exact ⟨Same.refl _, Dp_mono q1 s⟩
  stop := fun A' H2 s => ⟨vs, (hid_le A' H2).seq (s.seq h1), Nat.le_of_eq (DpAll_length q)⟩
theorem walks_tup {K : PySem.W.Frag} {H1 : Hp} {A : List Addr} {a : Addr} {vs : List V} {ds : List D} (h1 : SqT K (hid A H1) a vs) (q : DpAll K (hid A H1) vs ds) : Walks K (Itt K a) H1 A ds where
  step := fun i x e A' H2 s _ => by
    obtain ⟨v, e1, q1⟩ := DpAll_get q e
    have h2 : SqT K H2 a vs := sqT_same (hid_le A' H2) (sqT_same s h1)
    refine ⟨⟨vs, v, h2, e1⟩, fun u H3 y => ?_⟩
    obtain ⟨rfl, y⟩ := y
    have z := y vs h2
    rw [e1] at z
    cases z
    exact ⟨Same.refl _, Dp_mono q1 s⟩
  stop := fun A' H2 s => ⟨vs, sqT_same (hid_le A' H2) (sqT_same s h1), Nat.le_of_eq (DpAll_length q)⟩
def asL : D → R (List D)
  | .list xs => .ok xs
  | _ => .no
def asT : D → R (List D)
  | .tuple xs => .ok xs
  | _ => .no
def iL (F : Nv → R D) : Nv → R (List D) := fun η => (F η).bind asL
def iT (F : Nv → R D) : Nv → R (List D) := fun η => (F η).bind asT
theorem i_list (h : TD X W iter F) : TI' X W tg iter (iL F) := piW (pi_list h) fun σ H Q ⟨η, A, E, p0⟩ => by
  have p : PostI X.K X.mg W σ A H ((F η).bind asL) Q := p0
  refine (show tR X.K X.mg W (rD X.K) F σ H _ from ⟨η, A, E, ?_⟩)
  cases e1 : F η with
  | ex c w q => rw [e1] at p; exact p
  | no => rw [e1] at p; exact p
  | ok d =>
    rw [e1] at p
    intro v H1 s1 q1
    cases d with
    | list xs =>
      cases q1 with
      | lst h1 h2 => exact ⟨_, rfl, ⟨_, (hid_le A H1).seq h1⟩, p _ H1 s1 (walks_list h1 h2)⟩
    | _ => exact False.elim p
theorem i_tup (h : TD X W iter F) : TI' X W tg iter (iT F) := piW (pi_tup h) fun σ H Q ⟨η, A, E, p0⟩ => by
  have p : PostI X.K X.mg W σ A H ((F η).bind asT) Q := p0
  refine (show tR X.K X.mg W (rD X.K) F σ H _ from ⟨η, A, E, ?_⟩)
  cases e1 : F η with
  | ex c w q => rw [e1] at p; exact p
  | no => rw [e1] at p; exact p
  | ok d =>
    rw [e1] at p
    intro v H1 s1 q1
    cases d with
    | tuple xs =>
      cases q1 with
      | tup h1 h2 => exact ⟨_, rfl, ⟨_, sqT_same (hid_le A H1) h1⟩, p _ H1 s1 (walks_tup h1 h2)⟩
    | _ => exact False.elim p
def rangeD (lo : Int) (n : Nat) : List D := (List.range n).map fun i => PyData.int (lo + (i : Nat))
theorem walks_range {K : PySem.W.Frag} {H1 : Hp} {A : List Addr} {lo : Int} {n : Nat} : Walks K (Itr lo n) H1 A (rangeD lo n) where
  step := fun i x e A' H2 s _ => by
    unfold rangeD at e
    rw [List.getElem?_map] at e
    by_cases hi : i < n
    · rw [List.getElem?_range hi] at e
      cases e
      refine ⟨hi, fun u H3 y => ?_⟩
      obtain ⟨rfl, rfl⟩ := y
      exact ⟨Same.refl _, .int _⟩
    · rw [List.getElem?_eq_none (by simp; omega)] at e
      cases e
  stop := fun A' H2 s => by
    unfold rangeD
    rw [List.length_map, List.length_range]
    exact Nat.le_refl _
def rng1 (ds : List D) : R (List D) := match ds with
  | [.int j] => if -(2 ^ 62) ≤ j ∧ j < 2 ^ 62 then .ok (rangeD 0 j.toNat) else .no
  | _ => .no
def rng2 (ds : List D) : R (List D) := match ds with
  | [.int i, .int j] => if -(2 ^ 62) ≤ i ∧ i < 2 ^ 62 ∧ -(2 ^ 62) ≤ j ∧ j < 2 ^ 62 then .ok (rangeD i (j - i).toNat) else .no
  | _ => .no
def iR1 (Fs : Nv → R (List D)) : Nv → R (List D) := fun η => (Fs η).bind rng1
def iR2 (Fs : Nv → R (List D)) : Nv → R (List D) := fun η => (Fs η).bind rng2
theorem vO_int {K : PySem.W.Frag} {H : Hp} {A : List Addr} {v : V} {i : Int} (h : vO K H A v (.int i)) : v = .int i := rO_int h
theorem allI1 {K : PySem.W.Frag} {H : Hp} {A : List Addr} : ∀ {vs : List V} {i : Int}, AllV (vO K) H A vs [.int i] → vs = [.int i]
  | [v], i, h => by rw [vO_int h.1]
  | [], _, h => h.elim
  | _ :: _ :: _, _, h => h.2.elim
theorem allI2 {K : PySem.W.Frag} {H : Hp} {A : List Addr} : ∀ {vs : List V} {i j : Int}, AllV (vO K) H A vs [.int i, .int j] → vs = [.int i, .int j]
  | [v, w], i, j, h => by rw [vO_int h.1, vO_int h.2.1]
  | [], _, _, h => h.elim
  | [_], _, _, h => h.2.elim
  | _ :: _ :: _ :: _, _, _, h => h.2.2.elim
theorem i_range1 {Fs : Nv → R (List D)} {p : Pos} (hg : Gl X "range") (hm : X.mg "range" = none) (ha : TAs X W (vO X.K) [a] Fs) (hs : starEach [a] X.env = [(false, eval a X.env)] := by rfl) : TI' X W tg (.Call (.Name "range" p) [a] [] pos) (iR1 Fs) := piW (pi_range1 hg hm ha hs) fun σ H Q ⟨η, A, E, p0⟩ => by
  have p : PostI X.K X.mg W σ A H ((Fs η).bind rng1) Q := p0
  refine (show tA X.K X.mg W (vO X.K) Fs σ H _ from ⟨η, A, E, ?_⟩)
  cases e1 : Fs η with
  | ex c w q => rw [e1] at p; exact p
  | no => rw [e1] at p; exact p
  | ok ds =>
    rw [e1] at p
    have p : PostI X.K X.mg W σ A H (rng1 ds) Q := p
    intro vs H1 s1 q1
    unfold rng1 at p
    split at p
    · split at p
      · rename_i h
        exact ⟨_, allI1 q1, h.1, h.2, p _ H1 s1 walks_range⟩
      · exact False.elim p
    · exact False.elim p
theorem i_range2 {Fs : Nv → R (List D)} {p : Pos} (hg : Gl X "range") (hm : X.mg "range" = none) (ha : TAs X W (vO X.K) [a, b] Fs) (hs : starEach [a, b] X.env = [(false, eval a X.env), (false, eval b X.env)] := by rfl) (hs2 : starEach [b] X.env = [(false, eval b X.env)] := by rfl) :
    TI' X W tg (.Call (.Name "range" p) [a, b] [] pos) (iR2 Fs) := piW (pi_range2 hg hm ha hs hs2) fun σ H Q ⟨η, A, E, p0⟩ => by
  have p : PostI X.K X.mg W σ A H ((Fs η).bind rng2) Q := p0
  refine (show tA X.K X.mg W (vO X.K) Fs σ H _ from ⟨η, A, E, ?_⟩)
  cases e1 : Fs η with
  | ex c w q => rw [e1] at p; exact p
  | no => rw [e1] at p; exact p
  | ok ds =>
    rw [e1] at p
    have p : PostI X.K X.mg W σ A H (rng2 ds) Q := p
    intro vs H1 s1 q1
    unfold rng2 at p
    split at p
    · split at p
      · rename_i h
        exact ⟨_, _, allI2 q1, ⟨h.1, h.2.1, h.2.2.1, h.2.2.2⟩, p _ H1 s1 walks_range⟩
      · exact False.elim p
    · exact False.elim p

/-! ### comprehensions -/
def wipeE (η : Nv) : List Nat → Nv
  | [] => η
  | v :: vs => (wipeE η vs).set v .no
theorem wipe_get (σ : L2.St) : ∀ (vs : List Nat) (j : Nat), (wipe σ vs)[j]? = if j ∈ vs then (σ[j]?).map fun _ => none else σ[j]?
  | [], j => by simp [wipe]
  | v :: vs, j => by
    unfold wipe
    have ih := wipe_get σ vs j
    by_cases hj : v = j
    · subst hj
      rw [if_pos List.mem_cons_self]
      by_cases hl : v < (wipe σ vs).length
      · rw [List.getElem?_set_self hl]
        rw [wipe_length] at hl
        rw [List.getElem?_eq_getElem hl]
        rfl
      · rw [List.getElem?_eq_none (by rw [List.length_set]; omega)]
        rw [wipe_length] at hl
        rw [List.getElem?_eq_none (by omega)]
        rfl
    · rw [List.getElem?_set_ne hj, ih]
      have : (j ∈ v :: vs) ↔ j ∈ vs := ⟨fun m => (List.mem_cons.mp m).elim (fun z => absurd z.symm hj) id, List.mem_cons_of_mem _⟩
      simp only [this]
theorem wipeE_get (η : Nv) : ∀ (vs : List Nat) (j : Nat), (wipeE η vs)[j]? = if j ∈ vs then (η[j]?).map fun _ => Sl.no else η[j]?
  | [], j => by simp [wipeE]
  | v :: vs, j => by
    unfold wipeE
    have ih := wipeE_get η vs j
    have hlen : (wipeE η vs).length = η.length := by
      clear ih
      induction vs with
      | nil => rfl
      | cons w ws ih => unfold wipeE; rw [List.length_set, ih]
    by_cases hj : v = j
    · subst hj
      rw [if_pos List.mem_cons_self]
      by_cases hl : v < (wipeE η vs).length
      · rw [List.getElem?_set_self hl]
        rw [hlen] at hl
        rw [List.getElem?_eq_getElem hl]
        rfl
      · rw [List.getElem?_eq_none (by rw [List.length_set]; omega)]
        rw [hlen] at hl
        rw [List.getElem?_eq_none (by omega)]
        rfl
    · rw [List.getElem?_set_ne hj, ih]
      have : (j ∈ v :: vs) ↔ j ∈ vs := ⟨fun m => (List.mem_cons.mp m).elim (fun z => absurd z.symm hj) id, List.mem_cons_of_mem _⟩
      simp only [this]
theorem wipeE_length (η : Nv) : ∀ vs : List Nat, (wipeE η vs).length = η.length
  | [] => rfl
  | v :: vs => by unfold wipeE; rw [List.length_set, wipeE_length η vs]
theorem EnvD.wipe {K : PySem.W.Frag} {H : Hp} {A : List Addr} {σ : L2.St} {η : Nv} (E : EnvD K H A σ η) (vs : List Nat) : EnvD K H A (wipe σ vs) (wipeE η vs) where
  len := by rw [wipe_length, wipeE_length, E.len]
  at_ := fun j s e => by
    rw [wipeE_get] at e
    rw [wipe_get]
    split at e
    · rename_i hj
      cases q : η[j]? with
      | none => rw [q] at e; cases e
      | some s0 =>
        rw [q] at e
        cases e
        obtain ⟨o, e1, _⟩ := E.at_ j s0 q
        exact ⟨none, by rw [if_pos hj, e1]; rfl, trivial⟩
    · rename_i hj
      rw [if_neg hj]
      exact E.at_ j s e
  ap := fun j k a xs ys e1 e2 e3 e4 => by
    rw [wipeE_get] at e1 e2
    rw [wipe_get] at e3 e4
    split at e1
    · cases q : η[j]? <;> (rw [q] at e1; cases e1)
    · rename_i hj
      rw [if_neg hj] at e3
      split at e2
      · cases q : η[k]? <;> (rw [q] at e2; cases e2)
      · rename_i hk
        rw [if_neg hk] at e4
        exact E.ap j k a xs ys e1 e2 e3 e4
  tr := E.tr
/-- .. where nothing is raised -/
def R.bindN {α β : Type} : R α → (α → R β) → R β
  | .ok a, f => f a
  | _, _ => .no
@[simp] theorem R.ok_bindN {α β : Type} (a : α) (f : α → R β) : (R.ok a).bindN f = f a := Eq.trans rfl rfl
theorem R.bindN_ok {α β : Type} {r : R α} {f : α → R β} {y : β} (h : r.bindN f = .ok y) : ∃ x, r = .ok x ∧ f x = .ok y := by
  cases r with
  | ok a => exact ⟨a, rfl, h⟩
  | ex c w p => cases h
  | no => cases h
def compD (T : Tgt) (C : Nv → R Bool) (El : Nv → R D) (η : Nv) : List D → R (List D)
  | [] => .ok []
  | x :: xs => match T x η with
    | none => .no
    | some η1 => (C η1).bindN fun b => if b then (El η1).bindN fun y => (compD T C El η xs).bindN fun ys => .ok (y :: ys) else compD T C El η xs
def compE (Fi : Nv → R (List D)) (T : Tgt) (C : Nv → R Bool) (El : Nv → R D) (vs : List Nat) : Nv → R D := fun η => (Fi η).bind fun xs => (compD T C El (wipeE η vs) xs).bindN fun ys => if ys.length ≤ lineN then .ok (.list ys) else .no
def W0 : WX := fun _ _ _ _ => False
theorem stored_wipe {σ σ' : L2.St} {η η' : Nv} {js vs : List Nat} (S : Stored (wipe σ vs) σ' η η' js) (h : ∀ j ∈ js, j ∈ vs) (hl : σ'.length = σ.length) : wipe σ' vs = wipe σ vs := by
  apply List.ext_getElem?
  intro j
  rw [wipe_get, wipe_get]
  by_cases hj : j ∈ vs
  · rw [if_pos hj, if_pos hj]
    by_cases hb : j < σ.length
    · rw [List.getElem?_eq_getElem hb, List.getElem?_eq_getElem (by rw [hl]; exact hb)]
      rfl
    · rw [List.getElem?_eq_none (by omega), List.getElem?_eq_none (by omega)]
  · rw [if_neg hj, if_neg hj, S.rest j fun m => hj (h j m), wipe_get, if_neg hj]
theorem lc_t {Fi : Nv → R (List D)} {T : Tgt} {js vs : List Nat} {C : Nv → R Bool} {El : Nv → R D} (hj : ∀ j ∈ js, j ∈ vs) {σ : L2.St} {H : Hp} {Q : VK} (h : tR X.K X.mg W (rF X.K) (compE Fi T C El vs) σ H Q) :
    tLc (tI X.K X.mg W Fi) (gD X.K T js) (tT X.K X.mg W0 C) (tR X.K X.mg W0 (rD X.K) El) vs σ H Q := by
  obtain ⟨η, A, E, p0⟩ := h
  have p : Post X.K X.mg W (rF X.K) σ A H ((Fi η).bind fun xs => (compD T C El (wipeE η vs) xs).bindN fun ys => if ys.length ≤ lineN then .ok (.list ys) else .no) Q := p0
  refine (show tI X.K X.mg W Fi σ H _ from ⟨η, A, E, ?_⟩)
  cases e1 : Fi η with
  | ex c w q => rw [e1] at p; exact p
  | no => rw [e1] at p; exact p
  | ok ds =>
    rw [e1] at p
    have p : Post X.K X.mg W (rF X.K) σ A H ((compD T C El (wipeE η vs) ds).bindN fun ys => if ys.length ≤ lineN then .ok (.list ys) else .no) Q := p
    cases e2 : compD T C El (wipeE η vs) ds with
    | ex c w q => rw [e2] at p; exact False.elim p
    | no => rw [e2] at p; exact False.elim p
    | ok ys =>
      rw [e2] at p
      have p : Post X.K X.mg W (rF X.K) σ A H (if ys.length ≤ lineN then .ok (.list ys) else .no) Q := p
      split at p
      · rename_i hz
        intro J H1 s1 wk M nM
        have E1 := E.same s1
        refine ⟨fun i m H2 => m + i = ds.length ∧ Same H1 H2 ∧ ∃ done rest acc, ys = done ++ rest ∧ compD T C El (wipeE η vs) (ds.drop i) = .ok rest ∧ H2 M = some (.lst acc) ∧ DpAll X.K (hid (M :: A) H2) acc done,
          ⟨ds.length, rfl, same_new nM, [], ys, [], rfl, e2, upd_same, .nil⟩, fun i m H2 hw => ?_⟩
        obtain ⟨em, s2, done, rest, acc, ey, er, hM, hd⟩ := hw
        have sh : Same (hid A H1) (hid (M :: A) H2) := hid_new s2 nM
        have E2 : EnvD X.K H2 (M :: A) σ η := E1.new s2 nM (by rw [hM]; exact fun z => nomatch z)
        cases hx : ds[i]? with
        | none =>
          have hi : ds.length ≤ i := List.getElem?_eq_none_iff.mp hx
          have ei : i = ds.length := by omega
          subst ei
          rw [List.drop_length] at er
          have er : R.ok ([] : List D) = .ok rest := er
          cases er
          rw [List.append_nil] at ey
          subst ey
          exact .inl ⟨wk.stop _ _ sh, p _ H2 (s1.trans s2) ⟨M, acc, _, rfl, rfl, s1.free nM, hM, hd⟩⟩
        | some x =>
          have hi : i < ds.length := (List.getElem?_eq_some_iff.mp hx).1
          have ed : ds.drop i = x :: ds.drop (i + 1) := by
            rw [List.drop_eq_getElem_cons hi]
            congr 1
            exact (List.getElem?_eq_some_iff.mp hx).2
          obtain ⟨g1, g2⟩ := wk.step i x hx _ _ sh E2.tr
          refine .inr ⟨g1, fun H' => ∃ m', m' < m ∧ (m' + (i + 1) = ds.length ∧ Same H1 H' ∧ ∃ done rest acc, ys = done ++ rest ∧ compD T C El (wipeE η vs) (ds.drop (i + 1)) = .ok rest ∧ H' M = some (.lst acc) ∧ DpAll X.K (hid (M :: A) H') acc done), fun H' hN => hN, fun v H3 y => ?_⟩
          obtain ⟨s3, qv⟩ := g2 v H3 y
          rw [ed] at er
          unfold compD at er
          cases et : T x (wipeE η vs) with
          | none => rw [et] at er; cases er
          | some η1 =>
            rw [et] at er
            obtain ⟨bk, ec, er⟩ := R.bindN_ok er
            refine ⟨wipeE η vs, M :: A, x, η1, (E2.same s3).wipe vs, qv, et, fun σ2 E3 S => ⟨stored_wipe S hj (S.len.trans (wipe_length σ vs)), ?_⟩⟩
            · refine (show tT X.K X.mg W0 C σ2 H3 _ from ⟨η1, M :: A, E3, ?_⟩)
              rw [ec]
              intro H4 s4
              cases bk with
              | false =>
                refine iteF ⟨m - 1, by omega, by omega, (s2.trans s3).trans s4, done, rest, acc, ey, er, s4 _ _ (s3 _ _ hM), DpAll_mono hd (hid_same (s3.trans s4))⟩
              | true =>
                obtain ⟨y, ee, er⟩ := R.bindN_ok er
                obtain ⟨rest', er', e3⟩ := R.bindN_ok er
                cases e3
                refine iteT (show tR X.K X.mg W0 (rD X.K) El σ2 H4 _ from ⟨η1, M :: A, E3.same s4, ?_⟩)
                rw [ee]
                intro w H5 s5 qw
                have sM : H5 M = some (.lst acc) := s5 _ _ (s4 _ _ (s3 _ _ hM))
                have hidM : hid (M :: A) (upd H5 M (.lst (acc ++ [w]))) = hid (M :: A) H5 := hid_upd List.mem_cons_self
                have hl : acc.length = done.length := DpAll_length hd
                refine ⟨acc, sM, ?_, m - 1, by omega, by omega, ?_, done ++ [y], rest', acc ++ [w], by rw [ey, List.append_assoc]; rfl, er', upd_same, ?_⟩
                · rw [line_eq, hl]
                  have : ys.length = done.length + (rest'.length + 1) := by rw [ey, List.length_append, List.length_cons]
                  omega
                · intro b o eb
                  rw [upd_ne fun z => by subst z; rw [nM] at eb; cases eb]
                  exact s5 _ _ (s4 _ _ (s3 _ _ (s2 _ _ eb)))
                · rw [hidM]
                  exact DpAll_append (DpAll_mono hd (hid_same ((s3.trans s4).trans s5))) (.cons qw .nil)
      · exact False.elim p
end
end Bd
/-! D5: comprehensions as values; statements; defs and their calls. -/
namespace Bd
open PySem L2

section
variable {X : Cx} {W : WX} {rl : Rl} {a b c e tg iter elt : Expr} {Fa Fb Fc F : Nv → R D} {Ga Gb G : Nv → R Bool} {pos : Pos}
theorem cs_nil {X : Cx} : PTs X [] (tT X.K X.mg W0 fun _ => .ok true) := ⟨fun pins s σ H Q I q => pts_nil.run pins s σ H Q I (by obtain ⟨η, A, E, p⟩ := q; exact p H (Same.refl _))⟩
theorem cs_one {X : Cx} {c : Expr} {G : Nv → R Bool} (h : TB X W0 c G) : PTs X [c] (tT X.K X.mg W0 G) := pts_one h
section
variable {ifs : List Expr} {scope : Scope} {own : List (Str × Nat)} {Fi : Nv → R (List D)} {T : Tgt} {js : List Nat} {C : Nv → R Bool} {El : Nv → R D}
theorem t_lc (hc : X.calm = true) (hN : X.N.Nodup) (hi : TI' X W tg iter Fi) (ok : BlkOk X.N X.env.scope scope own)
    (hg : ∀ (s : Shared) (H : Hp) (C : Addr) (cl : List (Str × Addr)) (fp : List Addr), TT' (X.blk s H scope (compEnvC scope cl C X.env) fp) tg T js)
    (ht : ∀ (s : Shared) (H : Hp) (D : Addr) (cl : List (Str × Addr)) (fp : List Addr), PTs (X.blk s H scope (compEnvC scope cl D X.env) fp) ifs (tT X.K X.mg W0 C))
    (he : ∀ (s : Shared) (H : Hp) (D : Addr) (cl : List (Str × Addr)) (fp : List Addr), TD (X.blk s H scope (compEnvC scope cl D X.env) fp) W0 elt El)
    {vs : List Nat} (hv : own.map (·.2) = vs := by rfl) (hj : ∀ j ∈ js, j ∈ own.map (·.2) := by decide) (hs : ∀ x, foldedSetIterable iter X.env x = pure x := by intro _; rfl) : TF X W (.ListComp elt [⟨tg, iter, ifs, 0⟩] scope pos) (compE Fi T C El vs) := by
  subst hv
  exact peW (pe_lc hc hN hi ok (fun s H C cl fp => show PG _ tg (gD X.K T js) from hg s H C cl fp) ht (fun s H C cl fp => show PE _ elt (tR X.K X.mg W0 (rD X.K) El) from he s H C cl fp) hs) fun σ H Q h => lc_t hj h
end

/-! ### statements -/
structure EnvS (K : PySem.W.Frag) (M : List Addr) (H0 : Hp) (A0 : List Addr) (H : Hp) (B : List Addr) (σ : L2.St) (η : Nv) : Prop where
  env : EnvD K H (B ++ A0) σ η
  same : Same (hid M H0) (hid M H)
  mA : (∀ p ∈ M, p ∈ A0) ∧ ∀ p ∈ A0, H0 p ≠ none
  new : ∀ p ∈ B, H0 p = none
  own : ∀ (i : Nat) (a : Addr) (xs : OL), η[i]? = some (.own xs) → σ[i]? = some (some (.ref a)) → if xs.b then a ∈ B else a ∈ M
inductive Rs where
  | nx (η : Nv) | rt (d : D) (η : Nv) | bk (η : Nv) | ct (η : Nv) | ex (c w : Str) (p : D) | no
/-- where a statement leads -/
def Goes (K : PySem.W.Frag) (M : List Addr) (H0 : Hp) (A0 : List Addr) (H : Hp) (B : List Addr) (η : Nv) (P : L2.St → Hp → Prop) : Prop :=
  ∀ σ' H' B', EnvS K M H0 A0 H' B' σ' η → Same (hid (B ++ A0) H) (hid (B' ++ A0) H') → P σ' H'
def PostS (K : PySem.W.Frag) (mg : Str → Option Value) (W : WX) (rl : Rl) (M : List Addr) (H0 : Hp) (A0 : List Addr) (H : Hp) (B : List Addr) (r : Rs) (E : Ends) : Prop :=
  match r with
  | .nx η => Goes K M H0 A0 H B η E.nx
  | .bk η => Goes K M H0 A0 H B η E.bk
  | .ct η => Goes K M H0 A0 H B η E.ct
  | .rt d η => ∀ v σ' H' B', EnvS K M H0 A0 H' B' σ' η → rl H0 H' A0 v d → E.rt v H'
  | .ex c w p => ∀ cls dd σ' H', Same (hid M H0) (hid M H') → ExR K mg (hid A0 H') cls dd c w p → W cls dd σ' H'
  | .no => False
theorem PostS.keep {K : PySem.W.Frag} {mg : Str → Option Value} {M : List Addr} {H0 : Hp} {A0 : List Addr} {H H1 : Hp} {B B1 : List Addr} {r : Rs} {E : Ends} (s : Same (hid (B ++ A0) H) (hid (B1 ++ A0) H1)) (h : PostS K mg W rl M H0 A0 H B r E) : PostS K mg W rl M H0 A0 H1 B1 r E := by
  cases r with
  | nx η => exact fun σ' H' B' e q => h σ' H' B' e (s.trans q)
  | bk η => exact fun σ' H' B' e q => h σ' H' B' e (s.trans q)
  | ct η => exact fun σ' H' B' e q => h σ' H' B' e (s.trans q)
  | rt d η => exact h
  | ex c w p => exact h
  | no => exact h
def tS (K : PySem.W.Frag) (mg : Str → Option Value) (W : WX) (rl : Rl) (M : List Addr) (H0 : Hp) (A0 : List Addr) (G : Nv → Rs) : TS := fun E σ H => ∃ η B, EnvS K M H0 A0 H B σ η ∧ PostS K mg W rl M H0 A0 H B (G η) E
/-- what is the same in a whole def: the wish, how its answer lies, the heap at its entry -/
structure Fx where
  W : WX
  rl : Rl
  M : List Addr
  H0 : Hp
  A0 : List Addr
def TS' (X : Cx) (f : Fx) (st : Stmt) (G : Nv → Rs) : Prop := PS X st (tS X.K X.mg f.W f.rl f.M f.H0 f.A0 G)
def TSs (X : Cx) (f : Fx) (st : List Stmt) (G : Nv → Rs) : Prop := PSs X st (tS X.K X.mg f.W f.rl f.M f.H0 f.A0 G)
variable {f : Fx} {st : Stmt} {sts : List Stmt} {Gs Gt : Nv → Rs}
theorem psW {t t' : TS} (h : PS X st t) (k : ∀ E σ H, t' E σ H → t E σ H) : PS X st t' := ⟨fun pins s σ H E I q => h.run pins s σ H E I (k _ _ _ q)⟩
theorem pssW {t t' : TS} (h : PSs X sts t) (k : ∀ E σ H, t' E σ H → t E σ H) : PSs X sts t' := ⟨fun pins s σ H E I q => h.run pins s σ H E I (k _ _ _ q)⟩
def Rs.bind : Rs → (Nv → Rs) → Rs
  | .nx η, f => f η
  | r, _ => r
def seqS (Gs Gt : Nv → Rs) : Nv → Rs := fun η => (Gs η).bind Gt
theorem ss_nil : TSs X f [] .nx := pssW pss_nil fun E σ H ⟨η, B, e, p⟩ => p σ H B e (Same.refl _)
theorem ss_cons (h1 : TS' X f st Gs) (h2 : TSs X f sts Gt) : TSs X f (st :: sts) (seqS Gs Gt) := pssW (pss_cons h1 h2) fun E σ H ⟨η, B, e, p0⟩ => by
  have p : PostS X.K X.mg f.W f.rl f.M f.H0 f.A0 H B ((Gs η).bind Gt) E := p0
  refine ⟨η, B, e, ?_⟩
  cases e1 : Gs η with
  | nx η1 =>
    rw [e1] at p
    exact fun σ' H' B' e' s => ⟨η1, B', e', PostS.keep s p⟩
  | _ => rw [e1] at p; exact p
theorem s_pass : TS' X f (.Pass pos) .nx := psW ps_pass fun E σ H ⟨η, B, e, p⟩ => p σ H B e (Same.refl _)
theorem s_break : TS' X f (.Break pos) .bk := psW ps_break fun E σ H ⟨η, B, e, p⟩ => p σ H B e (Same.refl _)
theorem s_continue : TS' X f (.Continue pos) .ct := psW ps_continue fun E σ H ⟨η, B, e, p⟩ => p σ H B e (Same.refl _)
theorem EnvS.step {K : PySem.W.Frag} {M : List Addr} {H0 : Hp} {A0 : List Addr} {H H1 : Hp} {B : List Addr} {σ : L2.St} {η : Nv} (e : EnvS K M H0 A0 H B σ η) (s : Same H H1) : EnvS K M H0 A0 H1 B σ η := ⟨e.env.same s, e.same.trans (hid_same s), e.mA, e.new, e.own⟩
theorem EnvS.free {K : PySem.W.Frag} {M : List Addr} {H0 : Hp} {A0 : List Addr} {H : Hp} {B : List Addr} {σ : L2.St} {η : Nv} {p : Addr} (e : EnvS K M H0 A0 H B σ η) (h : H p = none) : H0 p = none := by
  have n : p ∉ M := fun m => e.env.tr p (List.mem_append_right _ (e.mA.1 p m)) h
  have f := e.same.free (l := p) (by rw [hid_out n]; exact h)
  rwa [hid_out n] at f
/-- an expression's answer, then the statement's -/
def R.toS {α : Type} : R α → (α → Rs) → Rs
  | .ok a, f => f a
  | .ex c w p, _ => .ex c w p
  | .no, _ => .no
theorem hid_app {B A : List Addr} {H : Hp} : Same (hid (B ++ A) H) (hid A H) := hid_mono fun _ m => List.mem_append_right _ m
theorem exS {K : PySem.W.Frag} {mg : Str → Option Value} {H : Hp} {A B : List Addr} {cls : Value} {dd : Option Addr} {c w : Str} {p : D} (h : ExR K mg (hid (B ++ A) H) cls dd c w p) : ExR K mg (hid A H) cls dd c w p := by
  obtain ⟨m, dx, v, rfl, e, q⟩ := h
  exact ⟨m, dx, v, rfl, hid_app _ _ e, Dp_mono q hid_app⟩
theorem toS_R {g : Nv → D → Rs} {E : Ends} {σ : L2.St} {H : Hp} (h : tS X.K X.mg f.W f.rl f.M f.H0 f.A0 (fun η => (F η).toS (g η)) E σ H) {R1 : V → Hp → Prop}
    (k : ∀ (η : Nv) (B : List Addr) (H1 : Hp) (v : V) (d : D), EnvS X.K f.M f.H0 f.A0 H B σ η → EnvS X.K f.M f.H0 f.A0 H1 B σ η → Same H H1 → rl H H1 (B ++ f.A0) v d → PostS X.K X.mg f.W f.rl f.M f.H0 f.A0 H B (g η d) E → R1 v H1) : tR X.K X.mg f.W rl F σ H R1 := by
  obtain ⟨η, B, e, p0⟩ := h
  have p : PostS X.K X.mg f.W f.rl f.M f.H0 f.A0 H B ((F η).toS (g η)) E := p0
  refine ⟨η, B ++ f.A0, e.env, ?_⟩
  cases e1 : F η with
  | ok d =>
    rw [e1] at p
    have p : PostS X.K X.mg f.W f.rl f.M f.H0 f.A0 H B (g η d) E := p
    exact fun v H1 s q => k η B H1 v d e (e.step s) s q p
  | ex c w q =>
    rw [e1] at p
    exact fun cls dd H' s x => p cls dd σ H' (e.same.trans (hid_same s)) (exS x)
  | no => rw [e1] at p; exact p
/-- name = e -/
def setS (i : Nat) (F : Nv → R D) : Nv → Rs := fun η => (F η).toS fun x => .nx (η.set i (.d x))
theorem EnvS.set {K : PySem.W.Frag} {M : List Addr} {H0 : Hp} {A0 : List Addr} {H : Hp} {B : List Addr} {σ : L2.St} {η : Nv} {i : Nat} {v : V} {x : D} (e : EnvS K M H0 A0 H B σ η) (q : Dp K (hid (B ++ A0) H) v x) : EnvS K M H0 A0 H B (σ.set i (some v)) (η.set i (.d x)) where
  env := e.env.set q
  same := e.same
  mA := e.mA
  new := e.new
  own := fun j a xs h1 h2 => by
    obtain ⟨n, h1⟩ := own_set h1
    rw [List.getElem?_set_ne fun z => n z.symm] at h2
    exact e.own j a xs h1 h2
theorem s_set (i : Nat) {x : Str} {pos' : Pos} (hN : X.N.Nodup) (he : TD X f.W e F) (hi : X.N[i]? = some x := by rfl) (hx : Loc X.env.scope x := by first | exact Or.inl rfl | exact Or.inr rfl) (hs : swapsWith e (some (.Name x pos')) pos.line X.env = pure false := by rfl)
    (hf : X.fn x = true ∨ X.env.scope.names.lookup x = some .local := by first | exact .inl rfl | exact .inr rfl) : TS' X f (.Assign [.Name x pos'] e pos) (setS i F) :=
  psW (ps_set hN hi hx he hs hf) fun E σ H h => toS_R h fun η B H1 v d e0 e s q p => p _ H1 B (e.set q) (hid_same s)
/-- target = e -/
def asgS (T : Tgt) (F : Nv → R D) : Nv → Rs := fun η => (F η).toS fun x => match T x η with
  | some η' => .nx η'
  | none => .no
theorem s_asg {T : Tgt} {js : List Nat} (he : TD X f.W e F) (hg : TT' X tg T js) (hs : swapsWithSole [tg] e pos.line X.env = pure false := by rfl) (hw : swappedStores [tg] e X.env = pure none := by rfl) (h1 : (assignEach [tg] X.env).map (·.2) = [assign tg X.env] := by rfl) :
    TS' X f (.Assign [tg] e pos) (asgS T F) :=
  psW (ps_asg he hg hs hw h1) fun E σ H h => toS_R h fun η B H1 v d e0 e s q p => by
    cases et : T d η with
    | none => rw [et] at p; exact False.elim p
    | some η' =>
      rw [et] at p
      refine ⟨η, B ++ f.A0, d, η', e.env, q, et, fun σ' E' S => p σ' H1 B ⟨E', e.same, e.mA, e.new, fun j a xs h1 h2 => ?_⟩ (hid_same s)⟩
      obtain ⟨n, h1⟩ := S.own j xs h1
      rw [S.rest j n] at h2
      exact e.own j a xs h1 h2
/-- name = a new list, the def's own -/
def ownS (i : Nat) (F : Nv → R D) : Nv → Rs := fun η => (F η).toS fun x => match x with
  | .list xs => .nx (η.set i (.own ⟨true, xs⟩))
  | _ => .no
theorem EnvS.setOwn {K : PySem.W.Frag} {M : List Addr} {H0 : Hp} {A0 : List Addr} {H H1 : Hp} {B : List Addr} {σ : L2.St} {η : Nv} {i : Nat} {p : Addr} {vs : List V} {xs : List D} (e : EnvS K M H0 A0 H B σ η) (s : Same H H1) (hp : H p = none) (hp1 : H1 p = some (.lst vs)) (q : DpAll K (hid (p :: (B ++ A0)) H1) vs xs) :
    EnvS K M H0 A0 H1 (p :: B) (σ.set i (some (.ref p))) (η.set i (.own ⟨true, xs⟩)) := by
  have E1 : EnvD K H1 (p :: (B ++ A0)) σ η := e.env.new s hp (by rw [hp1]; exact fun z => nomatch z)
  have gt : ∀ (j : Nat) (sl : Sl), (η.set i (.own ⟨true, xs⟩))[j]? = some sl → (j = i ∧ i < η.length ∧ sl = .own ⟨true, xs⟩) ∨ (j ≠ i ∧ η[j]? = some sl) := fun j sl h => by
    by_cases hj : i = j
    · subst hj
      by_cases hl : i < η.length
      · rw [List.getElem?_set_self hl] at h
        cases h
        exact .inl ⟨rfl, hl, rfl⟩
      · rw [List.getElem?_eq_none (by rw [List.length_set]; omega)] at h
        cases h
    · rw [List.getElem?_set_ne hj] at h
      exact .inr ⟨fun z => hj z.symm, h⟩
  have ot : ∀ j, j ≠ i → (σ.set i (some (.ref p)))[j]? = σ[j]? := fun j n => List.getElem?_set_ne fun z => n z.symm
  have oi : i < η.length → (σ.set i (some (.ref p)))[i]? = some (some (.ref p)) := fun hl => List.getElem?_set_self (by rw [e.env.len]; exact hl)
  have fr : ∀ (j : Nat) (ys : OL), η[j]? = some (.own ys) → σ[j]? ≠ some (some (.ref p)) := fun j ys h z => by
    obtain ⟨o, e1, q1⟩ := e.env.at_ j _ h
    rw [z] at e1
    cases e1
    obtain ⟨_, ws, e2, _⟩ := q1
    rw [hp] at e2
    cases e2
  refine ⟨⟨by rw [List.length_set, List.length_set, e.env.len], fun j sl h => ?_, fun j k a ys zs h1 h2 h3 h4 => ?_, E1.tr⟩, e.same.trans (hid_same s), e.mA, fun b m => ?_, fun j a ys h1 h2 => ?_⟩
  · rcases gt j sl h with ⟨rfl, hl, rfl⟩ | ⟨n, h⟩
    · exact ⟨_, oi hl, List.mem_cons_self, vs, hp1, q⟩
    · rw [ot j n]
      exact E1.at_ j sl h
  · rcases gt j _ h1 with ⟨ej, hl, _⟩ | ⟨n, g1⟩
    · rcases gt k _ h2 with ⟨ek, _, _⟩ | ⟨n2, g2⟩
      · rw [ej, ek]
      · rw [ej, oi hl] at h3
        cases h3
        rw [ot k n2] at h4
        exact absurd h4 (fr k zs g2)
    · rcases gt k _ h2 with ⟨ek, hl, _⟩ | ⟨n2, g2⟩
      · rw [ek, oi hl] at h4
        cases h4
        rw [ot j n] at h3
        exact absurd h3 (fr j ys g1)
      · rw [ot j n] at h3
        rw [ot k n2] at h4
        exact E1.ap j k a ys zs g1 g2 h3 h4
  · rcases List.mem_cons.mp m with rfl | m
    · exact e.free hp
    · exact e.new b m
  · rcases gt j _ h1 with ⟨rfl, hl, _⟩ | ⟨n, h1⟩
    · rw [oi hl] at h2
      cases h2
      rename_i q0
      cases q0
      exact List.mem_cons_self
    · rw [ot j n] at h2
      have z := e.own j a ys h1 h2
      cases hb : ys.b with
      | true => rw [hb, if_pos rfl] at z; rw [if_pos rfl]; exact List.mem_cons_of_mem _ z
      | false => rw [hb, if_neg Bool.false_ne_true] at z; rw [if_neg Bool.false_ne_true]; exact z
theorem s_own (i : Nat) {x : Str} {pos' : Pos} (hN : X.N.Nodup) (he : TF X f.W e F) (hi : X.N[i]? = some x := by rfl) (hx : Loc X.env.scope x := by first | exact Or.inl rfl | exact Or.inr rfl) (hs : swapsWith e (some (.Name x pos')) pos.line X.env = pure false := by rfl)
    (hf : X.fn x = true ∨ X.env.scope.names.lookup x = some .local := by first | exact .inl rfl | exact .inr rfl) : TS' X f (.Assign [.Name x pos'] e pos) (ownS i F) :=
  psW (ps_set hN hi hx he hs hf) fun E σ H h => toS_R h fun η B H1 v d e0 e s q p => by
    obtain ⟨l, vs, ds, rfl, rfl, hp, hp1, qs⟩ := q
    exact p _ H1 (l :: B) (e0.setOwn s hp hp1 qs) (hid_new s hp)
/-- name = [.. for ..] -/
theorem s_setLc (i : Nat) {y : Str} {py spos : Pos} {ifs : List Expr} {scope : Scope} {own : List (Str × Nat)} {Fi : Nv → R (List D)} {T : Tgt} {js : List Nat} {C : Nv → R Bool} {El : Nv → R D} (hc : X.calm = true) (hN : X.N.Nodup)
    (hsw : swapsWith (.ListComp elt [⟨tg, iter, ifs, 0⟩] scope pos) (some (.Name y py)) spos.line X.env = pure true) (hi : TI' X f.W tg iter Fi) (ok : BlkOk X.N X.env.scope scope own)
    (hg : ∀ (s : Shared) (H : Hp) (C : Addr) (cl : List (Str × Addr)) (fp : List Addr), TT' (X.blk s H scope (compEnvC scope cl C X.env) fp) tg T js)
    (ht : ∀ (s : Shared) (H : Hp) (D : Addr) (cl : List (Str × Addr)) (fp : List Addr), PTs (X.blk s H scope (compEnvC scope cl D X.env) fp) ifs (tT X.K X.mg W0 C))
    (he : ∀ (s : Shared) (H : Hp) (D : Addr) (cl : List (Str × Addr)) (fp : List Addr), TD (X.blk s H scope (compEnvC scope cl D X.env) fp) W0 elt El)
    (hy : X.N[i]? = some y := by rfl) (hyl : X.env.scope.names.lookup y = some .local := by rfl) {vs : List Nat} (hv : own.map (·.2) = vs := by rfl) (hj : ∀ j ∈ js, j ∈ own.map (·.2) := by decide) (hs : ∀ x, foldedSetIterable iter X.env x = pure x := by intro _; rfl) :
    TS' X f (.Assign [.Name y py] (.ListComp elt [⟨tg, iter, ifs, 0⟩] scope pos) spos) (setS i (compE Fi T C El vs)) := by
  subst hv
  exact psW (ps_setLc hc hN hy hyl hsw hi ok (fun s H C cl fp => show PG _ tg (gD X.K T js) from hg s H C cl fp) ht (fun s H C cl fp => show PE _ elt (tR X.K X.mg W0 (rD X.K) El) from he s H C cl fp) hs) fun E σ H h =>
    lc_t hj (toS_R h fun η B H1 v d e0 e s q p => p _ H1 B (e.set (rF_D (fun _ hp => e0.env.fresh hp) q)) (hid_same s))
theorem s_ownLc (i : Nat) {y : Str} {py spos : Pos} {ifs : List Expr} {scope : Scope} {own : List (Str × Nat)} {Fi : Nv → R (List D)} {T : Tgt} {js : List Nat} {C : Nv → R Bool} {El : Nv → R D} (hc : X.calm = true) (hN : X.N.Nodup)
    (hsw : swapsWith (.ListComp elt [⟨tg, iter, ifs, 0⟩] scope pos) (some (.Name y py)) spos.line X.env = pure true) (hi : TI' X f.W tg iter Fi) (ok : BlkOk X.N X.env.scope scope own)
    (hg : ∀ (s : Shared) (H : Hp) (C : Addr) (cl : List (Str × Addr)) (fp : List Addr), TT' (X.blk s H scope (compEnvC scope cl C X.env) fp) tg T js)
    (ht : ∀ (s : Shared) (H : Hp) (D : Addr) (cl : List (Str × Addr)) (fp : List Addr), PTs (X.blk s H scope (compEnvC scope cl D X.env) fp) ifs (tT X.K X.mg W0 C))
    (he : ∀ (s : Shared) (H : Hp) (D : Addr) (cl : List (Str × Addr)) (fp : List Addr), TD (X.blk s H scope (compEnvC scope cl D X.env) fp) W0 elt El)
    (hy : X.N[i]? = some y := by rfl) (hyl : X.env.scope.names.lookup y = some .local := by rfl) {vs : List Nat} (hv : own.map (·.2) = vs := by rfl) (hj : ∀ j ∈ js, j ∈ own.map (·.2) := by decide) (hs : ∀ x, foldedSetIterable iter X.env x = pure x := by intro _; rfl) :
    TS' X f (.Assign [.Name y py] (.ListComp elt [⟨tg, iter, ifs, 0⟩] scope pos) spos) (ownS i (compE Fi T C El vs)) := by
  subst hv
  exact psW (ps_setLc hc hN hy hyl hsw hi ok (fun s H C cl fp => show PG _ tg (gD X.K T js) from hg s H C cl fp) ht (fun s H C cl fp => show PE _ elt (tR X.K X.mg W0 (rD X.K) El) from he s H C cl fp) hs) fun E σ H h =>
    lc_t hj (toS_R h fun η B H1 v d e0 e s q p => by
      obtain ⟨l, vs, ds, rfl, rfl, hp, hp1, qs⟩ := q
      exact p _ H1 (l :: B) (e0.setOwn s hp hp1 qs) (hid_new s hp))
/-- an expression alone -/
def exprS (F : Nv → R D) : Nv → Rs := fun η => (F η).toS fun _ => .nx η
theorem s_expr (he : TD X f.W e F) (hs : swapsWith e none pos.line X.env = pure false := by rfl) : TS' X f (.Expr e pos) (exprS F) :=
  psW (ps_expr he hs) fun E σ H h => toS_R h fun η B H1 v d e0 e s q p => p σ H1 B e (hid_same s)
/-- name.append(e), the list the def's own -/
def appS (i : Nat) (F : Nv → R D) : Nv → Rs := fun η => match η[i]? with
  | some (.own xs) => (F η).toS fun y => if xs.l.length < lineN then .nx (η.set i (.own ⟨xs.b, xs.l ++ [y]⟩)) else .no
  | _ => .no
theorem EnvS.app {K : PySem.W.Frag} {M : List Addr} {H0 : Hp} {A0 : List Addr} {H : Hp} {B : List Addr} {σ : L2.St} {η : Nv} {i : Nat} {a : Addr} {vs : List V} {w : V} {xs : OL} {y : D} (e : EnvS K M H0 A0 H B σ η) (hi : η[i]? = some (.own xs)) (ho : σ[i]? = some (some (.ref a))) (ha : H a = some (.lst vs)) (qa : DpAll K (hid (B ++ A0) H) vs xs.l)
    (qw : Dp K (hid (B ++ A0) H) w y) : EnvS K M H0 A0 (upd H a (.lst (vs ++ [w]))) B σ (η.set i (.own ⟨xs.b, xs.l ++ [y]⟩)) := by
  have hB := e.own i a xs hi ho
  have hA : a ∈ B ++ A0 := by
    cases hb : xs.b with
    | true => rw [hb, if_pos rfl] at hB; exact List.mem_append_left _ hB
    | false => rw [hb, if_neg Bool.false_ne_true] at hB; exact List.mem_append_right _ (e.mA.1 a hB)
  have eh : hid (B ++ A0) (upd H a (.lst (vs ++ [w]))) = hid (B ++ A0) H := hid_upd hA
  have hl : i < η.length := (List.getElem?_eq_some_iff.mp hi).1
  have gt : ∀ (j : Nat) (sl : Sl), (η.set i (.own ⟨xs.b, xs.l ++ [y]⟩))[j]? = some sl → (j = i ∧ sl = .own ⟨xs.b, xs.l ++ [y]⟩) ∨ (j ≠ i ∧ η[j]? = some sl) := fun j sl h => by
    by_cases hj : i = j
    · subst hj
      rw [List.getElem?_set_self hl] at h
      cases h
      exact .inl ⟨rfl, rfl⟩
    · rw [List.getElem?_set_ne hj] at h
      exact .inr ⟨fun z => hj z.symm, h⟩
  refine ⟨⟨by rw [List.length_set, e.env.len], fun j sl h => ?_, fun j k b ys zs h1 h2 h3 h4 => ?_, fun b m => ?_⟩, ?_, e.mA, e.new, fun j b ys h1 h2 => ?_⟩
  · rcases gt j sl h with ⟨rfl, rfl⟩ | ⟨n, h⟩
    · exact ⟨_, ho, hA, vs ++ [w], upd_same, by rw [eh]; exact DpAll_append qa (.cons qw .nil)⟩
    · obtain ⟨o, e1, q⟩ := e.env.at_ j sl h
      refine ⟨o, e1, ?_⟩
      cases sl with
      | no => cases o <;> trivial
      | d x =>
        cases o with
        | none => exact q
        | some v =>
          show Dp K (hid (B ++ A0) (upd H a _)) v x
          rw [eh]
          exact q
      | own zs =>
        match o, q, e1 with
        | some (.ref b), ⟨m, ws, e2, q⟩, e1 =>
          have nb : b ≠ a := fun z => by
            subst z
            exact n (e.env.ap j i b zs xs h hi e1 ho)
          refine ⟨m, ws, by rw [upd_ne nb]; exact e2, ?_⟩
          rw [eh]
          exact q
      | m x => exact q.m' (eh ▸ Same.refl _)
  · rcases gt j _ h1 with ⟨ej, _⟩ | ⟨n, g1⟩
    · rcases gt k _ h2 with ⟨ek, _⟩ | ⟨n2, g2⟩
      · rw [ej, ek]
      · rw [ej] at h3 ⊢
        exact e.env.ap i k b xs zs hi g2 h3 h4
    · rcases gt k _ h2 with ⟨ek, _⟩ | ⟨n2, g2⟩
      · rw [ek] at h4 ⊢
        exact e.env.ap j i b ys xs g1 hi h3 h4
      · exact e.env.ap j k b ys zs g1 g2 h3 h4
  · by_cases hb : b = a
    · rw [hb, upd_same]
      exact fun z => nomatch z
    · rw [upd_ne hb]
      exact e.env.tr b m
  · cases hb : xs.b with
    | false =>
      rw [hb, if_neg Bool.false_ne_true] at hB
      rw [hid_upd hB]
      exact e.same
    | true =>
      rw [hb, if_pos rfl] at hB
      intro b o z
      have z' := e.same b o z
      obtain ⟨n0, z0⟩ := hid_some z
      obtain ⟨n1, z1⟩ := hid_some z'
      have nb : b ≠ a := fun q => by
        rw [q, e.new a hB] at z0
        cases z0
      rw [hid_out n1, upd_ne nb]
      exact z1
  · rcases gt j _ h1 with ⟨ej, ey⟩ | ⟨n, g1⟩
    · rw [ej] at h2
      cases ey
      exact e.own i b xs hi h2
    · exact e.own j b ys g1 h2
theorem s_app (i : Nat) {x : Str} {p apos cpos epos : Pos} (he : TD X f.W e F) (hi : X.N[i]? = some x := by rfl) (hv : Vis X.env.scope x := by first | exact Or.inl rfl | exact Or.inr (Or.inl rfl)) (h1 : starEach [e] X.env = (false, eval e X.env) :: starEach [] X.env := by rfl)
    (hd : (x == ("__debug__" : Str)) = false := by decide) (hcd : (x == ("__classdict__" : Str)) = false := by decide)
    (hbase : attributeBase (.Name x p) "append" X.env (eval (.Name x p) X.env) = eval (.Name x p) X.env := by rfl)
    (hfew : ((backTo cpos (starEach [e] X.env)).all (fun x => !x.1) && (backToKw cpos (keywordEach [] X.env)).all (fun x => x.1.isSome) && decide ([e].length + ([] : List Keyword).length + (if ([] : List Keyword).isEmpty then 0 else 1) < 30)) = true := by rfl)
    (hline : (apos.endLine == cpos.line) = true := by rfl) (hplain : (backTo cpos (starEach [] X.env)).any (·.1) = false := by rfl) (hs : swapsWith (.Call (.Attribute (.Name x p) "append" apos) [e] [] cpos) none epos.line X.env = pure false := by rfl) :
    TS' X f (.Expr (.Call (.Attribute (.Name x p) "append" apos) [e] [] cpos) epos) (appS i F) :=
  psW (ps_expr (pe_bm PySem.F.plainAttrs_list PySem.F.slot_list_append PySem.F.type_list_append mt_append (pe_var hi hv hd hcd) (pa_cons he pa_nil h1) hbase hfew hline h1 hplain) hs) fun E σ H h => by
    obtain ⟨η, B, e0, p0⟩ := h
    have p : PostS X.K X.mg f.W f.rl f.M f.H0 f.A0 H B (appS i F η) E := p0
    unfold appS at p
    split at p
    · rename_i xs hx
      obtain ⟨o, e1, q⟩ := e0.env.at_ i _ hx
      match o, q, e1 with
      | some (.ref a), ⟨m, vs, e2, q⟩, e1 =>
        refine ⟨.ref a, e1, .inl ⟨rfl, vs, SqL.of e2⟩, ?_⟩
        refine (show tR X.K X.mg f.W (rD X.K) F σ H _ from ⟨η, B ++ f.A0, e0.env, ?_⟩)
        cases ef : F η with
        | ex c w z =>
          rw [ef] at p
          exact fun cls dd H' s x => p cls dd σ H' (e0.same.trans (hid_same s)) (exS x)
        | no => rw [ef] at p; exact p
        | ok y =>
          rw [ef] at p
          have p : PostS X.K X.mg f.W f.rl f.M f.H0 f.A0 H B (if xs.l.length < lineN then .nx (η.set i (.own ⟨xs.b, xs.l ++ [y]⟩)) else .no) E := p
          split at p
          · rename_i hz
            intro w H1 s1 qw
            have q1 := DpAll_mono q (hid_same (A := B ++ f.A0) s1)
            refine ⟨a, vs, w, rfl, rfl, s1 _ _ e2, by rw [DpAll_length q, line_eq]; exact hz, ?_⟩
            refine p σ _ B ((e0.step s1).app hx e1 (s1 _ _ e2) q1 qw) ?_
            rw [hid_upd m]
            exact hid_same s1
          · exact False.elim p
    · exact False.elim p
/-! ### return -/
def retS (F : Nv → R D) : Nv → Rs := fun η => (F η).toS fun x => .rt x η
theorem s_ret (he : TD X f.W e F) (hr : f.rl = rD X.K) : TS' X f (.Return (some e) pos) (retS F) :=
  psW (ps_ret he) fun E σ H h => toS_R h fun η B H1 v d e0 e s q p => p v _ H1 B e (by rw [hr]; exact Dp_mono q hid_app)
theorem s_retF (he : TF X f.W e F) (hr : f.rl = rF X.K) : TS' X f (.Return (some e) pos) (retS F) :=
  psW (ps_ret he) fun E σ H h => toS_R h fun η B H1 v d e0 e s q p => p v _ H1 B e (by
    rw [hr]
    obtain ⟨l, vs, ds, rfl, rfl, hp, hp1, qs⟩ := q
    exact ⟨l, vs, ds, rfl, rfl, e0.free hp, hp1, DpAll_mono qs (hid_mono fun b m => (List.mem_cons.mp m).elim (fun z => by rw [z]; exact List.mem_cons_self) fun z => List.mem_cons_of_mem _ (List.mem_append_right _ z))⟩)
/-- a list of the def's own -/
def retO (i : Nat) : Nv → Rs := fun η => match η[i]? with
  | some (.own xs) => if xs.b then .rt (.list xs.l) η else .no
  | _ => .no
theorem s_retO (i : Nat) {x : Str} {p : Pos} (hr : f.rl = rF X.K) (hi : X.N[i]? = some x := by rfl) (hv : Vis X.env.scope x := by first | exact Or.inl rfl | exact Or.inr (Or.inl rfl)) (hd : (x == ("__debug__" : Str)) = false := by decide) (hcd : (x == ("__classdict__" : Str)) = false := by decide) :
    TS' X f (.Return (some (.Name x p)) pos) (retO i) := psW (ps_ret (pe_var hi hv hd hcd)) fun E σ H h => by
  obtain ⟨η, B, e0, p0⟩ := h
  have p : PostS X.K X.mg f.W f.rl f.M f.H0 f.A0 H B (retO i η) E := p0
  unfold retO at p
  split at p
  · rename_i xs hx
    obtain ⟨o, e1, q⟩ := e0.env.at_ i _ hx
    match o, q, e1 with
    | some (.ref a), ⟨m, vs, e2, q⟩, e1 =>
      have hB := e0.own i a xs hx e1
      split at p
      case isFalse => exact False.elim p
      rename_i hb
      rw [if_pos hb] at hB
      refine ⟨_, e1, p _ σ H B e0 ?_⟩
      rw [hr]
      exact ⟨a, vs, _, rfl, rfl, e0.new a hB, e2, DpAll_mono q (hid_mono fun b m => (List.mem_cons.mp m).elim (fun z => by rw [z]; exact List.mem_append_left _ hB) fun z => List.mem_append_right _ z)⟩
  · exact False.elim p
theorem s_retN (hr : f.rl = rD X.K) : TS' X f (.Return none pos) fun η => .rt .none η := psW ps_retN fun E σ H ⟨η, B, e, p⟩ => p _ σ H B e (by rw [hr]; exact .non)
/-! ### if, for -/
def ifS (G : Nv → R Bool) (Gs Gt : Nv → Rs) : Nv → Rs := fun η => (G η).toS fun k => if k then Gs η else Gt η
theorem s_if {as bs : List Stmt} (hc : TB X f.W c G) (ha : TSs X f as Gs) (hb : TSs X f bs Gt) : TS' X f (.If c as bs pos) (ifS G Gs Gt) := psW (ps_if hc ha hb) fun E σ H h => by
  obtain ⟨η, B, e, p0⟩ := h
  have p : PostS X.K X.mg f.W f.rl f.M f.H0 f.A0 H B ((G η).toS fun k => if k then Gs η else Gt η) E := p0
  refine (show tT X.K X.mg f.W G σ H _ from ⟨η, B ++ f.A0, e.env, ?_⟩)
  cases e1 : G η with
  | ex c w q =>
    rw [e1] at p
    exact fun cls dd H' s x => p cls dd σ H' (e.same.trans (hid_same s)) (exS x)
  | no => rw [e1] at p; exact p
  | ok k =>
    rw [e1] at p
    intro H1 s1
    have p : PostS X.K X.mg f.W f.rl f.M f.H0 f.A0 H B (if k then Gs η else Gt η) E := p
    cases k with
    | true => exact iteT ⟨η, B, e.step s1, PostS.keep (hid_same s1) p⟩
    | false => exact iteF ⟨η, B, e.step s1, PostS.keep (hid_same s1) p⟩
def loopG (T : Tgt) (Gb : Nv → Rs) : List D → Nv → Rs
  | [], η => .nx η
  | x :: xs, η => match T x η with
    | none => .no
    | some η1 => match Gb η1 with
      | .nx η2 => loopG T Gb xs η2
      | .ct η2 => loopG T Gb xs η2
      | .bk η2 => .nx η2
      | .rt d η => .rt d η
      | .ex c w p => .ex c w p
      | .no => .no
def forS (Fi : Nv → R (List D)) (T : Tgt) (Gb : Nv → Rs) : Nv → Rs := fun η => (Fi η).toS fun xs => loopG T Gb xs η
theorem for_core {T : Tgt} {js : List Nat} {Gb : Nv → Rs} {E : Ends} {σ : L2.St} {H1 : Hp} {η : Nv} {B : List Addr} {J : It} {ds : List D} (e : EnvS X.K f.M f.H0 f.A0 H1 B σ η) (wk : Walks X.K J H1 (B ++ f.A0) ds) (p : PostS X.K X.mg f.W f.rl f.M f.H0 f.A0 H1 B (loopG T Gb ds η) E) :
    ∃ V : Nat → Nat → L2.St → Hp → Prop, (∃ m, V 0 m σ H1) ∧ ∀ i m σ H, V i m σ H → (J.stop i H ∧ E.nx σ H) ∨ (J.go i H ∧ ∃ N : L2.St → Hp → Prop, (∀ σ' H', N σ' H' → ∃ m', m' < m ∧ V (i + 1) m' σ' H') ∧ ∀ x H', J.yld i H x H' → gD X.K T js x σ H' fun σ2 H2 => tS X.K X.mg f.W f.rl f.M f.H0 f.A0 Gb { E with nx := N, ct := N, bk := E.nx } σ2 H2) := by
  refine ⟨fun i m σ' H' => m + i = ds.length ∧ ∃ η' B', EnvS X.K f.M f.H0 f.A0 H' B' σ' η' ∧ Same (hid (B ++ f.A0) H1) (hid (B' ++ f.A0) H') ∧ PostS X.K X.mg f.W f.rl f.M f.H0 f.A0 H' B' (loopG T Gb (ds.drop i) η') E,
    ⟨ds.length, rfl, η, B, e, Same.refl _, p⟩, fun i m σ' H' hw => ?_⟩
  obtain ⟨em, η', B', e', sh, p⟩ := hw
  cases hx : ds[i]? with
  | none =>
    have hl : ds.length ≤ i := List.getElem?_eq_none_iff.mp hx
    have ei : i = ds.length := by omega
    subst ei
    rw [List.drop_length] at p
    exact .inl ⟨wk.stop _ _ sh, p σ' H' B' e' (Same.refl _)⟩
  | some x =>
    have hl : i < ds.length := (List.getElem?_eq_some_iff.mp hx).1
    have ed : ds.drop i = x :: ds.drop (i + 1) := by
      rw [List.drop_eq_getElem_cons hl]
      congr 1
      exact (List.getElem?_eq_some_iff.mp hx).2
    obtain ⟨g1, g2⟩ := wk.step i x hx _ _ sh e'.env.tr
    rw [ed] at p
    unfold loopG at p
    cases et : T x η' with
    | none => rw [et] at p; exact False.elim p
    | some η1 =>
      rw [et] at p
      have p : PostS X.K X.mg f.W f.rl f.M f.H0 f.A0 H' B' (match Gb η1 with
        | .nx η2 => loopG T Gb (ds.drop (i + 1)) η2
        | .ct η2 => loopG T Gb (ds.drop (i + 1)) η2
        | .bk η2 => .nx η2
        | .rt d η => .rt d η
        | .ex c w p => .ex c w p
        | .no => .no) E := p
      refine .inr ⟨g1, fun σ2 H2 => ∃ m', m' < m ∧ (m' + (i + 1) = ds.length ∧ ∃ η' B', EnvS X.K f.M f.H0 f.A0 H2 B' σ2 η' ∧ Same (hid (B ++ f.A0) H1) (hid (B' ++ f.A0) H2) ∧ PostS X.K X.mg f.W f.rl f.M f.H0 f.A0 H2 B' (loopG T Gb (ds.drop (i + 1)) η') E), fun σ2 H2 hN => hN, fun v H3 y => ?_⟩
      obtain ⟨s3, qv⟩ := g2 v H3 y
      refine ⟨η', B' ++ f.A0, x, η1, e'.env.same s3, qv, et, fun σ2 E2 S => ?_⟩
      have e2 : EnvS X.K f.M f.H0 f.A0 H3 B' σ2 η1 := ⟨E2, e'.same.trans (hid_same s3), e'.mA, e'.new, fun j a xs h1 h2 => by
        obtain ⟨n, h1⟩ := S.own j xs h1
        rw [S.rest j n] at h2
        exact e'.own j a xs h1 h2⟩
      have sh3 : Same (hid (B' ++ f.A0) H') (hid (B' ++ f.A0) H3) := hid_same s3
      refine (show tS X.K X.mg f.W f.rl f.M f.H0 f.A0 Gb _ σ2 H3 from ⟨η1, B', e2, ?_⟩)
      have on : ∀ η2 : Nv, PostS X.K X.mg f.W f.rl f.M f.H0 f.A0 H' B' (loopG T Gb (ds.drop (i + 1)) η2) E → Goes X.K f.M f.H0 f.A0 H3 B' η2 fun σ2 H2 => ∃ m', m' < m ∧ (m' + (i + 1) = ds.length ∧ ∃ η' B', EnvS X.K f.M f.H0 f.A0 H2 B' σ2 η' ∧ Same (hid (B ++ f.A0) H1) (hid (B' ++ f.A0) H2) ∧ PostS X.K X.mg f.W f.rl f.M f.H0 f.A0 H2 B' (loopG T Gb (ds.drop (i + 1)) η') E) :=
        fun η2 pp σ4 H4 B4 e4 s4 => ⟨m - 1, by omega, by omega, η2, B4, e4, (sh.trans sh3).trans s4, PostS.keep (sh3.trans s4) pp⟩
      cases eb : Gb η1 with
      | nx η2 => rw [eb] at p; exact on η2 p
      | ct η2 => rw [eb] at p; exact on η2 p
      | bk η2 =>
        rw [eb] at p
        exact fun σ4 H4 B4 e4 s4 => p σ4 H4 B4 e4 (sh3.trans s4)
      | rt d η2 => rw [eb] at p; exact p
      | ex c w q => rw [eb] at p; exact p
      | no => rw [eb] at p; exact p
theorem s_for {body : List Stmt} {Fi : Nv → R (List D)} {T : Tgt} {js : List Nat} {Gb : Nv → Rs} (hp : PassesOwn (model X.prog X.w) X.A X.env X.xe) (hc : X.calm = true) (hi : TI' X f.W tg iter Fi) (hg : TT' X tg T js) (hb : TSs X f body Gb) (hs : ∀ x, foldedSetIterable iter X.env x = pure x := by intro _; rfl) :
    TS' X f (.For tg iter body [] pos) (forS Fi T Gb) := psW (ps_for hp hc hi hg hb (hs := hs)) fun E σ H h => by
  obtain ⟨η, B, e, p0⟩ := h
  have p : PostS X.K X.mg f.W f.rl f.M f.H0 f.A0 H B ((Fi η).toS fun xs => loopG T Gb xs η) E := p0
  refine (show tI X.K X.mg f.W Fi σ H _ from ⟨η, B ++ f.A0, e.env, ?_⟩)
  cases e1 : Fi η with
  | ex c w q =>
    rw [e1] at p
    exact fun cls dd H' s x => p cls dd σ H' (e.same.trans (hid_same s)) (exS x)
  | no => rw [e1] at p; exact p
  | ok ds =>
    rw [e1] at p
    have p : PostS X.K X.mg f.W f.rl f.M f.H0 f.A0 H B (loopG T Gb ds η) E := p
    intro J H1 s1 wk
    exact for_core (e.step s1) wk (PostS.keep (hid_same s1) p)
end
end Bd
/-! D6: defs and their calls by data; built-ins. -/
namespace Bd
open PySem L2

/-! ### a def's promise, where no repr is going on -/
structure FnG (P : Program) (w : World) (K : PySem.W.Frag) (mg : Str → Option Value) (base : Heap) (k : Nat) (f : Addr) (fd : FuncData) (ps : List Str) (sp : Sp) : Prop where
  len : ∀ vs H Q E, sp vs H Q E → vs.length = ps.length
  run : ∀ (A : Around) (outer : List Env) (s : Shared) (H : Hp) (args : Args) (us : List Value) (vs : List V) (Q : VK) (E : XK), Room k A → A.guards = some [] → Env0 P w K mg base A outer s H → BindsTo s fd args (ps.zip us) → Vals vs us →
    sp vs H Q E → codeAny (model P w) A (.call (.ref f) args) (CR (L2.CX P w) outer P w H s Q E) s
theorem FnG.mono {P : Program} {w : World} {K : PySem.W.Frag} {mg : Str → Option Value} {base : Heap} {j k : Nat} {f : Addr} {fd : FuncData} {ps : List Str} {sp : Sp} (F : FnG P w K mg base j f fd ps sp) (h : j ≤ k) : FnG P w K mg base k f fd ps sp :=
  ⟨F.len, fun A o s H as us vs Q E hr => F.run A o s H as us vs Q E (hr.mono h)⟩
section
variable {P : Program} {w : World} {K : PySem.W.Frag} {mg : Str → Option Value} {base : Heap}
theorem okG {x qual : Str} {st : Stmt} {f : Addr} {fd : FuncData} {N ps : List Str} {k : Nat} {sp : Sp} (F : Fun K x qual st f fd) (S : FnScope N ps (defScope st)) (len : ∀ vs H Q E, sp vs H Q E → vs.length = ps.length)
    (hbody : ∀ (cdv : Value) (A : Around) (outer : List Env) (s : Shared) (H : Hp) (vs : List V) (Q : VK) (E : XK), Room k (A.deeper (PyProof.Rows.envOfC qual (defScope st) s.heap.objs.size f cdv)) → A.guards = some [] → sp vs H Q E →
      ∃ t, PSs (cxOf (L2.CX P w) P w K mg base N qual (defScope st) f cdv A outer s H E) (defBody st) t ∧ t { nx := fun _ H' => Q .non H', rt := Q } (L2.start N vs) H) : FnG P w K mg base (k + 1) f fd ps sp := by
  obtain ⟨oc, od, kV, doc, pm, an, cdv, ct, osl, rfl, lk, hcd⟩ := F.ex
  refine ⟨len, fun A outer s H args us vs Q E room gds env bnd rel prm => ?_⟩
  have lenV := len vs H Q E prm
  have Kin : K.In s.heap := env.mod.kin.keeps fun b o e => (env.bs b o e).1
  have nolim : s.heap.NoLimit := env.mod.nolimit.keeps fun b o e => (env.bs b o e).1
  have kinds : ∀ y ∈ ps.zip us, (defScope st).names.lookup y.1 = some .local ∨ ((defScope st).names.lookup y.1 = some .cell ∧ ((cellsFrom (s.heap.objs.size + 1) (defScope st).names []).lookup y.1).isSome = true) := by
    rintro ⟨n, v⟩ hy
    rcases S.par n (List.of_mem_zip hy).1 with h | h
    · exact .inl h
    · exact .inr ⟨h, PySem.W.cellsFrom_some _ _ _ (.inl h)⟩
  refine codeAny_call_function room.depth (Kin _ _ lk) rfl S.co S.gen rfl (PySem.W.codeRec_of Kin hcd) (bnd _ _ _ _ ?_)
  refine wpAny_newFunctionEnv_cells S.kind kinds fun e1 he s1 inc => ?_
  subst he
  refine ⟨nolim.keeps inc.toInCall.keep, codeAny_func ?_⟩
  obtain ⟨t, ht, hq⟩ := hbody cdv A outer s H vs Q E (room.deeper _) gds prm
  have I0 : Inv (cxOf (L2.CX P w) P w K mg base N qual (defScope st) f cdv A outer s H E) [] (L2.start N vs) H s1 := inv_start S room.hd env lenV rel inc
  refine wpAny_mono (ht.run [] s1 _ H _ I0 hq) (fun fl s2 out => ?_) fun _ _ out => out
  cases fl with
  | ret u =>
    obtain ⟨v, σ2, H2, J, rv, z⟩ := out
    exact ⟨v, H2, J.os, J.bare, J.base, J.hok, rv, z⟩
  | next =>
    obtain ⟨σ2, H2, J, z⟩ := out
    exact ⟨V.non, H2, J.os, J.bare, J.base, J.hok, rfl, z⟩
  | brk => exact out.elim fun _ z => z.elim fun _ z => z.2.elim
  | cont => exact out.elim fun _ z => z.elim fun _ z => z.2.elim
/-- what a def does to data -/
def spD (K : PySem.W.Frag) (mg : Str → Option Value) (rl : Rl) (n : Nat) (F : List D → R D) : Sp := fun vs H Q E => ∃ ds A, ds.length = n ∧ (∀ p ∈ A, H p ≠ none) ∧ DpAll K (hid A H) vs ds ∧ match F ds with
  | .ok d => ∀ v H', Same H H' → rl H H' A v d → Q v H'
  | .ex c w p => ∀ cls dd H', Same H H' → ExR K mg (hid A H') cls dd c w p → E cls dd H'
  | .no => False
def initD (m : Nat) (ds : List D) : Nv := ds.map Sl.d ++ List.replicate (m - ds.length) Sl.no
def runD (m : Nat) (fall : R D) (G : Nv → Rs) : List D → R D := fun ds => match G (initD m ds) with
  | .rt d _ => .ok d
  | .nx _ => fall
  | .ex c w p => .ex c w p
  | _ => .no
theorem hid_nil {H : Hp} : hid [] H = H := funext fun b => if_neg List.not_mem_nil
theorem same_nil {H H' : Hp} (s : Same (hid [] H) (hid [] H')) : Same H H' := by
  rw [hid_nil, hid_nil] at s
  exact s
theorem EnvS.same0 {H0 : Hp} {A0 : List Addr} {H : Hp} {B : List Addr} {σ : L2.St} {η : Nv} (e : EnvS K [] H0 A0 H B σ η) : Same H0 H := same_nil e.same
theorem env_start {H : Hp} {A : List Addr} {N : List Str} {vs : List V} {ds : List D} (hA : ∀ p ∈ A, H p ≠ none) (q : DpAll K (hid A H) vs ds) : EnvD K H A (L2.start N vs) (initD N.length ds) where
  len := by
    unfold L2.start initD
    rw [List.length_append, List.length_append, List.length_map, List.length_map, List.length_replicate, List.length_replicate, DpAll_length q]
  at_ := fun i s e => by
    have hl := DpAll_length q
    unfold initD at e
    unfold L2.start
    by_cases hi : i < ds.length
    · rw [List.getElem?_append_left (by rw [List.length_map]; exact hi), List.getElem?_map] at e
      rw [List.getElem?_append_left (by rw [List.length_map, hl]; exact hi), List.getElem?_map]
      cases hd : ds[i]? with
      | none => rw [hd] at e; cases e
      | some d =>
        rw [hd] at e
        cases e
        obtain ⟨v, hv, q1⟩ := DpAll_get q hd
        exact ⟨some v, by rw [hv]; rfl, q1⟩
    · rw [List.getElem?_append_right (by rw [List.length_map]; omega), List.length_map, List.getElem?_replicate] at e
      rw [List.getElem?_append_right (by rw [List.length_map]; omega), List.length_map, List.getElem?_replicate]
      split at e
      · rename_i h
        cases e
        exact ⟨none, by rw [if_pos (by rw [hl]; exact h)], trivial⟩
      · cases e
  ap := fun i j a xs ys e _ _ _ => by
    unfold initD at e
    by_cases hi : i < ds.length
    · rw [List.getElem?_append_left (by rw [List.length_map]; exact hi), List.getElem?_map] at e
      cases hd : ds[i]? <;> (rw [hd] at e; cases e)
    · rw [List.getElem?_append_right (by rw [List.length_map]; omega), List.getElem?_replicate] at e
      split at e <;> cases e
  tr := hA
theorem no_own {m i : Nat} {ds : List D} {xs : OL} : (initD m ds)[i]? ≠ some (.own xs) := fun e => by
  unfold initD at e
  by_cases hi : i < ds.length
  · rw [List.getElem?_append_left (by rw [List.length_map]; exact hi), List.getElem?_map] at e
    cases hd : ds[i]? <;> (rw [hd] at e; cases e)
  · rw [List.getElem?_append_right (by rw [List.length_map]; omega), List.getElem?_replicate] at e
    split at e <;> cases e
/-- THE RULE: a def by the data that its body tells -/
theorem fn_rule {x qual : Str} {st : Stmt} {f : Addr} {fd : FuncData} {N ps : List Str} {k : Nat} {rl : Rl} {fall : R D} {G : Nv → Rs} (F : Fun K x qual st f fd) (S : FnScope N ps (defScope st)) (hf : (fall = .ok .none ∧ rl = rD K) ∨ fall = .no)
    (hbody : ∀ (cdv : Value) (A : Around) (outer : List PySem.Env) (s : Shared) (H : Hp) (E : XK) (A0 : List Addr), Room k (A.deeper (PyProof.Rows.envOfC qual (defScope st) s.heap.objs.size f cdv)) → A.guards = some [] →
      TSs (cxOf (L2.CX P w) P w K mg base N qual (defScope st) f cdv A outer s H E) ⟨fun cls d _ H => E cls d H, rl, [], H, A0⟩ (defBody st) G) : FnG P w K mg base (k + 1) f fd ps (spD K mg rl ps.length (runD N.length fall G)) := by
  refine okG F S (fun vs H Q E h => ?_) fun cdv A outer s H vs Q E room gds prm => ?_
  · obtain ⟨ds, A, h1, _, h2, _⟩ := h
    rw [DpAll_length h2, h1]
  · obtain ⟨ds, A0, hl, hA, qd, hm⟩ := prm
    refine ⟨_, hbody cdv A outer s H E A0 room gds, ?_⟩
    refine ⟨initD N.length ds, [], ⟨env_start hA qd, Same.refl _, ⟨(fun p z => (List.not_mem_nil z).elim), hA⟩, (fun p z => (List.not_mem_nil z).elim), fun i a xs e => absurd e no_own⟩, ?_⟩
    unfold runD at hm
    cases eg : G (initD N.length ds) with
    | rt d η => rw [eg] at hm; exact fun v σ' H' B' e' q => hm v H' e'.same0 q
    | nx η =>
      rw [eg] at hm
      rcases hf with ⟨rfl, rfl⟩ | rfl
      · exact fun σ' H' B' e' _ => hm .non H' e'.same0 .non
      · exact False.elim hm
    | ex c w p => rw [eg] at hm; exact fun cls dd σ' H' s1 q => hm cls dd H' (same_nil s1) q
    | bk η => rw [eg] at hm; exact False.elim hm
    | ct η => rw [eg] at hm; exact False.elim hm
    | no => rw [eg] at hm; exact hm
end

/-! ### calls of own defs -/
section
variable {X : Cx} {W : WX} {rl : Rl} {e : Expr} {es : List Expr} {x : Str} {p pos : Pos} {f : Addr} {fd : FuncData} {ps : List Str} {k n : Nat} {Fn : List D → R D} {Fs : Nv → R (List D)}
theorem run_g {pins : List (Addr × Obj)} {σ : L2.St} {H : Hp} {s : Shared} {Q : VK} {us : List Value} {vs : List V} {sp : Sp} {E : XK} (F : FnG X.prog X.w X.K X.mg X.base k f fd ps sp) (hr : Room k X.A) (hgd : X.A.guards = some []) (hb : Binds X.K fd ps [])
    (hx : PassesAt (L2.CX X.prog X.w) X σ E) (I : Inv X pins σ H s) (r : Vals vs us) (h : sp vs H Q E) : wpAny (model X.prog X.w) X.A (call (.ref f) us) (EP X pins σ Q) X.xe s := by
  have hl : (us ++ []).length = ps.length := by
    rw [List.append_nil, ← r.length]
    exact F.len _ _ _ _ h
  have bt := hb s us I.kIn hl
  rw [List.append_nil] at bt
  refine wpAny_call (codeAny_mono (F.run X.A X.stack s H ⟨us, []⟩ us vs Q E hr hgd I.env0 bt r h) fun res s2 out => ?_)
  match res, out with
  | .error e, out => exact hx pins H s e s2 I out
  | .ok (.ret u), out => exact I.after out
  | .ok .next, out => exact out.elim
  | .ok .brk, out => exact out.elim
  | .ok .cont, out => exact out.elim
def noex : R D → R D
  | .ok d => .ok d
  | _ => .no
/-- a def that raises nothing here -/
def callV (Fn : List D → R D) (Fs : Nv → R (List D)) : Nv → R D := fun η => (Fs η).bind fun ds => noex (Fn ds)
/-- a def that may raise -/
def callX (Fn : List D → R D) (Fs : Nv → R (List D)) : Nv → R D := fun η => (Fs η).bind Fn
theorem AllV.of_len {rv : Rv} {H : Hp} {A : List Addr} {vs : List V} {ds : List D} (h : AllV rv H A vs ds) : vs.length = ds.length := h.len
theorem call_core {g : R D → R D} (hgx : ∀ r d, g r = .ok d → r = .ok d) {Pd : Prop} (hb' : Back rl) (F : FnG X.prog X.w X.K X.mg X.base k f fd ps (spD X.K X.mg rl n Fn)) (hr : Room k X.A) (hgd : X.A.guards = some []) (hg : Gl X x) (hm : X.mg x = some (.ref f)) (hk : PySem.W.keepIn X.K (.ref f) = true) (hb : Binds X.K fd ps [])
    (hE : ∀ σ : L2.St, ∃ E : XK, PassesAt (L2.CX X.prog X.w) X σ E ∧ ∀ (A : List Addr) (H : Hp) (r : R D) (Q : VK), Post X.K X.mg W rl σ A H (g r) Q → match r with
      | .ok d => ∀ v H', Same H H' → rl H H' A v d → Q v H'
      | .ex c w p => ∀ cls dd H', Same H H' → ExR X.K X.mg (hid A H') cls dd c w p → E cls dd H'
      | .no => False)
    (ha : TAs X W (vD X.K) (e :: es) Fs) (hn : es.length + 1 = n) (hfs : ∀ η ds, Fs η = .ok ds → ds.length = n) (hdb : (x == ("__debug__" : Str)) = false) (he : starEach (e :: es) X.env = (false, eval e X.env) :: starEach es X.env) (hpl : (backTo pos (starEach es X.env)).any (·.1) = false) :
    PE X (.Call (.Name x p) (e :: es) [] pos) (tR X.K X.mg W rl fun η => (Fs η).bind fun ds => g (Fn ds)) := by
  refine ⟨fun pins s σ H Q I h => wpAny_Call_Name_kw (ld_glob I hg hm ?_ hdb)⟩
  obtain ⟨η, A, E, q0⟩ := h
  have q : Post X.K X.mg W rl σ A H ((Fs η).bind fun ds => g (Fn ds)) Q := q0
  obtain ⟨Ex, hx, hEx⟩ := hE σ
  refine PySem.W.callWith_K (h₀ := X.base) I.ok.mod.kin hk (thn (ha.run pos pins s σ H (fun vs H1 => spD X.K X.mg rl n Fn vs H1 Q Ex) I ⟨η, A, E, ?_⟩) fun us s1 ⟨vs, H1, I1, r1, q1⟩ => ⟨I1.kIn, run_g F hr hgd hb hx I1 r1 q1⟩) he hpl
  cases e1 : Fs η with
  | ex c w z => rw [e1] at q; exact q
  | no => rw [e1] at q; exact q
  | ok ds =>
    rw [e1] at q
    intro vs H1 s1 qv
    exact ⟨ds, A, hfs η ds e1, (E.same s1).tr, qv.dp, hEx A H1 (Fn ds) Q (Post.same hb' s1 q)⟩
theorem aC_len {Fa : Nv → R D} {m : Nat} (h : ∀ η ds, Fs η = .ok ds → ds.length = m) : ∀ η ds, aC Fa Fs η = .ok ds → ds.length = m + 1 := fun η ds e => by
  unfold aC at e
  cases e1 : Fa η with
  | ex c w z => rw [e1] at e; cases e
  | no => rw [e1] at e; cases e
  | ok y =>
    rw [e1] at e
    have e : ((Fs η).bind fun xs => R.ok (y :: xs)) = .ok ds := e
    cases e2 : Fs η with
    | ex c w z => rw [e2] at e; cases e
    | no => rw [e2] at e; cases e
    | ok ys =>
      rw [e2] at e
      cases e
      rw [List.length_cons, h η ys e2]
theorem a0_len : ∀ η ds, a0 η = .ok ds → ds.length = 0 := fun η ds e => by
  cases e
  rfl
theorem t_call (hb' : Back rl) (F : FnG X.prog X.w X.K X.mg X.base k f fd ps (spD X.K X.mg rl n Fn)) (hr : Room k X.A) (hgd : X.A.guards = some []) (hg : Gl X x) (hm : X.mg x = some (.ref f)) (hk : PySem.W.keepIn X.K (.ref f) = true) (hb : Binds X.K fd ps []) (ha : TAs X W (vD X.K) (e :: es) Fs) (hfs : ∀ η ds, Fs η = .ok ds → ds.length = n)
    (hn : es.length + 1 = n := by rfl) (hdb : (x == ("__debug__" : Str)) = false := by decide) (he : starEach (e :: es) X.env = (false, eval e X.env) :: starEach es X.env := by rfl) (hpl : (backTo pos (starEach es X.env)).any (·.1) = false := by rfl) :
    PE X (.Call (.Name x p) (e :: es) [] pos) (tR X.K X.mg W rl (callV Fn Fs)) :=
  call_core (g := noex) (Pd := True) (fun r d h => by cases r <;> first | exact h | cases h) hb' F hr hgd hg hm hk hb (fun σ => ⟨fun _ _ _ => False, fun pins H s e s' I c => by
      obtain ⟨_, _, _, _, _, _, _, _, _, _, _, _, z⟩ := c
      exact z.elim, fun A H r Q q => by
      cases r with
      | ok d => exact q
      | ex c w z => exact False.elim q
      | no => exact q⟩) ha hn hfs hdb he hpl
theorem t_callX (tk : Takes X W) (hb' : Back rl) (F : FnG X.prog X.w X.K X.mg X.base k f fd ps (spD X.K X.mg rl n Fn)) (hr : Room k X.A) (hgd : X.A.guards = some []) (hg : Gl X x) (hm : X.mg x = some (.ref f)) (hk : PySem.W.keepIn X.K (.ref f) = true) (hb : Binds X.K fd ps []) (ha : TAs X W (vD X.K) (e :: es) Fs) (hfs : ∀ η ds, Fs η = .ok ds → ds.length = n)
    (hn : es.length + 1 = n := by rfl) (hdb : (x == ("__debug__" : Str)) = false := by decide) (he : starEach (e :: es) X.env = (false, eval e X.env) :: starEach es X.env := by rfl) (hpl : (backTo pos (starEach es X.env)).any (·.1) = false := by rfl) :
    PE X (.Call (.Name x p) (e :: es) [] pos) (tR X.K X.mg W rl (callX Fn Fs)) :=
  call_core (g := id) (Pd := True) (fun r d h => h) hb' F hr hgd hg hm hk hb (fun σ => ⟨WE W σ, passAt tk σ, fun A H r Q q => by
      cases r with
      | ok d => exact q
      | ex c w z => exact q
      | no => exact q⟩) ha hn hfs hdb he hpl
/-- a def of the module, as its callers want it -/
def Df (P : Program) (w : World) (K : PySem.W.Frag) (mg : Str → Option Value) (base : Heap) (k : Nat) (x : Str) (n : Nat) (rl : Rl) (Fn : List D → R D) : Prop :=
  ∃ f fd ps, FnG P w K mg base k f fd ps (spD K mg rl n Fn) ∧ Binds K fd ps [] ∧ mg x = some (.ref f) ∧ PySem.W.keepIn K (.ref f) = true
theorem t_callD {j : Nat} (d : Df X.prog X.w X.K X.mg X.base j x n rl Fn) (hr : Room k X.A) (hgd : X.A.guards = some []) (ha : TAs X W (vD X.K) (e :: es) Fs) (hfs : ∀ η ds, Fs η = .ok ds → ds.length = n) (hb' : Back rl) (hj : j ≤ k := by decide) (hg : Gl X x := by rfl)
    (hn : es.length + 1 = n := by rfl) (hdb : (x == ("__debug__" : Str)) = false := by decide) (he : starEach (e :: es) X.env = (false, eval e X.env) :: starEach es X.env := by rfl) (hpl : (backTo pos (starEach es X.env)).any (·.1) = false := by rfl) :
    PE X (.Call (.Name x p) (e :: es) [] pos) (tR X.K X.mg W rl (callV Fn Fs)) := by
  obtain ⟨f, fd, ps, F, b, m, kp⟩ := d
  exact t_call hb' F (hr.mono hj) hgd hg m kp b ha hfs hn hdb he hpl
theorem t_callDX {j : Nat} (tk : Takes X W) (d : Df X.prog X.w X.K X.mg X.base j x n rl Fn) (hr : Room k X.A) (hgd : X.A.guards = some []) (ha : TAs X W (vD X.K) (e :: es) Fs) (hfs : ∀ η ds, Fs η = .ok ds → ds.length = n) (hb' : Back rl) (hj : j ≤ k := by decide) (hg : Gl X x := by rfl)
    (hn : es.length + 1 = n := by rfl) (hdb : (x == ("__debug__" : Str)) = false := by decide) (he : starEach (e :: es) X.env = (false, eval e X.env) :: starEach es X.env := by rfl) (hpl : (backTo pos (starEach es X.env)).any (·.1) = false := by rfl) :
    PE X (.Call (.Name x p) (e :: es) [] pos) (tR X.K X.mg W rl (callX Fn Fs)) := by
  obtain ⟨f, fd, ps, F, b, m, kp⟩ := d
  exact t_callX tk hb' F (hr.mono hj) hgd hg m kp b ha hfs hn hdb he hpl
end
end Bd
/-! D7: built-ins by data. -/
namespace Bd
open PySem L2

section
variable {X : Cx} {W : WX} {rl : Rl} {a b c e : Expr} {Fa Fb F : Nv → R D} {Fs : Nv → R (List D)} {pos p : Pos} {es : List Expr}
theorem all1 {rv : Rv} {H : Hp} {A : List Addr} {d : D} : ∀ {vs : List V}, AllV rv H A vs [d] → ∃ v, vs = [v] ∧ rv H A v d
  | [v], h => ⟨v, rfl, h.1⟩
  | [], h => h.elim
  | _ :: _ :: _, h => h.2.elim
theorem all2 {rv : Rv} {H : Hp} {A : List Addr} {d e : D} : ∀ {vs : List V}, AllV rv H A vs [d, e] → ∃ v w, vs = [v, w] ∧ rv H A v d ∧ rv H A w e
  | [v, w], h => ⟨v, w, rfl, h.1, h.2.1⟩
  | [], h => h.elim
  | [_], h => h.2.elim
  | _ :: _ :: _ :: _, h => h.2.2.elim
/-! len -/
def lenV : List D → Option D
  | [.list xs] => some (.int xs.length)
  | [.tuple xs] => some (.int xs.length)
  | [.str x] => if x.length ≤ lineN then some (.int x.length) else none
  | _ => none
def rLen (K : PySem.W.Frag) : List V → Hp → VK → Prop := fun xs H Q => (∃ p ys, xs = [.ref p] ∧ (SqL K H p ys ∨ SqT K H p ys) ∧ Q (.int ys.length) H) ∨ ∃ z, xs = [.str z] ∧ z.length ≤ sizeLine ∧ Q (.int z.length) H
theorem call_lenA : CallR X (.builtin "len") (rLen X.K) := by
  intro pins s σ H xs us Q I r h
  rcases h with h | h
  · exact call_len_seq pins s σ H xs us Q I r h
  · exact call_len_str pins s σ H xs us Q I r h
theorem o_len : OpN X (rD X.K) (rLen X.K) lenV := by
  intro H A vs ds d Q hA h e k
  unfold lenV at e
  split at e
  · have e := Option.some.inj e
    subst e
    obtain ⟨v, rfl, q⟩ := all1 h
    obtain ⟨l, ws, rfl, h1, q1⟩ := rO_list q
    refine .inl ⟨l, ws, rfl, .inl h1, ?_⟩
    rw [DpAll_length q1]
    exact k _ H (Same.refl _) (.int _)
  · have e := Option.some.inj e
    subst e
    obtain ⟨v, rfl, q⟩ := all1 h
    obtain ⟨l, ws, rfl, h1, _, q1⟩ := rO_tup q
    refine .inl ⟨l, ws, rfl, .inr h1, ?_⟩
    rw [DpAll_length q1]
    exact k _ H (Same.refl _) (.int _)
  · split at e
    · rename_i hz
      have e := Option.some.inj e
      subst e
      obtain ⟨v, rfl, q⟩ := all1 h
      exact .inr ⟨_, by rw [rO_str q], by rw [line_eq]; exact hz, k _ H (Same.refl _) (.int _)⟩
    · cases e
  · cases e
theorem t_len (hm : X.mg "len" = none) (ha : TAs X W (vO X.K) [e] Fs) (hg : Gl X "len" := by rfl) (he : starEach [e] X.env = (false, eval e X.env) :: starEach [] X.env := by rfl) (hpl : (backTo pos (starEach [] X.env)).any (·.1) = false := by rfl) : TD X W (.Call (.Name "len" p) [e] [] pos) (eN lenV Fs) :=
  t_callB back_D call_lenA o_len hg hm PySem.boot_len ha (he := he) (hpl := hpl)
/-! repr -/
def reprV : List D → Option D
  | [d] => if d.showable = true ∧ d.hasDict = false ∧ d.depth ≤ 64 ∧ d.shown.length ≤ lineN then some (.str d.shown) else none
  | _ => none
def rRepr (K : PySem.W.Frag) : List V → Hp → VK → Prop := fun xs H Q => ∃ v d, xs = [v] ∧ Dp K H v d ∧ d.showable = true ∧ d.hasDict = false ∧ d.depth ≤ 64 ∧ d.shown.length ≤ sizeLine ∧ Q (.str d.shown) H
theorem call_reprA (hg : X.A.guards = some []) (hu : X.A.units + 66 < cLine) : CallR X (.builtin "repr") (rRepr X.K) := by
  intro pins s σ H xs us Q I r h
  obtain ⟨v, d, rfl, q, h1, h2, h3, h4, k⟩ := h
  obtain ⟨u, rfl, ru⟩ := vals1 r
  have fin : ∀ t, EP X pins σ Q (.str d.shown t) { s with toks := s.toks + 1 } := fun t => ⟨.str d.shown, H, I.tok _, ⟨_, rfl⟩, k⟩
  have deep : ∀ a, v = .ref a → wpAny (model X.prog X.w) X.A (call (.builtin "repr") [.ref a]) (EP X pins σ Q) X.xe s := fun a ea => by
    subst ea
    cases ru
    obtain ⟨as, rd⟩ := Dp.reads I d _ _ q rfl
    refine repr_of_reads' rd h1 (fun z => by rw [h2] at z; cases z) hg (by omega) (fun _ _ z => z) (fun h' u tk kp => ?_) h4
    exact ⟨.str d.shown, H, I.kept (t' := tk) kp, ⟨_, rfl⟩, k⟩
  cases q with
  | non =>
    cases ru
    exact PySem.P.repr_of_none (fin _)
  | bl b =>
    cases ru
    exact PySem.P.repr_of_bool (fin _)
  | int i =>
    obtain ⟨t, rfl⟩ := ru
    exact PySem.P.repr_of_int (of_decide_eq_true h1) (fin _)
  | str x =>
    obtain ⟨t, rfl⟩ := ru
    exact PySem.P.repr_of_str (fin _) h4
  | lst _ _ =>
    cases ru
    exact deep _ rfl
  | tup _ _ =>
    cases ru
    exact deep _ rfl
theorem o_repr : OpN X (rD X.K) (rRepr X.K) reprV := by
  intro H A vs ds d Q hA h e k
  unfold reprV at e
  split at e
  · split at e
    · rename_i d' hd
      have e := Option.some.inj e
      subst e
      obtain ⟨v, rfl, q⟩ := all1 h
      exact ⟨v, d', rfl, rO_dp q, hd.1, hd.2.1, hd.2.2.1, by rw [line_eq]; exact hd.2.2.2, k _ H (Same.refl _) (.str _)⟩
    · cases e
  · cases e
theorem t_repr (hg : X.A.guards = some []) (hu : X.A.units + 66 < cLine) (hm : X.mg "repr" = none) (ha : TAs X W (vO X.K) [e] Fs) (hgl : Gl X "repr" := by rfl) (he : starEach [e] X.env = (false, eval e X.env) :: starEach [] X.env := by rfl) (hpl : (backTo pos (starEach [] X.env)).any (·.1) = false := by rfl) :
    TD X W (.Call (.Name "repr" p) [e] [] pos) (eN reprV Fs) := t_callB back_D (call_reprA hg hu) o_repr hgl hm (by decide +kernel) ha (he := he) (hpl := hpl)
/-! int -/
def intV : List D → Option D
  | [.int i] => some (.int i)
  | [.bool b] => some (.int (if b then 1 else 0))
  | _ => none
theorem t_intc (hm : X.mg "int" = none) (ha : TAs X W (vO X.K) [e] Fs) (hgl : Gl X "int" := by rfl) (he : starEach [e] X.env = (false, eval e X.env) :: starEach [] X.env := by rfl) (hpl : (backTo pos (starEach [] X.env)).any (·.1) = false := by rfl) :
    TD X W (.Call (.Name "int" p) [e] [] pos) (eN intV Fs) := t_callTy back_D call_int1 (fun H A vs ds d Q hA h e k => by
  unfold intV at e
  split at e
  · have e := Option.some.inj e
    subst e
    obtain ⟨v, rfl, q⟩ := all1 h
    exact .inl ⟨_, by rw [rO_int q], k _ H (Same.refl _) (.int _)⟩
  · have e := Option.some.inj e
    subst e
    obtain ⟨v, rfl, q⟩ := all1 h
    exact .inr ⟨_, by rw [rO_bool q], k _ H (Same.refl _) (.int _)⟩
  · cases e) hgl hm (by decide +kernel) ha (he := he) (hpl := hpl)
/-! tuple, list -/
def tupleV : List D → Option D
  | [.list xs] => some (.tuple xs)
  | [.tuple xs] => some (.tuple xs)
  | _ => none
theorem t_tuplec (hm : X.mg "tuple" = none) (ha : TAs X W (vO X.K) [e] Fs) (hgl : Gl X "tuple" := by rfl) (he : starEach [e] X.env = (false, eval e X.env) :: starEach [] X.env := by rfl) (hpl : (backTo pos (starEach [] X.env)).any (·.1) = false := by rfl) :
    TD X W (.Call (.Name "tuple" p) [e] [] pos) (eN tupleV Fs) := t_callTy back_D call_tuple_of (fun H A vs ds d Q hA h e k => by
  unfold tupleV at e
  split at e
  · have e := Option.some.inj e
    subst e
    obtain ⟨v, rfl, q⟩ := all1 h
    obtain ⟨l, ws, rfl, h1, q1⟩ := rO_list q
    exact ⟨l, ws, rfl, .inl ⟨h1, fun t ht => k _ _ (same_new ht) (dp_new_tup hA ht q1)⟩⟩
  · have e := Option.some.inj e
    subst e
    obtain ⟨v, rfl, q⟩ := all1 h
    obtain ⟨l, ws, rfl, h1, h2, q1⟩ := rO_tup q
    exact ⟨l, ws, rfl, .inr ⟨h1, k _ H (Same.refl _) (.tup h2 q1)⟩⟩
  · cases e) hgl hm (by decide +kernel) ha (he := he) (hpl := hpl)
def listV : List D → Option D
  | [.list xs] => some (.list xs)
  | [.tuple xs] => some (.list xs)
  | _ => none
theorem t_listc (hm : X.mg "list" = none) (ha : TAs X W (vO X.K) [e] Fs) (hgl : Gl X "list" := by rfl) (he : starEach [e] X.env = (false, eval e X.env) :: starEach [] X.env := by rfl) (hpl : (backTo pos (starEach [] X.env)).any (·.1) = false := by rfl) :
    TF X W (.Call (.Name "list" p) [e] [] pos) (eN listV Fs) := t_callTy back_F call_list_of (fun H A vs ds d Q hA h e k => by
  unfold listV at e
  split at e
  · have e := Option.some.inj e
    subst e
    obtain ⟨v, rfl, q⟩ := all1 h
    obtain ⟨l, ws, rfl, h1, q1⟩ := rO_list q
    exact ⟨l, ws, rfl, .inl h1, fun t ht => k _ _ (same_new ht) (dp_new_list hA ht q1)⟩
  · have e := Option.some.inj e
    subst e
    obtain ⟨v, rfl, q⟩ := all1 h
    obtain ⟨l, ws, rfl, h1, h2, q1⟩ := rO_tup q
    exact ⟨l, ws, rfl, .inr h1, fun t ht => k _ _ (same_new ht) (dp_new_list hA ht q1)⟩
  · cases e) hgl hm (by decide +kernel) ha (he := he) (hpl := hpl)
/-! ints and bools in a list -/
def ints? : List D → Option (List Int)
  | [] => some []
  | .int i :: r => (ints? r).map (i :: ·)
  | _ => none
def bools? : List D → Option (List Bool)
  | [] => some []
  | .bool i :: r => (bools? r).map (i :: ·)
  | _ => none
theorem ints_of {K : PySem.W.Frag} {H : Hp} : ∀ {ds : List D} {vs : List V} {ns : List Int}, DpAll K H vs ds → ints? ds = some ns → vs = ns.map V.int ∧ ds = ns.map PyData.int
  | [], _, ns, h, e => by
    cases h
    cases e
    exact ⟨rfl, rfl⟩
  | d :: r, _, ns, h, e => by
    cases h with
    | cons h1 h2 =>
      cases d with
      | int i =>
        have e : (ints? r).map (i :: ·) = some ns := e
        cases e2 : ints? r with
        | none => rw [e2] at e; cases e
        | some ms =>
          rw [e2] at e
          cases e
          obtain ⟨q1, q2⟩ := ints_of h2 e2
          cases h1
          exact ⟨by rw [q1]; rfl, by rw [q2]; rfl⟩
      | _ => cases e
theorem bools_of {K : PySem.W.Frag} {H : Hp} : ∀ {ds : List D} {vs : List V} {ns : List Bool}, DpAll K H vs ds → bools? ds = some ns → vs = ns.map V.bl
  | [], _, ns, h, e => by
    cases h
    cases e
    rfl
  | d :: r, _, ns, h, e => by
    cases h with
    | cons h1 h2 =>
      cases d with
      | bool i =>
        have e : (bools? r).map (i :: ·) = some ns := e
        cases e2 : bools? r with
        | none => rw [e2] at e; cases e
        | some ms =>
          rw [e2] at e
          cases e
          have q1 := bools_of h2 e2
          cases h1
          rw [q1]
          rfl
      | _ => cases e
/-! all, any -/
def allV : List D → Option D
  | [.list xs] => (bools? xs).map fun bs => .bool (bs.all id)
  | _ => none
def anyV : List D → Option D
  | [.list xs] => (bools? xs).map fun bs => .bool (bs.any id)
  | _ => none
theorem t_all (hc : X.calm = true) (hm : X.mg "all" = none) (ha : TAs X W (vO X.K) [e] Fs) (hgl : Gl X "all" := by rfl) (he : starEach [e] X.env = (false, eval e X.env) :: starEach [] X.env := by rfl) (hpl : (backTo pos (starEach [] X.env)).any (·.1) = false := by rfl) :
    TD X W (.Call (.Name "all" p) [e] [] pos) (eN allV Fs) := t_callB back_D (cr_all hc) (fun H A vs ds d Q hA h e k => by
  unfold allV at e
  split at e
  · rename_i xs
    cases e2 : bools? xs with
    | none => rw [e2] at e; cases e
    | some bs =>
      rw [e2] at e
      cases e
      obtain ⟨v, rfl, q⟩ := all1 h
      obtain ⟨l, ws, rfl, h1, q1⟩ := rO_list q
      rw [bools_of q1 e2] at h1
      exact ⟨l, bs, rfl, h1, k _ H (Same.refl _) (.bl _)⟩
  · cases e) hgl hm (by decide +kernel) ha (he := he) (hpl := hpl)
theorem t_any (hc : X.calm = true) (hm : X.mg "any" = none) (ha : TAs X W (vO X.K) [e] Fs) (hgl : Gl X "any" := by rfl) (he : starEach [e] X.env = (false, eval e X.env) :: starEach [] X.env := by rfl) (hpl : (backTo pos (starEach [] X.env)).any (·.1) = false := by rfl) :
    TD X W (.Call (.Name "any" p) [e] [] pos) (eN anyV Fs) := t_callB back_D (cr_any hc) (fun H A vs ds d Q hA h e k => by
  unfold anyV at e
  split at e
  · rename_i xs
    cases e2 : bools? xs with
    | none => rw [e2] at e; cases e
    | some bs =>
      rw [e2] at e
      cases e
      obtain ⟨v, rfl, q⟩ := all1 h
      obtain ⟨l, ws, rfl, h1, q1⟩ := rO_list q
      rw [bools_of q1 e2] at h1
      exact ⟨l, bs, rfl, h1, k _ H (Same.refl _) (.bl _)⟩
  · cases e) hgl hm (by decide +kernel) ha (he := he) (hpl := hpl)
/-! sorted of ints -/
def ins1 (x : Int) : List Int → List Int
  | [] => [x]
  | y :: r => if x ≤ y then x :: y :: r else y :: ins1 x r
def isort : List Int → List Int
  | [] => []
  | x :: r => ins1 x (isort r)
theorem ins1_perm (x : Int) : ∀ l, (ins1 x l).Perm (x :: l)
  | [] => .refl _
  | y :: r => by
    unfold ins1
    split
    · exact .refl _
    · exact (List.Perm.cons y (ins1_perm x r)).trans (List.Perm.swap x y r)
theorem isort_perm : ∀ l, (isort l).Perm l
  | [] => .refl _
  | x :: r => (ins1_perm x (isort r)).trans (List.Perm.cons x (isort_perm r))
theorem ins1_sorted (x : Int) : ∀ l : List Int, l.Pairwise (· ≤ ·) → (ins1 x l).Pairwise (· ≤ ·)
  | [], _ => by unfold ins1; exact List.pairwise_singleton _ _
  | y :: r, h => by
    rw [List.pairwise_cons] at h
    unfold ins1
    split
    · rename_i hxy
      refine List.pairwise_cons.mpr ⟨fun z m => ?_, List.pairwise_cons.mpr h⟩
      rcases List.mem_cons.mp m with rfl | m
      · exact hxy
      · exact Int.le_trans hxy (h.1 z m)
    · rename_i hxy
      refine List.pairwise_cons.mpr ⟨fun z m => ?_, ins1_sorted x r h.2⟩
      rcases List.mem_cons.mp ((ins1_perm x r).mem_iff.mp m) with rfl | m
      · omega
      · exact h.1 z m
theorem isort_sorted : ∀ l, (isort l).Pairwise (· ≤ ·)
  | [] => List.Pairwise.nil
  | x :: r => ins1_sorted x _ (isort_sorted r)
theorem sorted_unique : ∀ {l m : List Int}, l.Perm m → l.Pairwise (· ≤ ·) → m.Pairwise (· ≤ ·) → l = m
  | [], m, p, _, _ => (List.Perm.nil_eq p)
  | x :: l, [], p, _, _ => (List.Perm.eq_nil p)
  | x :: l, y :: m, p, h1, h2 => by
    rw [List.pairwise_cons] at h1 h2
    have e : x = y := by
      have m1 : x ∈ y :: m := p.mem_iff.mp List.mem_cons_self
      have m2 : y ∈ x :: l := p.mem_iff.mpr List.mem_cons_self
      rcases List.mem_cons.mp m1 with e | m1
      · exact e
      · rcases List.mem_cons.mp m2 with e | m2
        · exact e.symm
        · have := h1.1 y m2
          have := h2.1 x m1
          omega
    subst e
    rw [sorted_unique (List.Perm.cons_inv p) h1.2 h2.2]
def sortIV : List D → Option D
  | [.list xs] => (ints? xs).map fun ns => .list ((isort ns).map PyData.int)
  | _ => none
theorem t_sortI (hm : X.mg "sorted" = none) (ha : TAs X W (vO X.K) [e] Fs) (hgl : Gl X "sorted" := by rfl) (he : starEach [e] X.env = (false, eval e X.env) :: starEach [] X.env := by rfl) (hpl : (backTo pos (starEach [] X.env)).any (·.1) = false := by rfl) :
    TF X W (.Call (.Name "sorted" p) [e] [] pos) (eN sortIV Fs) := t_callB back_F cr_sortedI (fun H A vs ds d Q hA h e k => by
  unfold sortIV at e
  split at e
  · rename_i xs
    cases e2 : ints? xs with
    | none => rw [e2] at e; cases e
    | some bs =>
      rw [e2] at e
      cases e
      obtain ⟨v, rfl, q⟩ := all1 h
      obtain ⟨l, ws, rfl, h1, q1⟩ := rO_list q
      rw [(ints_of q1 e2).1] at h1
      refine ⟨l, bs, rfl, h1, fun ns' t pm so ht => ?_⟩
      have en : ns' = isort bs := sorted_unique (pm.trans (isort_perm bs).symm) so (isort_sorted bs)
      subst en
      exact k _ _ (same_new ht) (dp_new_list hA ht (DpAll_ints _))
  · cases e) hgl hm (by decide +kernel) ha (he := he) (hpl := hpl)
/-! max, min, sum, abs -/
def maxI : List Int → Int
  | [] => 0
  | [x] => x
  | x :: r => if maxI r < x then x else maxI r
def minI : List Int → Int
  | [] => 0
  | [x] => x
  | x :: r => if x < minI r then x else minI r
theorem maxI_is : ∀ (l : List Int) (m : Int), m ∈ l → (∀ y ∈ l, y ≤ m) → m = maxI l
  | [], m, h, _ => by simp at h
  | [x], m, h, _ => by simpa [maxI] using h
  | x :: y :: r, m, h, hm => by
    have mx : maxI (y :: r) ∈ y :: r ∧ ∀ z ∈ y :: r, z ≤ maxI (y :: r) := by
      have key : ∀ l : List Int, l ≠ [] → maxI l ∈ l ∧ ∀ z ∈ l, z ≤ maxI l := by
        intro l
        induction l with
        | nil => exact fun q => absurd rfl q
        | cons a t ih =>
          intro _
          cases t with
          | nil => simp [maxI]
          | cons b t =>
            obtain ⟨i1, i2⟩ := ih (by simp)
            show (if maxI (b :: t) < a then a else maxI (b :: t)) ∈ _ ∧ ∀ z ∈ _, z ≤ (if maxI (b :: t) < a then a else maxI (b :: t))
            split
            · refine ⟨List.mem_cons_self, fun z hz => ?_⟩
              rcases List.mem_cons.mp hz with rfl | hz
              · exact Int.le_refl _
              · have := i2 z hz; omega
            · refine ⟨List.mem_cons_of_mem _ i1, fun z hz => ?_⟩
              rcases List.mem_cons.mp hz with rfl | hz
              · omega
              · exact i2 z hz
      exact key _ (by simp)
    show m = if maxI (y :: r) < x then x else maxI (y :: r)
    have q1 := hm x List.mem_cons_self
    have q2 := hm _ (List.mem_cons_of_mem _ mx.1)
    split
    · rcases List.mem_cons.mp h with rfl | h
      · rfl
      · have := mx.2 m h; omega
    · rcases List.mem_cons.mp h with rfl | h
      · omega
      · have := mx.2 m h; omega
theorem minI_is : ∀ (l : List Int) (m : Int), m ∈ l → (∀ y ∈ l, m ≤ y) → m = minI l
  | [], m, h, _ => by simp at h
  | [x], m, h, _ => by simpa [minI] using h
  | x :: y :: r, m, h, hm => by
    have mx : minI (y :: r) ∈ y :: r ∧ ∀ z ∈ y :: r, minI (y :: r) ≤ z := by
      have key : ∀ l : List Int, l ≠ [] → minI l ∈ l ∧ ∀ z ∈ l, minI l ≤ z := by
        intro l
        induction l with
        | nil => exact fun q => absurd rfl q
        | cons a t ih =>
          intro _
          cases t with
          | nil => simp [minI]
          | cons b t =>
            obtain ⟨i1, i2⟩ := ih (by simp)
            show (if a < minI (b :: t) then a else minI (b :: t)) ∈ _ ∧ ∀ z ∈ _, (if a < minI (b :: t) then a else minI (b :: t)) ≤ z
            split
            · refine ⟨List.mem_cons_self, fun z hz => ?_⟩
              rcases List.mem_cons.mp hz with rfl | hz
              · exact Int.le_refl _
              · have := i2 z hz; omega
            · refine ⟨List.mem_cons_of_mem _ i1, fun z hz => ?_⟩
              rcases List.mem_cons.mp hz with rfl | hz
              · omega
              · exact i2 z hz
      exact key _ (by simp)
    show m = if x < minI (y :: r) then x else minI (y :: r)
    have q1 := hm x List.mem_cons_self
    have q2 := hm _ (List.mem_cons_of_mem _ mx.1)
    split
    · rcases List.mem_cons.mp h with rfl | h
      · rfl
      · have := mx.2 m h; omega
    · rcases List.mem_cons.mp h with rfl | h
      · omega
      · have := mx.2 m h; omega
def maxV : List D → Option D
  | [.int i, .int j] => some (.int (if j > i then j else i))
  | [.list xs] => (ints? xs).bind fun ns => if 0 < ns.length then some (.int (maxI ns)) else none
  | _ => none
def minV : List D → Option D
  | [.int i, .int j] => some (.int (if j < i then j else i))
  | [.list xs] => (ints? xs).bind fun ns => if 0 < ns.length then some (.int (minI ns)) else none
  | _ => none
def rMaxA (K : PySem.W.Frag) : List V → Hp → VK → Prop := fun xs H Q => (∃ i j, xs = [.int i, .int j] ∧ Q (.int (if j > i then j else i)) H) ∨ rMax K xs H Q
def rMinA (K : PySem.W.Frag) : List V → Hp → VK → Prop := fun xs H Q => (∃ i j, xs = [.int i, .int j] ∧ Q (.int (if j < i then j else i)) H) ∨ rMin K xs H Q
theorem t_max {es : List Expr} (hc : X.calm = true) (hm : X.mg "max" = none) (ha : TAs X W (vO X.K) (e :: es) Fs) (hgl : Gl X "max" := by rfl) (he : starEach (e :: es) X.env = (false, eval e X.env) :: starEach es X.env := by rfl) (hpl : (backTo pos (starEach es X.env)).any (·.1) = false := by rfl) :
    TD X W (.Call (.Name "max" p) (e :: es) [] pos) (eN maxV Fs) := t_callB (r := rMaxA X.K) back_D (fun pins s σ H xs us Q I r h => h.elim (call_max2 hc pins s σ H xs us Q I r) (cr_max hc pins s σ H xs us Q I r)) (fun H A vs ds d Q hA h e k => by
  unfold maxV at e
  split at e
  · have e := Option.some.inj e
    subst e
    obtain ⟨v, w, rfl, q1, q2⟩ := all2 h
    exact .inl ⟨_, _, by rw [rO_int q1, rO_int q2], k _ H (Same.refl _) (.int _)⟩
  · rename_i xs
    cases e2 : ints? xs with
    | none => rw [e2] at e; cases e
    | some ns =>
      rw [e2] at e
      have e : (if 0 < ns.length then some (PyData.int (maxI ns)) else none) = some d := e
      split at e
      · rename_i hl
        cases e
        obtain ⟨v, rfl, q⟩ := all1 h
        obtain ⟨l, ws, rfl, h1, q1⟩ := rO_list q
        rw [(ints_of q1 e2).1] at h1
        refine .inr ⟨l, ns, rfl, h1, hl, fun m h3 h4 => ?_⟩
        rw [maxI_is ns m h3 h4]
        exact k _ H (Same.refl _) (.int _)
      · cases e
  · cases e) hgl hm (by decide +kernel) ha (he := he) (hpl := hpl)
theorem t_min {es : List Expr} (hc : X.calm = true) (hm : X.mg "min" = none) (ha : TAs X W (vO X.K) (e :: es) Fs) (hgl : Gl X "min" := by rfl) (he : starEach (e :: es) X.env = (false, eval e X.env) :: starEach es X.env := by rfl) (hpl : (backTo pos (starEach es X.env)).any (·.1) = false := by rfl) :
    TD X W (.Call (.Name "min" p) (e :: es) [] pos) (eN minV Fs) := t_callB (r := rMinA X.K) back_D (fun pins s σ H xs us Q I r h => h.elim (call_min2 hc pins s σ H xs us Q I r) (cr_min hc pins s σ H xs us Q I r)) (fun H A vs ds d Q hA h e k => by
  unfold minV at e
  split at e
  · have e := Option.some.inj e
    subst e
    obtain ⟨v, w, rfl, q1, q2⟩ := all2 h
    exact .inl ⟨_, _, by rw [rO_int q1, rO_int q2], k _ H (Same.refl _) (.int _)⟩
  · rename_i xs
    cases e2 : ints? xs with
    | none => rw [e2] at e; cases e
    | some ns =>
      rw [e2] at e
      have e : (if 0 < ns.length then some (PyData.int (minI ns)) else none) = some d := e
      split at e
      · rename_i hl
        cases e
        obtain ⟨v, rfl, q⟩ := all1 h
        obtain ⟨l, ws, rfl, h1, q1⟩ := rO_list q
        rw [(ints_of q1 e2).1] at h1
        refine .inr ⟨l, ns, rfl, h1, hl, fun m h3 h4 => ?_⟩
        rw [minI_is ns m h3 h4]
        exact k _ H (Same.refl _) (.int _)
      · cases e
  · cases e) hgl hm (by decide +kernel) ha (he := he) (hpl := hpl)
def absV' : List D → Option D
  | [.int i] => some (.int (if i < 0 then -i else i))
  | _ => none
theorem t_abs (hm : X.mg "abs" = none) (ha : TAs X W (vO X.K) [e] Fs) (hgl : Gl X "abs" := by rfl) (he : starEach [e] X.env = (false, eval e X.env) :: starEach [] X.env := by rfl) (hpl : (backTo pos (starEach [] X.env)).any (·.1) = false := by rfl) :
    TD X W (.Call (.Name "abs" p) [e] [] pos) (eN absV' Fs) := t_callB back_D call_abs (fun H A vs ds d Q hA h e k => by
  unfold absV' at e
  split at e
  · have e := Option.some.inj e
    subst e
    obtain ⟨v, rfl, q⟩ := all1 h
    exact ⟨_, by rw [rO_int q], k _ H (Same.refl _) (.int _)⟩
  · cases e) hgl hm (by decide +kernel) ha (he := he) (hpl := hpl)
/-! isinstance of data by a built-in class -/
def tyN : D → String
  | .none => "NoneType"
  | .bool _ => "bool"
  | .int _ => "int"
  | .str _ => "str"
  | .list _ => "list"
  | .tuple _ => "tuple"
  | .dict _ => "dict"
theorem tyX_of {K : PySem.W.Frag} {H : Hp} {v : V} {d : D} (h : Dp K H v d) : TyX K H v (.type (tyN d)) := by
  cases h with
  | non => exact .base .non
  | bl b => exact .base (.bl b)
  | int i => exact .base (.int i)
  | str x => exact .base (.str x)
  | lst h1 _ =>
    rcases h1 with (h1 | ⟨o, h1⟩) | ⟨o, its, n, h1, h2, _⟩
    · exact .base (.lst h1)
    · exact .base (.frz h1)
    · exact .kList h1 h2
  | tup h1 _ =>
    rcases h1 with (h1 | ⟨o, h1⟩) | ⟨o, its, n, h1, h2, _⟩
    · exact .base (.tup h1)
    · exact .fTuple h1
    · exact .kTuple h1 h2
def isiV (T : String) (d : D) : Option D := (kitB (tyN d) T).map .bool
theorem t_isi {T : String} {x : Str} {p2 : Pos} (hm : X.mg "isinstance" = none) (hmT : X.mg x = none) (hv : bootBuiltins x = some (.type T)) (ha : TO X W a Fa) (hgl : Gl X "isinstance" := by rfl) (hgT : Gl X x := by rfl) (hnT : x ≠ "__name__" := by decide) (hdT : (x == ("__debug__" : Str)) = false := by decide)
    (he : starEach [a, .Name x p2] X.env = (false, eval a X.env) :: starEach [.Name x p2] X.env := by rfl) (hpl : (backTo pos (starEach [.Name x p2] X.env)).any (·.1) = false := by rfl) : TD X W (.Call (.Name "isinstance" p) [a, .Name x p2] [] pos) (e1 (isiV T) Fa) :=
  peW (pe_callB call_isi hgl hm (by decide +kernel) (pa_cons ha (pa_cons (pe_bltn (v := .ty T) hgT hmT hv rfl hnT hdT) pa_nil) he) (he := he) (hpl := hpl)) fun σ H Q h => by
    have h2 := op1_t (r := fun x H Q => ∃ t b, TyX X.K H x t ∧ PySem.W.kitOne X.K t (.type T) = some b ∧ Q (.bl b) H) (g := isiV T) back_D (fun H A x a d Q hA q e k => by
      unfold isiV at e
      cases e2 : kitB (tyN a) T with
      | none => rw [e2] at e; cases e
      | some b =>
        rw [e2] at e
        cases e
        exact ⟨_, b, tyX_of (rO_dp q), kit_ty e2, k _ H (Same.refl _) (.bl _)⟩) h
    obtain ⟨η, A, E, q⟩ := h2
    refine (show tR X.K X.mg W (rO X.K) Fa σ H _ from ⟨η, A, E, ?_⟩)
    cases ef : Fa η with
    | ex c w z => rw [ef] at q; exact q
    | no => rw [ef] at q; exact q
    | ok d =>
      rw [ef] at q
      intro v H1 s1 qv
      obtain ⟨t, b, h1, h2, h3⟩ := q v H1 s1 qv
      exact ⟨v, .ty T, t, .type T, b, rfl, .ty T, h1, h2, h3⟩
end
end Bd
/-! D8: more that is walked; the law's own end. -/
namespace Bd
open PySem L2

section
variable {X : Cx} {W : WX} {rl : Rl} {a b c e tg iter : Expr} {Fa Fb F : Nv → R D} {Fs : Nv → R (List D)} {pos p : Pos} {es : List Expr}
def asSeq : D → R (List D)
  | .list xs => .ok xs
  | .tuple xs => .ok xs
  | _ => .no
def iA (F : Nv → R D) : Nv → R (List D) := fun η => (F η).bind asSeq
/-- a list or a tuple -/
theorem i_any (h : TD X W iter F) : TI' X W tg iter (iA F) := ⟨fun pins s σ H R I q => by
  obtain ⟨η, A, E, p0⟩ := q
  have p : PostI X.K X.mg W σ A H ((F η).bind asSeq) R := p0
  cases e1 : F η with
  | ex c w q =>
    rw [e1] at p
    exact (i_list (tg := tg) h).run pins s σ H R I ⟨η, A, E, by unfold iL; rw [e1]; exact p⟩
  | no => rw [e1] at p; exact False.elim p
  | ok d =>
    rw [e1] at p
    cases d with
    | list xs => exact (i_list (tg := tg) h).run pins s σ H R I ⟨η, A, E, by unfold iL; rw [e1]; exact p⟩
    | tuple xs => exact (i_tup (tg := tg) h).run pins s σ H R I ⟨η, A, E, by unfold iT; rw [e1]; exact p⟩
    | _ => exact False.elim p⟩
/-! zip of two lists, of two tuples -/
def zipD : List D → List D → List D
  | x :: xs, y :: ys => .tuple [x, y] :: zipD xs ys
  | _, _ => []
theorem zipD_get : ∀ (xs ys : List D) (i : Nat) (z : D), (zipD xs ys)[i]? = some z → ∃ x y, xs[i]? = some x ∧ ys[i]? = some y ∧ z = .tuple [x, y]
  | [], _, _, _, h => by simp [zipD] at h
  | _ :: _, [], _, _, h => by simp [zipD] at h
  | x :: xs, y :: ys, 0, z, h => by
    simp [zipD] at h
    exact ⟨x, y, rfl, rfl, h.symm⟩
  | x :: xs, y :: ys, i + 1, z, h => by
    obtain ⟨a, b, h1, h2, h3⟩ := zipD_get xs ys i z (by simpa [zipD] using h)
    exact ⟨a, b, by simpa using h1, by simpa using h2, h3⟩
theorem zipD_len : ∀ (xs ys : List D), (zipD xs ys).length = min xs.length ys.length
  | [], _ => by simp [zipD]
  | _ :: _, [] => by simp [zipD]
  | x :: xs, y :: ys => by
    show (zipD xs ys).length + 1 = _
    rw [zipD_len xs ys, List.length_cons, List.length_cons]
    omega
def zip2 : List D → R (List D)
  | [.list xs, .list ys] => .ok (zipD xs ys)
  | [.tuple xs, .tuple ys] => .ok (zipD xs ys)
  | _ => .no
def iZ (Fs : Nv → R (List D)) : Nv → R (List D) := fun η => (Fs η).bind zip2
theorem i_zip {elts : List Expr} {kk : Nat} {tpos : Pos} (hm : X.mg "zip" = none) (ha : TAs X W (vD X.K) [a, b] Fs) (hg : Gl X "zip" := by rfl) (hs : starEach [a, b] X.env = (false, eval a X.env) :: starEach [b] X.env := by rfl) (hpl : (backTo pos (starEach [b] X.env)).any (·.1) = false := by rfl) :
    TI' X W (.Tuple elts kk tpos) (.Call (.Name "zip" p) [a, b] [] pos) (iZ Fs) := piW (RZ.pi_zipA hg hm ha hs hpl) fun σ H Q ⟨η, A, E, p0⟩ => by
  have p : PostI X.K X.mg W σ A H ((Fs η).bind zip2) Q := p0
  refine (show tA X.K X.mg W (vD X.K) Fs σ H _ from ⟨η, A, E, ?_⟩)
  cases e1 : Fs η with
  | ex c w q => rw [e1] at p; exact p
  | no => rw [e1] at p; exact p
  | ok ds =>
    rw [e1] at p
    have p : PostI X.K X.mg W σ A H (zip2 ds) Q := p
    intro vs H1 s1 q1
    unfold zip2 at p
    split at p
    · rename_i xs ys
      obtain ⟨v, w, rfl, h1, h2⟩ := all2 q1
      cases h1 with
      | @lst l us _ l1 r1 =>
        cases h2 with
        | @lst l' ws _ l2 r2 =>
          refine ⟨l, l', us, ws, rfl, .inl ⟨(hid_le A H1).seq l1, (hid_le A H1).seq l2, p _ H1 s1 ⟨fun i x e A' H2 sh hA' => ?_, fun A' H2 sh => ?_⟩⟩⟩
          · obtain ⟨y, z, e1, e2, rfl⟩ := zipD_get _ _ i x e
            obtain ⟨u, f1, k1⟩ := DpAll_get r1 e1
            obtain ⟨t, f2, k2⟩ := DpAll_get r2 e2
            have m1 : SqL X.K H2 l us := (hid_le A' H2).seq (sh.seq l1)
            have m2 : SqL X.K H2 l' ws := (hid_le A' H2).seq (sh.seq l2)
            refine ⟨⟨us, ws, u, t, m1, m2, f1, f2⟩, fun v H3 yd => ?_⟩
            obtain ⟨T, u', t', rfl, nT, rfl, g1, g2⟩ := yd
            have c1 := g1 _ m1
            have c2 := g2 _ m2
            rw [f1] at c1
            rw [f2] at c2
            cases c1
            cases c2
            exact ⟨same_new nT, dp_new_tup hA' nT (.cons (Dp_mono k1 sh) (.cons (Dp_mono k2 sh) .nil))⟩
          · refine ⟨us, ws, (hid_le A' H2).seq (sh.seq l1), (hid_le A' H2).seq (sh.seq l2), ?_⟩
            rw [DpAll_length r1, DpAll_length r2, zipD_len]
            omega
    · rename_i xs ys
      obtain ⟨v, w, rfl, h1, h2⟩ := all2 q1
      cases h1 with
      | @tup l us _ l1 r1 =>
        cases h2 with
        | @tup l' ws _ l2 r2 =>
          refine ⟨l, l', us, ws, rfl, .inr ⟨sqT_same (hid_le A H1) l1, sqT_same (hid_le A H1) l2, p _ H1 s1 ⟨fun i x e A' H2 sh hA' => ?_, fun A' H2 sh => ?_⟩⟩⟩
          · obtain ⟨y, z, e1, e2, rfl⟩ := zipD_get _ _ i x e
            obtain ⟨u, f1, k1⟩ := DpAll_get r1 e1
            obtain ⟨t, f2, k2⟩ := DpAll_get r2 e2
            have m1 : SqT X.K H2 l us := sqT_same (hid_le A' H2) (sqT_same sh l1)
            have m2 : SqT X.K H2 l' ws := sqT_same (hid_le A' H2) (sqT_same sh l2)
            refine ⟨⟨us, ws, u, t, m1, m2, f1, f2⟩, fun v H3 yd => ?_⟩
            obtain ⟨T, u', t', rfl, nT, rfl, g1, g2⟩ := yd
            have c1 := g1 _ m1
            have c2 := g2 _ m2
            rw [f1] at c1
            rw [f2] at c2
            cases c1
            cases c2
            exact ⟨same_new nT, dp_new_tup hA' nT (.cons (Dp_mono k1 sh) (.cons (Dp_mono k2 sh) .nil))⟩
          · refine ⟨us, ws, sqT_same (hid_le A' H2) (sqT_same sh l1), sqT_same (hid_le A' H2) (sqT_same sh l2), ?_⟩
            rw [DpAll_length r1, DpAll_length r2, zipD_len]
            omega
    · exact False.elim p
/-! enumerate of a list -/
def enumD (k : Nat) : List D → List D
  | [] => []
  | x :: xs => .tuple [.int (k : Nat), x] :: enumD (k + 1) xs
theorem enumD_get : ∀ (k : Nat) (xs : List D) (i : Nat) (z : D), (enumD k xs)[i]? = some z → ∃ x, xs[i]? = some x ∧ z = .tuple [.int ((k + i : Nat) : Int), x]
  | _, [], _, _, h => by simp [enumD] at h
  | k, x :: xs, 0, z, h => by
    simp [enumD] at h
    exact ⟨x, rfl, h.symm⟩
  | k, x :: xs, i + 1, z, h => by
    obtain ⟨y, h1, h2⟩ := enumD_get (k + 1) xs i z (by simpa [enumD] using h)
    exact ⟨y, by simpa using h1, by rw [h2, show k + 1 + i = k + (i + 1) by omega]⟩
theorem enumD_len : ∀ (k : Nat) (xs : List D), (enumD k xs).length = xs.length
  | _, [] => rfl
  | k, x :: xs => by
    show (enumD (k + 1) xs).length + 1 = _
    rw [enumD_len (k + 1) xs]
    rfl
def enum1 : List D → R (List D)
  | [.list xs] => .ok (enumD 0 xs)
  | _ => .no
def iEn (Fs : Nv → R (List D)) : Nv → R (List D) := fun η => (Fs η).bind enum1
theorem i_enum {elts : List Expr} {kk : Nat} {tpos : Pos} (hm : X.mg "enumerate" = none) (ha : TAs X W (vD X.K) [e] Fs) (hg : Gl X "enumerate" := by rfl) (hs : starEach [e] X.env = [(false, eval e X.env)] := by rfl) :
    TI' X W (.Tuple elts kk tpos) (.Call (.Name "enumerate" p) [e] [] pos) (iEn Fs) := piW (pi_enum hg hm ha hs) fun σ H Q ⟨η, A, E, p0⟩ => by
  have p : PostI X.K X.mg W σ A H ((Fs η).bind enum1) Q := p0
  refine (show tA X.K X.mg W (vD X.K) Fs σ H _ from ⟨η, A, E, ?_⟩)
  cases e1 : Fs η with
  | ex c w q => rw [e1] at p; exact p
  | no => rw [e1] at p; exact p
  | ok ds =>
    rw [e1] at p
    have p : PostI X.K X.mg W σ A H (enum1 ds) Q := p
    intro vs H1 s1 q1
    unfold enum1 at p
    split at p
    · rename_i xs
      obtain ⟨v, rfl, h1⟩ := all1 q1
      cases h1 with
      | @lst l us _ l1 r1 =>
        refine ⟨l, us, rfl, (hid_le A H1).seq l1, p _ H1 s1 ⟨fun i x e A' H2 sh hA' => ?_, fun A' H2 sh => ?_⟩⟩
        · obtain ⟨y, e1, rfl⟩ := enumD_get 0 _ i x e
          obtain ⟨u, f1, k1⟩ := DpAll_get r1 e1
          have m1 : SqL X.K H2 l us := (hid_le A' H2).seq (sh.seq l1)
          refine ⟨⟨us, u, m1, f1⟩, fun v H3 yd => ?_⟩
          obtain ⟨T, u', rfl, nT, rfl, g1⟩ := yd
          have c1 := g1 _ m1
          rw [f1] at c1
          cases c1
          rw [Nat.zero_add]
          exact ⟨same_new nT, dp_new_tup hA' nT (.cons (.int _) (.cons (Dp_mono k1 sh) .nil))⟩
        · exact ⟨us, (hid_le A' H2).seq (sh.seq l1), by rw [DpAll_length r1, enumD_len]; exact Nat.le_refl _⟩
    · exact False.elim p
end

/-! ### the law's own end -/
theorem dp_script {K : PySem.W.Frag} {H : Hp} {a : Addr} {ns : List Int} (h : SqL K H a (ns.map V.int)) : DpAll K (hid [] H) [.ref a] [.list (ns.map PyData.int)] :=
  .cons (.lst (by
    have e : hid [] H = H := by
      funext b
      exact hid_out (List.not_mem_nil)
    rw [e]
    exact h) (DpAll_ints ns)) .nil
theorem law_end {P : Program} {w : World} {K : PySem.W.Frag} {mg mb : Str → Option Value} {k : Nat} {fa a : Addr} {fd : FuncData} {x : Str} {Fn : List D → R D} {s1 : Shared} {vs : List Value} {ns : List Int}
    (KX : K.In s1.heap) (hns : s1.heap.Ns mainGlobals mg) (hb : s1.heap.Ns builtinsNs mb) (hbb : ∀ x : Str, x ≠ "__name__" → mb x = bootBuiltins x) (hlim : s1.heap.NoLimit) (hg : s1.gens = #[])
    (ha : s1.heap.get? a = some { cls := .type "list", data := .seq vs.toArray }) (hi : PyProof.Rows.IntsAre vs ns) (hl : ns.length ≤ sizeLine) (hr : Room k callerA)
    (F : ∀ base : Heap, K.In base → base.Ns mainGlobals mg → FnG P w K mg base k fa fd [x] (spD K mg (rD K) 1 Fn)) (hbind : ∀ (s : Shared) (u : Value), BindsTo s fd ⟨[u], []⟩ [(x, u)]) (ht : Fn [.list (ns.map PyData.int)] = .ok (.bool true)) :
    codeAny (model P w) callerA (.call (.ref fa) ⟨[.ref a], []⟩) (fun r s' => r = .ok (.ret (.bool true)) ∧ OldK s1.heap s'.heap ∧ s'.os = s1.os ∧ PyProof.Rows.AllBare s'.gens) s1 := by
  have rel := vals_ints hi
  have lenV := hi.length
  -- the abstract heap: the script, locked, unless the module itself holds it
  have main : ∀ T : Hp, (∀ b, T b = none ∨ (b = a ∧ K.lookup a = none ∧ T b = some (.frz { cls := .type "list", data := .seq vs.toArray } (.lst (ns.map V.int))))) → SqL K T a (ns.map V.int) →
      codeAny (model P w) callerA (.call (.ref fa) ⟨[.ref a], []⟩) (fun r s' => r = .ok (.ret (.bool true)) ∧ OldK s1.heap s'.heap ∧ s'.os = s1.os ∧ PyProof.Rows.AllBare s'.gens) s1 := by
    intro T hT hS
    have free : ∀ {b : Addr} {o : Obj}, K.lookup b = some o → T b = none := fun {b o} e => by
      rcases hT b with z | ⟨rfl, z, _⟩
      · exact z
      · rw [z] at e; cases e
    have nsfree : ∀ {b : Addr} {m : Str → Option Value}, s1.heap.Ns b m → (hidT s1.heap T).Ns b m := fun {b m} ⟨o, es, ep, e, d, r⟩ => by
      refine ⟨o, es, ep, hidT_get e ?_, d, r⟩
      rcases hT b with z | ⟨rfl, _, z⟩
      · exact z
      · rw [ha] at e
        cases e
        exact nomatch (show Data.seq vs.toArray _ = Data.dict es ep from d)
    have kin : K.In (hidT s1.heap T) := fun b o e => hidT_get (KX b o e) (free e)
    have hM : Mod K mg (hidT s1.heap T) := ⟨kin, nsfree hns, ⟨mb, nsfree hb, hbb⟩, hlim.elim fun m z => ⟨m, nsfree z.1, z.2⟩⟩
    have hok : HOk P w T s1.heap := fun b o z => by
      rcases hT b with q | ⟨rfl, _, q⟩
      · rw [q] at z; cases z
      · rw [q] at z
        cases z
        exact ⟨ha, by rw [List.length_map]; exact hl, vs, _, rel, ha⟩
    have e0 : Env0 P w K mg (hidT s1.heap T) callerA [] s1 T := ⟨rfl, hM, fun b o e => of_hidT e, Nat.le_of_eq (hidT_size _ _), trivial, fun b z => absurd (show b ∈ ([] : List Addr) from z) List.not_mem_nil, hok, .of_eq hg⟩
    refine codeAny_mono ((F _ kin (nsfree hns)).run callerA [] s1 T ⟨[.ref a], []⟩ [.ref a] [.ref a] (fun v _ => v = .bl true) (fun _ _ _ => False) hr rfl e0 (hbind s1 (.ref a)) (.cons rfl .nil) ?_) fun r s2 out => ?_
    · exact ⟨_, [], rfl, fun p z => (List.not_mem_nil z).elim, dp_script hS, by
        rw [ht]
        exact fun v H' _ q => by
          cases (show Dp K (hid [] H') v (.bool true) from q)
          rfl⟩
    · match r, out with
      | .error e, out =>
        obtain ⟨_, _, _, _, _, _, _, _, _, _, _, _, z⟩ := out
        exact z.elim
      | .ok .next, out => exact out.elim
      | .ok .brk, out => exact out.elim
      | .ok .cont, out => exact out.elim
      | .ok (.ret u), out =>
        obtain ⟨v, T2, os, bare, un, hok2, rv, q⟩ := out
        have q : v = .bl true := q
        subst q
        cases (show u = Value.bool true from rv)
        refine ⟨rfl, OldK.of_keep fun b o e => ?_, os, bare⟩
        rcases hT b with z | ⟨rfl, _, z⟩
        · exact un.keep b o e z (fun m => absurd (show b ∈ ([] : List Addr) from m) List.not_mem_nil) List.not_mem_nil
        · have z2 := un.frzs b _ _ z
          obtain ⟨f2, _⟩ := hok2 b _ z2
          obtain ⟨f1, _⟩ := hok b _ z
          rw [e] at f1
          cases f1
          exact f2
  cases hk : K.lookup a with
  | some o =>
    have e := KX a o hk
    rw [ha] at e
    cases e
    exact main (fun _ => none) (fun _ => .inl rfl) (.inr ⟨_, vs.toArray, _, hk, rfl, rfl, rfl, by rw [List.size_toArray, lenV]; exact hl, by simpa using rel⟩)
  | none =>
    refine main (fun b => if b = a then some (.frz { cls := .type "list", data := .seq vs.toArray } (.lst (ns.map V.int))) else none) (fun b => ?_) (.inl (.inr ⟨_, if_pos rfl⟩))
    by_cases hba : b = a
    · exact .inr ⟨hba, hk, if_pos hba⟩
    · exact .inl (if_neg hba)
/-- what k_head leaves, from the law's promise by data -/
theorem walk_end {l : PySem.W.OpenLaw} {n k : Nat} {q : Program} {loose : List Str} {XP : (Str → Option Value) → Heap → Prop} {YP : World → Heap → Prop} {d : DefRec} {K : Params → PySem.W.Frag} {x : Str} {Fn : List D → R D}
    (hn : l.most = some n) (hn2 : n ≤ sizeLine) (hdf : d.params.defaults = []) (hr : Room k callerA) (hY : ∀ (w : World) (h : Heap), YP w h → (K w.params).In h)
    (F : ∀ (w : World) (mg : Str → Option Value) (fa : Addr) (h : Heap), (K w.params).In h → h.Ns mainGlobals mg → mg d.name = some (.ref fa) → ∃ fd : FuncData, (∀ (s : Shared) (u : Value), BindsTo s fd ⟨[u], []⟩ [(x, u)]) ∧
      ∀ base : Heap, (K w.params).In base → base.Ns mainGlobals mg → FnG l.prog w (K w.params) mg base k fa fd [x] (spD (K w.params) mg (rD (K w.params)) 1 Fn))
    (ht : ∀ ns : List Int, ns.length ≤ n → Fn [.list (ns.map PyData.int)] = .ok (.bool true)) : PySem.W.WalkO q loose XP YP l.row.toRowW d [] (fun f vs => PySem.call f vs) := by
  refine Att.attach_call hn hdf fun w s0 s1 mg mb fa o pm cd doc a vs ns G Y ho hd hcd hmg hobj hints hlen hg => ?_
  obtain ⟨fd, hb, hF⟩ := F w mg fa _ (hY w _ Y) G.T.g hmg
  exact law_end (hY w _ Y) G.T.g G.T.b G.T.builtins G.T.nolimit hg hobj hints (Nat.le_trans hlen hn2) hr hF hb (ht ns hlen)
end Bd
/-! D9: reversed ranges; slices with a step. -/
namespace Bd
open PySem L2

section
variable {X : Cx} {W : WX} {rl : Rl} {a b c e tg iter : Expr} {Fa Fb F : Nv → R D} {Fs : Nv → R (List D)} {pos p p2 : Pos} {es : List Expr}
/-! for k in reversed(range(n)) -/
def rrD (n : Nat) : List D := (List.range n).map fun i => PyData.int ((n : Int) - 1 - (i : Nat))
def rr1 : D → R (List D)
  | .int n => if -(2 ^ 62) ≤ n ∧ n < 2 ^ 62 then .ok (rrD n.toNat) else .no
  | _ => .no
def iRR (F : Nv → R D) : Nv → R (List D) := fun η => (F η).bind rr1
theorem walks_rr {K : PySem.W.Frag} {H1 : Hp} {A : List Addr} {lo : Int} {n : Nat} (h : lo = (n : Int) - 1) : Walks K (Itc lo (-1) n) H1 A (rrD n) where
  step := fun i x e A' H2 s _ => by
    unfold rrD at e
    rw [List.getElem?_map] at e
    by_cases hi : i < n
    · rw [List.getElem?_range hi] at e
      cases e
      refine ⟨hi, fun u H3 y => ?_⟩
      obtain ⟨rfl, rfl⟩ := y
      refine ⟨Same.refl _, ?_⟩
      have e2 : lo + (i : Nat) * (-1) = (n : Int) - 1 - (i : Nat) := by rw [h]; omega
      rw [e2]
      exact .int _
    · rw [List.getElem?_eq_none (by simp; omega)] at e
      cases e
  stop := fun A' H2 s => by
    unfold rrD
    rw [List.length_map, List.length_range]
    exact Nat.le_refl _
theorem i_revR (hm : X.mg "reversed" = none) (hm2 : X.mg "range" = none) (ha : TO X W a Fa) (hg : Gl X "reversed" := by rfl) (hg2 : Gl X "range" := by rfl) (na : starEach [a] X.env = (false, eval a X.env) :: starEach [] X.env := by rfl)
    (hs : starEach [.Call (.Name "range" p2) [a] [] pos] X.env = (false, eval (.Call (.Name "range" p2) [a] [] pos) X.env) :: starEach [] X.env := by rfl) {q : Pos} {q2 : Pos} : TI' X W tg (.Call (.Name "reversed" q) [.Call (.Name "range" p2) [a] [] pos] [] q2) (iRR Fa) :=
  piW (pi_revR hg hm (prg_1 hg2 hm2 ha na) hs) fun σ H Q ⟨η, A, E, p0⟩ => by
    have p : PostI X.K X.mg W σ A H ((Fa η).bind rr1) Q := p0
    refine (show tR X.K X.mg W (rO X.K) Fa σ H _ from ⟨η, A, E, ?_⟩)
    cases e1 : Fa η with
    | ex c w q => rw [e1] at p; exact p
    | no => rw [e1] at p; exact p
    | ok d =>
      rw [e1] at p
      intro v H1 s1 q1
      cases d with
      | int n =>
        have p : PostI X.K X.mg W σ A H (if -(2 ^ 62) ≤ n ∧ n < 2 ^ 62 then .ok (rrD n.toNat) else .no) Q := p
        split at p
        · rename_i hb
          have e0 : n - 0 = n := by omega
          refine ⟨n, rO_int q1, by decide, by decide, hb.1, hb.2, ?_⟩
          rw [e0]
          exact p _ H1 s1 (walks_rr (by omega))
        · exact False.elim p
      | _ => exact False.elim p
/-! [::-1] -/
section
variable {prog : Program} {w : World} {A : Around} {E : Value → Shared → Prop} {s : Shared}
theorem part_back {v : Value} {t : Tok} {Q : Option Int → Shared → Prop} (e : v = .int (-1) t) (h : Q (some (-1)) s) : wpAny (model prog w) A (Builtin.Slice.slicePartIndex v) Q E s := by
  subst e
  exact HT.slicePart_ (.int (-1) t) h
theorem back_adjust (n : Nat) : Builtin.Slice.sliceAdjust none none (-1) (n : Int) = ((n : Int) - 1, -1) := by
  unfold Builtin.Slice.sliceAdjust
  rfl
theorem back_places (n : Nat) : Builtin.Slice.slicePlaces ((n : Int) - 1) (-1) (-1) = n := by
  unfold Builtin.Slice.slicePlaces
  have h1 : ¬ ((-1 : Int) > 0) := by omega
  simp only [h1, if_false, Int.neg_neg, Int.ediv_one]
  split <;> omega
theorem back_pick (xs : Array Value) : ((List.range xs.size).filterMap fun (m : Nat) => xs[((xs.size : Int) - 1 + (m : Int) * (-1)).toNat]?) = xs.toList.reverse := by
  have e : ∀ l : List Nat, (l.filterMap fun (m : Nat) => xs[((xs.size : Int) - 1 + (m : Int) * (-1)).toNat]?) = (l.map fun k => xs.size - 1 - k).filterMap (xs[·]?) := by
    intro l
    induction l with
    | nil => rfl
    | cons m r ih =>
      have : ((xs.size : Int) - 1 + (m : Int) * (-1)).toNat = xs.size - 1 - m := by omega
      rw [List.map_cons, List.filterMap_cons, List.filterMap_cons, ih, this]
  rw [e, PySem.W.krv_range, List.filterMap_reverse, PySem.W.krv_all]
theorem tuple_back {t sl : Addr} {items : Array Value} {u : Tok} {Q : Value → Shared → Prop} (ht : PyProof.Rows.IsTup s.heap t items) (hs : s.heap.IsSliceOf sl .none .none (.int (-1) u))
    (h : Q (.ref s.heap.objs.size) { s with heap := s.heap.push { cls := .type "tuple", data := .seq items.toList.reverse.toArray } }) (hsz : items.size ≤ sizeLine) : wpAny (model prog w) A (getItem (.ref t) (.ref sl)) Q E s := by
  have fits : sizeOk (.seq items.toList.reverse.toArray) := by
    show items.toList.reverse.toArray.size ≤ sizeLine
    simpa using hsz
  obtain ⟨os, hos, hcs, hds⟩ := id hs
  have tyS : s.TypeIs (.ref sl) "slice" := ⟨os, hos, hcs⟩
  unfold getItem
  try with_reducible refine wpAny_holding ?_
  first | refine wpAny_bind (wpAny_pure ?_) | skip
  refine wpAny_bind (wpAny_sequenceKey ht.typeIs (by decide) ?_)
  refine wpAny_bind (wpAny_callSpecial?_slot (name := Str.ofString "__getitem__") ht.typeIs PyProof.Rows.slot_tuple_getitem (wpAny_call_entry PyProof.Rows.slot_tuple_getitem ht.typeIs PyProof.Rows.entry_tuple_getitem ?_ (PyProof.Rows.args_tuple_getitem _ _)))
  refine wpAny_bind (m := Builtin.Tuple.tupleItemsOf (.ref t)) (PyProof.Rows.tupleItemsOf_ ht ?_)
  refine wpAny_bind (wpAny_typeOf tyS ?_)
  rw [if_pos (by decide)]
  have app : ∀ {R1 : Int × Int × Nat → Shared → Prop}, R1 ((items.size : Int) - 1, -1, items.size) s → wpAny (model prog w) A.in1 (Builtin.Slice.sliceApplied (.ref sl) (pure (items.size : Int))) R1 (fun _ _ => False) s := fun {R1} r => by
    unfold Builtin.Slice.sliceApplied Builtin.Slice.sliceFields
    refine wpAny_bind (wpAny_bind (wpAny_field hos hds (x := Value.none) rfl (wpAny_bind (wpAny_field hos hds (x := Value.none) rfl (wpAny_bind (wpAny_field hos hds (x := .int (-1) u) rfl (wpAny_pure ?_)))))))
    refine wpAny_bind (part_back rfl ?_)
    show wpAny _ _ (if ((-1 : Int) == 0) = true then _ else _) _ _ s
    rw [if_neg (show ¬ (((-1 : Int) == 0) = true) by decide)]
    refine wpAny_bind (HT.slicePart_ .none (wpAny_bind (HT.slicePart_ .none (wpAny_bind (wpAny_pure ?_)))))
    show wpAny _ _ (match Builtin.Slice.sliceAdjust none none (-1) (items.size : Int) with | (lo, hi) => pure (lo, (-1 : Int), Builtin.Slice.slicePlaces lo hi (-1))) _ _ s
    rw [back_adjust items.size]
    show wpAny _ _ (pure ((items.size : Int) - 1, (-1 : Int), Builtin.Slice.slicePlaces ((items.size : Int) - 1) (-1) (-1))) _ _ s
    rw [back_places]
    exact wpAny_pure r
  refine wpAny_bind (wpAny_mono (app (R1 := fun x s2 => x = ((items.size : Int) - 1, -1, items.size) ∧ s2 = s) ⟨rfl, rfl⟩) (fun x s2 z => ?_) fun _ _ z => z.elim)
  obtain ⟨rfl, rfl⟩ := z
  have no : ¬ (((items.size : Int) - 1 == 0 && (-1 : Int) == 1 && items.size == items.size) = true) := by
    have q : ((-1 : Int) == 1) = false := by decide
    rw [q, Bool.and_false, Bool.false_and]
    exact Bool.false_ne_true
  show wpAny _ _ (if (((items.size : Int) - 1 == 0 && (-1 : Int) == 1 && items.size == items.size) = true) then _ else _) _ _ s2
  rw [if_neg no, back_pick]
  first
    | exact wpAny_bind (m := Builtin.Tuple.tupleExact _) (wpAny_newObj_type (wpAny_pure ⟨_, rfl, wpAny_pure h⟩) fits)
    | exact wpAny_bind (m := Builtin.Tuple.tupleExact _) (wpAny_newObj_type (wpAny_bind (wpAny_pure (wpAny_pure ⟨_, rfl, wpAny_pure h⟩))) fits)
    | exact wpAny_bind (wpAny_bind (m := Builtin.Tuple.tupleExact _) (wpAny_newObj_type (wpAny_pure (wpAny_pure ⟨_, rfl, wpAny_pure h⟩)) fits))
end
/-- a list or a tuple, from its end -/
def revV : D → Option D
  | .list xs => some (.list xs.reverse)
  | .tuple xs => some (.tuple xs.reverse)
  | _ => none
def tRevT (K : PySem.W.Frag) (te : TE) : TE := fun σ H Q => te σ H fun x H1 => ∃ a xs, x = .ref a ∧ SqT K H1 a xs ∧ ∀ q, H1 q = none → Q (.ref q) (upd H1 q (.tup xs.reverse))
theorem pe_revT {te : TE} {k : Nat} {q1 q2 q3 : Pos} (he : PE X e te) : PE X (.Subscript e (.Slice none none (some (.UnaryOp .USub (.Constant (.int 1) k q1) q2)) q3) pos) (tRevT X.K te) := by
  refine ⟨fun pins s σ H Q I h => PyProof.Rows.Subscript_ (thn (he.run pins s σ H _ I h) fun v s1 z => ?_)⟩
  obtain ⟨x, H1, I1, r1, a, xs, rfl, hx, q⟩ := z
  cases r1
  have st : PO X (some (.UnaryOp .USub (.Constant (.int 1) k q1) q2)) (tPart (tUn (rU fun i => .int (-i)) (tC (.int 1)))) := po_some (pe_un un_neg pe_int)
  have none0 : ∀ {s2 : Shared} {H2 : Hp}, Inv X pins σ H2 s2 → wpAny (model X.prog X.w) X.A (evalPart none X.env) (fun u s3 => ∃ o H3, Inv X pins σ H3 s3 ∧ IsPart u o ∧ o = none ∧ H3 = H2) X.xe s2 := fun {s2 H2} I2 => po_none.run pins s2 σ H2 (fun o H3 => o = none ∧ H3 = H2) I2 ⟨rfl, rfl⟩
  refine wpAny_Slice (thn (none0 I1) fun vl s2 y => ?_)
  obtain ⟨l, H2, I2, pl, el, eh⟩ := y
  subst el eh
  refine thn (none0 I2) fun vu s3 y => ?_
  obtain ⟨u, H3, I3, pu, eu, eh⟩ := y
  subst eu eh
  refine thn (st.run pins s3 σ H3 (fun o H4 => o = some (-1) ∧ H4 = H3) I3 ⟨1, rfl, -1, rfl, rfl, rfl⟩) fun vs s4 y => ?_
  obtain ⟨o, H4, I4, ps, eo, eh⟩ := y
  subst eo eh
  cases pl
  cases pu
  obtain ⟨t, et⟩ : ∃ t, vs = .int (-1) t := by
    cases ps with
    | int i t => exact ⟨t, rfl⟩
  subst et
  have I5 : Inv X pins σ H4 { s4 with heap := s4.heap.push { cls := .type "slice", data := .fields #[.none, .none, .int (-1) t] } } := I4.kept (t' := s4.toks) fun b ob z => Heap.get?_push_of_some _ z
  obtain ⟨its, rv, tt, hz⟩ := I5.tuple hx
  have hlen := rv.length
  show wpAny (model X.prog X.w) X.A (PyProof.Rows.subscriptTail e (.Slice none none (some (.UnaryOp .USub (.Constant (.int 1) k q1) q2)) q3) (.ref a) (.ref s4.heap.objs.size)) (EP X pins σ Q) X.xe { s4 with heap := s4.heap.push { cls := .type "slice", data := .fields #[.none, .none, .int (-1) t] } }
  refine PyProof.Rows.tail_any (ops := [.ref a, .ref s4.heap.objs.size]) tt.typeIs (PyProof.Rows.slot_tuple_getitem.lookup) ?_ (by with_unfolding_all rfl)
  refine tuple_back tt (Heap.IsSliceOf.new _ .none .none (.int (-1) t)) ?_ (by rw [List.size_toArray]; omega)
  refine ⟨.ref _, _, I5.laid (t' := s4.toks) (o := .tup xs.reverse) (fun b ob z => Heap.get?_push_of_some _ z) (Nat.le_refl _) ?_, rfl, q _ (I5.hok.fresh (Nat.le_refl _))⟩
  exact ⟨by rw [List.length_reverse]; exact hz, _, rv.reverse, PyProof.Rows.IsTup.new _ _⟩
theorem t_rev {k : Nat} {q1 q2 q3 : Pos} (ha : TO X W a Fa) : TD X W (.Subscript a (.Slice none none (some (.UnaryOp .USub (.Constant (.int 1) k q1) q2)) q3) pos) (e1 revV Fa) := ⟨fun pins s σ H Q I q => by
  obtain ⟨η, A, E, p0⟩ := id q
  have p : Post X.K X.mg W (rD X.K) σ A H ((Fa η).bind fun x => .of (revV x)) Q := p0
  have viaL : tRevL X.K (tR X.K X.mg W (rO X.K) Fa) σ H Q → wpAny (model X.prog X.w) X.A (eval (.Subscript a (.Slice none none (some (.UnaryOp .USub (.Constant (.int 1) k q1) q2)) q3) pos) X.env) (EP X pins σ Q) X.xe s := fun z => (pe_revL ha).run pins s σ H Q I z
  have viaT : tRevT X.K (tR X.K X.mg W (rO X.K) Fa) σ H Q → wpAny (model X.prog X.w) X.A (eval (.Subscript a (.Slice none none (some (.UnaryOp .USub (.Constant (.int 1) k q1) q2)) q3) pos) X.env) (EP X pins σ Q) X.xe s := fun z => (pe_revT ha).run pins s σ H Q I z
  cases e1 : Fa η with
  | ex c w z =>
    rw [e1] at p
    exact viaL (show tR X.K X.mg W (rO X.K) Fa σ H _ from ⟨η, A, E, by rw [e1]; exact p⟩)
  | no => rw [e1] at p; exact False.elim p
  | ok d =>
    rw [e1] at p
    cases d with
    | list xs =>
      refine viaL (show tR X.K X.mg W (rO X.K) Fa σ H _ from ⟨η, A, E, ?_⟩)
      rw [e1]
      intro v H1 s1 q1
      obtain ⟨l, vs, rfl, h1, q2⟩ := rO_list q1
      exact ⟨l, vs, rfl, h1, fun z hz => p _ _ (s1.trans (same_new hz)) (rF_D (nofree E.tr) (back_F _ _ _ _ _ _ s1 (dp_new_list (E.same s1).tr hz (DpAll_rev q2))))⟩
    | tuple xs =>
      refine viaT (show tR X.K X.mg W (rO X.K) Fa σ H _ from ⟨η, A, E, ?_⟩)
      rw [e1]
      intro v H1 s1 q1
      obtain ⟨l, vs, rfl, h1, _, q2⟩ := rO_tup q1
      exact ⟨l, vs, rfl, h1, fun z hz => p _ _ (s1.trans (same_new hz)) (dp_new_tup (E.same s1).tr hz (DpAll_rev q2))⟩
    | _ => exact False.elim p⟩
end
end Bd
/-! D10: expressions that change lists that the def owns or is handed: an answer and the names behind it. -/
namespace Bd
open PySem L2

/-! ### what may change -/
/-- the contents of lists of the def's own may differ -/
def Kin (η η' : Nv) : Prop := η'.length = η.length ∧ ∀ (i : Nat) (xs' : OL), η'[i]? = some (.own xs') → ∃ xs : OL, η[i]? = some (.own xs) ∧ xs.b = xs'.b
theorem Kin.refl (η : Nv) : Kin η η := ⟨rfl, fun _ xs e => ⟨xs, e, rfl⟩⟩
theorem Kin.trans {a b c : Nv} (h : Kin a b) (k : Kin b c) : Kin a c := ⟨k.1.trans h.1, fun i xs e => by
  obtain ⟨ys, e1, q1⟩ := k.2 i xs e
  obtain ⟨zs, e2, q2⟩ := h.2 i ys e1
  exact ⟨zs, e2, q2.trans q1⟩⟩
/-- all but those lists stays -/
def Mv (σ : L2.St) (η : Nv) (H H' : Hp) : Prop := ∀ (a : Addr) (o : HO), H a = some o → (∀ (i : Nat) (xs : OL), η[i]? = some (.own xs) → σ[i]? ≠ some (some (.ref a))) → H' a = some o
theorem Mv.of {σ : L2.St} {η : Nv} {H H' : Hp} (s : Same H H') : Mv σ η H H' := fun a o e _ => s a o e
theorem Mv.trans {σ : L2.St} {η η1 : Nv} {H H1 H2 : Hp} (k : Kin η η1) (h : Mv σ η H H1) (h2 : Mv σ η1 H1 H2) : Mv σ η H H2 := fun a o e n => h2 a o (h a o e n) fun i xs e1 => by
  obtain ⟨ys, q, _⟩ := k.2 i xs e1
  exact n i ys q
section
variable {K : PySem.W.Frag} {H H' H1 H2 : Hp} {A : List Addr} {σ : L2.St} {η η' η1 : Nv}
theorem own_in (E : EnvD K H A σ η) {i : Nat} {xs : OL} {a : Addr} (e : η[i]? = some (.own xs)) (e2 : σ[i]? = some (some (.ref a))) : a ∈ A ∧ ∃ vs, H a = some (.lst vs) ∧ DpAll K (hid A H) vs xs.l := by
  obtain ⟨o, e3, q⟩ := E.at_ i _ e
  rw [e2] at e3
  cases e3
  exact q
theorem own_ref (E : EnvD K H A σ η) {i : Nat} {xs : OL} (e : η[i]? = some (.own xs)) : ∃ a, σ[i]? = some (some (.ref a)) ∧ a ∈ A ∧ ∃ vs, H a = some (.lst vs) ∧ DpAll K (hid A H) vs xs.l := by
  obtain ⟨o, e3, q⟩ := E.at_ i _ e
  match o, q, e3 with
  | some (.ref a), q, e3 => exact ⟨a, e3, q⟩
theorem Mv.hid (E : EnvD K H A σ η) (m : Mv σ η H H') : Same (hid A H) (hid A H') := fun b o e => by
  obtain ⟨n, e⟩ := hid_some e
  rw [hid_out n]
  exact m b o e fun i xs e1 e2 => n (own_in E e1 e2).1
theorem Mv.there (E : EnvD K H A σ η) (E' : EnvD K H' A σ η') (m : Mv σ η H H') {a : Addr} (h : H a ≠ none) : H' a ≠ none := by
  by_cases hA : a ∈ A
  · exact E'.tr a hA
  · cases e : H a with
    | none => exact absurd e h
    | some o =>
      rw [m a o e fun i xs e1 e2 => hA (own_in E e1 e2).1]
      exact fun z => nomatch z
end
/-- the heap ahead may be an earlier one, however lists were changed -/
def Back2 (rl : Rl) : Prop := ∀ H H1 H' A v d, (∀ a, H a ≠ none → H1 a ≠ none) → rl H1 H' A v d → rl H H' A v d
theorem back2_D {K : PySem.W.Frag} : Back2 (rD K) := fun _ _ _ _ _ _ _ h => h
theorem back2_F {K : PySem.W.Frag} : Back2 (rF K) := fun H H1 _ _ _ _ s ⟨p, vs, ds, a, b, c, r⟩ => ⟨p, vs, ds, a, b, by
  cases e : H p with
  | none => rfl
  | some o => exact absurd c (s p (by rw [e]; exact fun z => nomatch z)), r⟩
def PostX (K : PySem.W.Frag) (rl : Rl) (σ : L2.St) (A : List Addr) (H : Hp) (η : Nv) (r : R (D × Nv)) (Q : VK) : Prop :=
  match r with
  | .ok p => ∀ v H', EnvD K H' A σ p.2 → Kin η p.2 → Mv σ η H H' → rl H H' A v p.1 → Q v H'
  | _ => False
def tX (K : PySem.W.Frag) (rl : Rl) (F : Nv → R (D × Nv)) : TE := fun σ H Q => ∃ η A, EnvD K H A σ η ∧ PostX K rl σ A H η (F η) Q
def TX (X : Cx) (rl : Rl) (e : Expr) (F : Nv → R (D × Nv)) : Prop := PE X e (tX X.K rl F)
def PostXA (K : PySem.W.Frag) (σ : L2.St) (A : List Addr) (H : Hp) (η : Nv) (r : R (List D × Nv)) (Q : List V → Hp → Prop) : Prop :=
  match r with
  | .ok p => ∀ vs H', EnvD K H' A σ p.2 → Kin η p.2 → Mv σ η H H' → DpAll K (hid A H') vs p.1 → Q vs H'
  | _ => False
def tXA (K : PySem.W.Frag) (Fs : Nv → R (List D × Nv)) : TA := fun σ H Q => ∃ η A, EnvD K H A σ η ∧ PostXA K σ A H η (Fs η) Q
def TXA (X : Cx) (es : List Expr) (Fs : Nv → R (List D × Nv)) : Prop := PA X es (tXA X.K Fs)
def PostXB (K : PySem.W.Frag) (σ : L2.St) (A : List Addr) (H : Hp) (η : Nv) (r : R (Bool × Nv)) (Q : Bool → Hp → Prop) : Prop :=
  match r with
  | .ok p => ∀ H', EnvD K H' A σ p.2 → Kin η p.2 → Mv σ η H H' → Q p.1 H'
  | _ => False
def tXB (K : PySem.W.Frag) (G : Nv → R (Bool × Nv)) : TT := fun σ H Q => ∃ η A, EnvD K H A σ η ∧ PostXB K σ A H η (G η) Q
def TXB (X : Cx) (e : Expr) (G : Nv → R (Bool × Nv)) : Prop := PT X e (tXB X.K G)
def TXW (X : Cx) (e : Expr) (G : Nv → R (Bool × Nv)) : Prop := PW X e (tXB X.K G)
section
variable {K : PySem.W.Frag} {rl : Rl} {H H1 : Hp} {A : List Addr} {σ : L2.St} {η η1 : Nv} {Q : VK}
theorem PostX.step {r : R (D × Nv)} (b : Back2 rl) (E : EnvD K H A σ η) (E1 : EnvD K H1 A σ η1) (k : Kin η η1) (m : Mv σ η H H1) (h : PostX K rl σ A H η r Q) : PostX K rl σ A H1 η1 r Q := by
  cases r with
  | ok p => exact fun v H' E' k' m' q => h v H' E' (k.trans k') (Mv.trans k m m') (b _ _ _ _ _ _ (fun a z => Mv.there E E1 m z) q)
  | ex c w p => exact h
  | no => exact h
theorem PostXA.step {r : R (List D × Nv)} {Q : List V → Hp → Prop} (k : Kin η η1) (m : Mv σ η H H1) (h : PostXA K σ A H η r Q) : PostXA K σ A H1 η1 r Q := by
  cases r with
  | ok p => exact fun v H' E' k' m' q => h v H' E' (k.trans k') (Mv.trans k m m') q
  | ex c w p => exact h
  | no => exact h
theorem PostXB.step {r : R (Bool × Nv)} {Q : Bool → Hp → Prop} (k : Kin η η1) (m : Mv σ η H H1) (h : PostXB K σ A H η r Q) : PostXB K σ A H1 η1 r Q := by
  cases r with
  | ok p => exact fun H' E' k' m' => h H' E' (k.trans k') (Mv.trans k m m')
  | ex c w p => exact h
  | no => exact h
/-- an answer, then what it leads to: the step of all rules below -/
theorem stepX {α : Type} {F : Nv → R (D × Nv)} {g : D × Nv → R α} {rl' : Rl} {Pn : Nv → R α → Prop} {R1 : V → Hp → Prop} (E : EnvD K H A σ η) (p : Pn η ((F η).bind g)) (hx : ∀ c w z, ¬ Pn η (.ex c w z)) (hn : ¬ Pn η .no)
    (k : ∀ (d : D) (η1 : Nv) (v : V) (H1 : Hp), F η = .ok (d, η1) → EnvD K H1 A σ η1 → Kin η η1 → Mv σ η H H1 → rl' H H1 A v d → Pn η (g (d, η1)) → R1 v H1) : tX K rl' F σ H R1 := by
  refine ⟨η, A, E, ?_⟩
  cases e : F η with
  | ex c w q => rw [e] at p; exact absurd p (hx c w q)
  | no => rw [e] at p; exact absurd p hn
  | ok d =>
    rw [e] at p
    obtain ⟨d, η1⟩ := d
    exact fun v H1 E1 k1 m1 q => k d η1 v H1 e E1 k1 m1 q p
end
section
variable {X : Cx} {W : WX} {rl : Rl} {a b c e : Expr} {es rest : List Expr} {Fa Fb F : Nv → R (D × Nv)} {Fs : Nv → R (List D × Nv)} {Ga Gb G : Nv → R (Bool × Nv)} {pos : Pos} {f : D → D → Option D}
/-- what changes nothing -/
def up (F : Nv → R D) : Nv → R (D × Nv) := fun η => match F η with
  | .ok d => .ok (d, η)
  | _ => .no
theorem x_up {F : Nv → R D} (h : PE X e (tR X.K X.mg W rl F)) : TX X rl e (up F) := peW h fun σ H Q ⟨η, A, E, p⟩ => ⟨η, A, E, by
  unfold up at p
  cases e : F η with
  | ok d =>
    rw [e] at p
    exact fun v H' s q => p v H' (E.same s) (Kin.refl η) (Mv.of s) q
  | ex c w z => rw [e] at p; exact False.elim p
  | no => rw [e] at p; exact False.elim p⟩
theorem xF_D (h : TX X (rF X.K) e F) : TX X (rD X.K) e F := peW h fun σ H Q ⟨η, A, E, p⟩ => ⟨η, A, E, by
  cases e : F η with
  | ok d =>
    rw [e] at p
    exact fun v H' E' k m q => p v H' E' k m (rF_D (fun _ hp => E.fresh hp) q)
  | ex c w z => rw [e] at p; exact False.elim p
  | no => rw [e] at p; exact False.elim p⟩
/-! a new list -/
def PostXF (K : PySem.W.Frag) (σ : L2.St) (A : List Addr) (H : Hp) (η : Nv) (r : R (D × Nv)) (Q : VK) : Prop :=
  match r with
  | .ok p => ∀ l vs ds H', p.1 = .list ds → EnvD K H' (l :: A) σ p.2 → Kin η p.2 → Mv σ η H H' → H l = none → H' l = some (.lst vs) → DpAll K (hid (l :: A) H') vs ds → Q (.ref l) H'
  | _ => False
def tXF (K : PySem.W.Frag) (F : Nv → R (D × Nv)) : TE := fun σ H Q => ∃ η A, EnvD K H A σ η ∧ PostXF K σ A H η (F η) Q
def TXF (X : Cx) (e : Expr) (F : Nv → R (D × Nv)) : Prop := PE X e (tXF X.K F)
theorem EnvD.shrink {K : PySem.W.Frag} {H H' : Hp} {A : List Addr} {σ : L2.St} {η η' : Nv} {l : Addr} (E' : EnvD K H' (l :: A) σ η') (E : EnvD K H A σ η) (k : Kin η η') : EnvD K H' A σ η' where
  len := E'.len
  at_ := fun j sl e => by
    obtain ⟨o, e1, q⟩ := E'.at_ j sl e
    refine ⟨o, e1, ?_⟩
    cases sl with
    | no => cases o <;> trivial
    | d x =>
      cases o with
      | none => exact q
      | some v => exact Dp_mono (show Dp K (hid (l :: A) H') v x from q) (hid_mono fun _ m => List.mem_cons_of_mem _ m)
    | own zs =>
      match o, q, e1 with
      | some (.ref b), ⟨m, ws, e2, q⟩, e1 =>
        obtain ⟨ys, e3, _⟩ := k.2 j zs e
        exact ⟨(own_in E e3 e1).1, ws, e2, DpAll_mono q (hid_mono fun _ m => List.mem_cons_of_mem _ m)⟩
    | m x => exact q.m' (hid_mono fun _ m => List.mem_cons_of_mem _ m)
  ap := E'.ap
  tr := fun a m => E'.tr a (List.mem_cons_of_mem _ m)
theorem xF_d (h : TXF X e F) : TX X (rD X.K) e F := peW h fun σ H Q ⟨η, A, E, p⟩ => ⟨η, A, E, by
  cases e : F η with
  | ok d =>
    rw [e] at p
    exact fun l vs ds H' ed E' k m hl hl' q => p (.ref l) H' (E'.shrink E k) k m (by
      rw [ed]
      exact .lst (SqL.of (by rw [hid_out fun z => E.tr l z hl]; exact hl')) (DpAll_mono q (hid_mono fun _ m => List.mem_cons_of_mem _ m)))
  | ex c w z => rw [e] at p; exact False.elim p
  | no => rw [e] at p; exact False.elim p⟩
theorem xF_up {F : Nv → R D} (h : TF X W e F) : TXF X e (up F) := peW h fun σ H Q ⟨η, A, E, p⟩ => ⟨η, A, E, by
  unfold up at p
  cases e : F η with
  | ok d =>
    rw [e] at p
    intro v H' s q
    obtain ⟨l, vs, ds, rfl, rfl, hp, hp', q⟩ := q
    exact p l vs ds H' rfl (E.new s hp (by rw [hp']; exact fun z => nomatch z)) (Kin.refl η) (Mv.of s) hp hp' q
  | ex c w z => rw [e] at p; exact False.elim p
  | no => rw [e] at p; exact False.elim p⟩
/-! arguments -/
def x0 : Nv → R (List D × Nv) := fun η => .ok ([], η)
def xC (Fa : Nv → R (D × Nv)) (Fs : Nv → R (List D × Nv)) : Nv → R (List D × Nv) := fun η => (Fa η).bind fun p => (Fs p.2).bind fun q => .ok (p.1 :: q.1, q.2)
theorem xa_nil : TXA X [] x0 := paW pa_nil fun σ H Q ⟨η, A, E, p⟩ => p [] H E (Kin.refl η) (Mv.of (Same.refl _)) .nil
theorem xa_cons (ha : TX X (rD X.K) a Fa) (hs : TXA X es Fs) (h1 : starEach (a :: es) X.env = (false, eval a X.env) :: starEach es X.env := by rfl) : TXA X (a :: es) (xC Fa Fs) :=
  paW (pa_cons ha hs h1) fun σ H Q ⟨η, A, E, p⟩ => stepX (Pn := fun η r => PostXA X.K σ A H η r Q) E p (fun _ _ _ z => z) (fun z => z) fun d η1 v H1 e E1 k1 m1 q p => by
    refine (show tXA X.K Fs σ H1 _ from ⟨η1, A, E1, ?_⟩)
    have p : PostXA X.K σ A H η ((Fs η1).bind fun q => .ok (d :: q.1, q.2)) Q := p
    cases e2 : Fs η1 with
    | ex c w z => rw [e2] at p; exact p
    | no => rw [e2] at p; exact p
    | ok ds =>
      rw [e2] at p
      exact fun vs H2 E2 k2 m2 qs => p (v :: vs) H2 E2 (k1.trans k2) (Mv.trans k1 m1 m2) (.cons (Dp_mono q (Mv.hid E1 m2)) qs)
theorem dpAll_V {K : PySem.W.Frag} {H : Hp} {A : List Addr} : ∀ {vs : List V} {ds : List D}, DpAll K (hid A H) vs ds → AllV (vO K) H A vs ds
  | _, _, .nil => trivial
  | _, _, .cons h t => ⟨.inl h, dpAll_V t⟩
/-! built-ins, displays -/
def xN (f : List D → Option D) (Fs : Nv → R (List D × Nv)) : Nv → R (D × Nv) := fun η => (Fs η).bind fun p => (R.of (f p.1)).bind fun d => .ok (d, p.2)
theorem stepXA {α : Type} {K : PySem.W.Frag} {H : Hp} {A : List Addr} {σ : L2.St} {η : Nv} {g : List D × Nv → R α} {Pn : Nv → R α → Prop} {R1 : List V → Hp → Prop} (E : EnvD K H A σ η) (p : Pn η ((Fs η).bind g)) (hx : ∀ c w z, ¬ Pn η (.ex c w z)) (hn : ¬ Pn η .no)
    (k : ∀ (ds : List D) (η1 : Nv) (vs : List V) (H1 : Hp), EnvD K H1 A σ η1 → Kin η η1 → Mv σ η H H1 → DpAll K (hid A H1) vs ds → Pn η (g (ds, η1)) → R1 vs H1) : tXA K Fs σ H R1 := by
  refine ⟨η, A, E, ?_⟩
  cases e : Fs η with
  | ex c w q => rw [e] at p; exact absurd p (hx c w q)
  | no => rw [e] at p; exact absurd p hn
  | ok d =>
    rw [e] at p
    obtain ⟨d, η1⟩ := d
    exact fun v H1 E1 k1 m1 q => k d η1 v H1 E1 k1 m1 q p
theorem opN_x {r : List V → Hp → VK → Prop} {f : List D → Option D} (hb : Back2 rl) (ho : OpN X rl r f) {σ : L2.St} {H : Hp} {Q : VK} (h : tX X.K rl (xN f Fs) σ H Q) : tCB r (tXA X.K Fs) σ H Q := by
  obtain ⟨η, A, E, p⟩ := h
  refine (show tXA X.K Fs σ H _ from stepXA (Pn := fun η r => PostX X.K rl σ A H η r Q) E p (fun _ _ _ z => z) (fun z => z) fun ds η1 vs H1 E1 k1 m1 q p => ?_)
  have p : PostX X.K rl σ A H η ((R.of (f ds)).bind fun d => .ok (d, η1)) Q := p
  cases e2 : f ds with
  | none => rw [e2] at p; exact False.elim p
  | some d =>
    rw [e2] at p
    exact ho H1 A vs ds d Q E1.tr (dpAll_V q) e2 fun v H' s q' => p v H' (E1.same s) k1 (Mv.trans k1 m1 (Mv.of s)) (hb _ _ _ _ _ _ (fun a z => Mv.there E E1 m1 z) q')
theorem x_callB {id : String} {x : Str} {p : Pos} {r : List V → Hp → VK → Prop} {f : List D → Option D} (hb : Back2 rl) (hc : CallR X (.builtin id) r) (ho : OpN X rl r f) (hg : Gl X x) (hm : X.mg x = none) (hv : bootBuiltins x = some (.builtin id))
    (ha : TXA X (e :: es) Fs) (hn : x ≠ "__name__" := by decide) (hdb : (x == ("__debug__" : Str)) = false := by decide) (he : starEach (e :: es) X.env = (false, eval e X.env) :: starEach es X.env := by rfl)
    (hpl : (backTo pos (starEach es X.env)).any (·.1) = false := by rfl) : TX X rl (.Call (.Name x p) (e :: es) [] pos) (xN f Fs) :=
  peW (pe_callB hc hg hm hv ha hn hdb he hpl) fun _ _ _ => opN_x hb ho
theorem x_callTy {T : String} {x : Str} {p : Pos} {r : List V → Hp → VK → Prop} {f : List D → Option D} (hb : Back2 rl) (hc : CallR X (.type T) r) (ho : OpN X rl r f) (hg : Gl X x) (hm : X.mg x = none) (hv : bootBuiltins x = some (.type T))
    (ha : TXA X (e :: es) Fs) (hn : x ≠ "__name__" := by decide) (hdb : (x == ("__debug__" : Str)) = false := by decide) (he : starEach (e :: es) X.env = (false, eval e X.env) :: starEach es X.env := by rfl)
    (hpl : (backTo pos (starEach es X.env)).any (·.1) = false := by rfl) : TX X rl (.Call (.Name x p) (e :: es) [] pos) (xN f Fs) :=
  peW (pe_callTy hc hg hm hv ha hn hdb he hpl) fun _ _ _ => opN_x hb ho
theorem x_tup {x1 : Nat} (h : TXA X es Fs) : TX X (rD X.K) (.Tuple es x1 pos) (xN (fun ds => if ds.length ≤ lineN then some (.tuple ds) else none) Fs) := peW (pe_tup h) fun σ H Q ⟨η, A, E, p⟩ =>
  stepXA (Pn := fun η r => PostX X.K (rD X.K) σ A H η r Q) E p (fun _ _ _ z => z) (fun z => z) fun ds η1 vs H1 E1 k1 m1 q p => by
    have p : PostX X.K (rD X.K) σ A H η ((R.of (if ds.length ≤ lineN then some (.tuple ds) else none)).bind fun d => .ok (d, η1)) Q := p
    split at p
    · rename_i hz
      exact ⟨by rw [DpAll_length q, line_eq]; exact hz, fun r hr => p _ _ (E1.same (same_new hr)) k1 (Mv.trans k1 m1 (Mv.of (same_new hr))) (dp_new_tup E1.tr hr q)⟩
    · exact False.elim p
theorem x_lst (h : TXA X es Fs) : TXF X (.List es pos) (xN (fun ds => if ds.length ≤ lineN then some (.list ds) else none) Fs) := peW (pe_lst h) fun σ H Q ⟨η, A, E, p⟩ =>
  stepXA (Pn := fun η r => PostXF X.K σ A H η r Q) E p (fun _ _ _ z => z) (fun z => z) fun ds η1 vs H1 E1 k1 m1 q p => by
    have p : PostXF X.K σ A H η ((R.of (if ds.length ≤ lineN then some (.list ds) else none)).bind fun d => .ok (d, η1)) Q := p
    split at p
    · rename_i hz
      refine ⟨by rw [DpAll_length q, line_eq]; exact hz, fun r hr => p r vs ds _ rfl (E1.new (same_new hr) hr (by rw [upd_same]; exact fun z => nomatch z)) k1 (Mv.trans k1 m1 (Mv.of (same_new hr))) ?_ upd_same (DpAll_mono q (hid_new (same_new hr) hr))⟩
      cases hM0 : H r with
      | none => rfl
      | some o => exact absurd hr (Mv.there E E1 m1 (by rw [hM0]; exact fun z => nomatch z))
    · exact False.elim p
/-! operators -/
def x2 (f : D → D → Option D) (Fa Fb : Nv → R (D × Nv)) : Nv → R (D × Nv) := fun η => (Fa η).bind fun p => (Fb p.2).bind fun q => (R.of (f p.1 q.1)).bind fun d => .ok (d, q.2)
theorem op2_x {r : R2} (hb : Back2 rl) (ho : Op2 X rl r f) {σ : L2.St} {H : Hp} {Q : VK} (h : tX X.K rl (x2 f Fa Fb) σ H Q) : tOp r (tX X.K (rD X.K) Fa) (tX X.K (rD X.K) Fb) σ H Q := by
  obtain ⟨η, A, E, p⟩ := h
  refine (show tX X.K (rD X.K) Fa σ H _ from stepX (Pn := fun η r => PostX X.K rl σ A H η r Q) E p (fun _ _ _ z => z) (fun z => z) fun x η1 v H1 e E1 k1 m1 q p => ?_)
  refine (show tX X.K (rD X.K) Fb σ H1 _ from stepX (Pn := fun _ r => PostX X.K rl σ A H η r Q) E1 p (fun _ _ _ z => z) (fun z => z) fun y η2 w H2 e' E2 k2 m2 q' p => ?_)
  have p : PostX X.K rl σ A H η ((R.of (f x y)).bind fun d => .ok (d, η2)) Q := p
  cases e2 : f x y with
  | none => rw [e2] at p; exact False.elim p
  | some d =>
    rw [e2] at p
    have M := Mv.trans k1 m1 m2
    exact ho H2 A v w x y d Q E2.tr (.inl (Dp_mono q (Mv.hid E1 m2))) (.inl q') e2 fun u H' s z => p u H' (E2.same s) (k1.trans k2) (Mv.trans (k1.trans k2) M (Mv.of s)) (hb _ _ _ _ _ _ (fun a z => Mv.there E E2 M z) z)
theorem x_op {op : Operator} {r : R2} (hb : Back2 rl) (hop : OpR X (binaryOp op) r) (ho : Op2 X rl r f) (ha : TX X (rD X.K) a Fa) (hc : TX X (rD X.K) b Fb) : TX X rl (.BinOp a op b pos) (x2 f Fa Fb) :=
  peW (pe_op hop ha hc) fun _ _ _ => op2_x hb ho
theorem x_ix (ha : TX X (rD X.K) a Fa) (hb : TX X (rD X.K) b Fb) (hs : PlainIx b := by exact fun _ _ => rfl) : TX X (rD X.K) (.Subscript a b pos) (x2 ixV Fa Fb) := peW (pe_ix ix_seq ha hb hs) fun _ _ _ => op2_x back2_D o_ix
end
end Bd
/-! D11: tests that change lists; calls; defs that are handed a list and change it. -/
namespace Bd
open PySem L2

section
variable {X : Cx} {W : WX} {rl : Rl} {a b c e : Expr} {es rest : List Expr} {Fa Fb F : Nv → R (D × Nv)} {Fs : Nv → R (List D × Nv)} {Ga Gb G : Nv → R (Bool × Nv)} {pos : Pos} {f : D → D → Option D}
theorem back2_B : Back2 rB := fun _ _ _ _ _ _ _ h => h
theorem x_cmp {op : CmpOp} {r : R2} (hop : OpR X (compareOp op) r) (ho : Op2 X rB r f) (ha : TX X (rD X.K) a Fa) (hc : TX X (rD X.K) b Fb) (h1 : behindInMarks op b = false) : TX X (rD X.K) (.Compare a [op] [b] pos) (x2 f Fa Fb) :=
  peW (pe_cmpR hop ha hc h1) fun _ _ _ => op2_x back2_D fun H A x y a b d Q hA h1 h2 e k => ho H A x y a b d Q hA h1 h2 e fun v H' s q => k v H' s (rB_D q)
def xb (F : Nv → R (D × Nv)) : Nv → R (Bool × Nv) := fun η => (F η).bind fun p => (tru p.1).bind fun k => .ok (k, p.2)
theorem xB_of {K : PySem.W.Frag} {σ : L2.St} {A : List Addr} {H : Hp} {η : Nv} {Q : Bool → Hp → Prop} {d : D} {η1 : Nv} (p : PostXB K σ A H η ((tru d).bind fun k => .ok (k, η1)) Q) : ∃ k, tru d = .ok k ∧ ∀ H', EnvD K H' A σ η1 → Kin η η1 → Mv σ η H H' → Q k H' := by
  cases e : tru d with
  | ex c w z => rw [e] at p; exact False.elim p
  | no => rw [e] at p; exact False.elim p
  | ok k => rw [e] at p; exact ⟨k, rfl, p⟩
theorem xb_val (ha : TX X (rD X.K) a Fa) (he : ∀ whole, isTrue a X.env whole = (do let v ← whole; standAt a.pos; holding [v] (truthy v)) := by intro _; rfl) : TXB X a (xb Fa) :=
  ptW (pt_truth ha he) fun σ H Q ⟨η, A, E, p⟩ => stepX (Pn := fun η r => PostXB X.K σ A H η r Q) E p (fun _ _ _ z => z) (fun z => z) fun d η1 v H1 e E1 k1 m1 q p => by
    obtain ⟨k, ek, r⟩ := xB_of p
    exact ⟨k, tru_of (Dp_mono q (hid_le A H1)) ek, r H1 E1 k1 m1⟩
theorem xb_cmp {op : CmpOp} {r : R2} (hop : OpR X (compareOp op) r) (ho : Op2 X rB r f) (ha : TX X (rD X.K) a Fa) (hb : TX X (rD X.K) b Fb) (h1 : behindInMarks op b = false) : TXB X (.Compare a [op] [b] pos) (xb (x2 f Fa Fb)) :=
  ptW (pt_cmpR hop ha hb h1) fun σ H Q ⟨η, A, E, p⟩ => op2_x back2_B ho (stepX (rl' := rB) (Pn := fun η r => PostXB X.K σ A H η r Q) E p (fun _ _ _ z => z) (fun z => z) fun d η1 v H1 e E1 k1 m1 q p => by
    obtain ⟨k, ek, r⟩ := xB_of p
    obtain ⟨k', rfl, rfl⟩ := q
    cases ek
    exact ⟨_, rfl, r H1 E1 k1 m1⟩)
def upB (G : Nv → R Bool) : Nv → R (Bool × Nv) := fun η => match G η with
  | .ok k => .ok (k, η)
  | _ => .no
theorem xb_up {G : Nv → R Bool} (h : TB X W e G) : TXB X e (upB G) := ptW h fun σ H Q ⟨η, A, E, p⟩ => ⟨η, A, E, by
  unfold upB at p
  cases e : G η with
  | ok d =>
    rw [e] at p
    exact fun H' s => p H' (E.same s) (Kin.refl η) (Mv.of s)
  | ex c w z => rw [e] at p; exact False.elim p
  | no => rw [e] at p; exact False.elim p⟩
/-! and, or, not -/
theorem stepXB {α : Type} {K : PySem.W.Frag} {H : Hp} {A : List Addr} {σ : L2.St} {η : Nv} {g : Bool × Nv → R α} {Pn : Nv → R α → Prop} {R1 : Bool → Hp → Prop} (E : EnvD K H A σ η) (p : Pn η ((G η).bind g)) (hx : ∀ c w z, ¬ Pn η (.ex c w z)) (hn : ¬ Pn η .no)
    (k : ∀ (b : Bool) (η1 : Nv) (H1 : Hp), EnvD K H1 A σ η1 → Kin η η1 → Mv σ η H H1 → Pn η (g (b, η1)) → R1 b H1) : tXB K G σ H R1 := by
  refine ⟨η, A, E, ?_⟩
  cases e : G η with
  | ex c w q => rw [e] at p; exact absurd p (hx c w q)
  | no => rw [e] at p; exact absurd p hn
  | ok d =>
    rw [e] at p
    obtain ⟨d, η1⟩ := d
    exact fun H1 E1 k1 m1 => k d η1 H1 E1 k1 m1 p
def xAnd (Ga Gb : Nv → R (Bool × Nv)) : Nv → R (Bool × Nv) := fun η => (Ga η).bind fun p => if p.1 then Gb p.2 else .ok (false, p.2)
def xOr (Ga Gb : Nv → R (Bool × Nv)) : Nv → R (Bool × Nv) := fun η => (Ga η).bind fun p => if p.1 then .ok (true, p.2) else Gb p.2
def xNot (Ga : Nv → R (Bool × Nv)) : Nv → R (Bool × Nv) := fun η => (Ga η).bind fun p => .ok (!p.1, p.2)
theorem xw_and1 (ha : TXB X a Ga) : TXW X (.BoolOp .And [a] pos) Ga := pw_and1 ha
theorem xw_or1 (ha : TXB X a Ga) : TXW X (.BoolOp .Or [a] pos) Ga := pw_or1 ha
theorem xw_and (ha : TXB X a Ga) (hb : TXW X (.BoolOp .And (b :: rest) pos) Gb) : TXW X (.BoolOp .And (a :: b :: rest) pos) (xAnd Ga Gb) := pwW (pw_and ha hb) fun σ H Q ⟨η, A, E, p⟩ => stepXB (Pn := fun η r => PostXB X.K σ A H η r Q) E p (fun _ _ _ z => z) (fun z => z) fun k η1 H1 E1 k1 m1 p => by
  cases k with
  | true => exact iteT ⟨η1, A, E1, PostXB.step k1 m1 p⟩
  | false => exact iteF (p H1 E1 k1 m1)
theorem xw_or (ha : TXB X a Ga) (hb : TXW X (.BoolOp .Or (b :: rest) pos) Gb) : TXW X (.BoolOp .Or (a :: b :: rest) pos) (xOr Ga Gb) := pwW (pw_or ha hb) fun σ H Q ⟨η, A, E, p⟩ => stepXB (Pn := fun η r => PostXB X.K σ A H η r Q) E p (fun _ _ _ z => z) (fun z => z) fun k η1 H1 E1 k1 m1 p => by
  cases k with
  | true => exact iteT (p H1 E1 k1 m1)
  | false => exact iteF ⟨η1, A, E1, PostXB.step k1 m1 p⟩
theorem xb_w (h : TXW X e G) : TXB X e G := PW.pt h
theorem xb_not (ha : TXB X a Ga) : TXB X (.UnaryOp .Not a pos) (xNot Ga) := ptW (pt_not ha) fun σ H Q ⟨η, A, E, p⟩ => stepXB (Pn := fun η r => PostXB X.K σ A H η r Q) E p (fun _ _ _ z => z) (fun z => z) fun k η1 H1 E1 k1 m1 p => p H1 E1 k1 m1
/-! a if c else b -/
def xIf (G : Nv → R (Bool × Nv)) (Fa Fb : Nv → R (D × Nv)) : Nv → R (D × Nv) := fun η => (G η).bind fun p => if p.1 then Fa p.2 else Fb p.2
theorem x_if (hb' : Back2 rl) (hc : TXB X c G) (ha : TX X rl a Fa) (hb : TX X rl b Fb) : TX X rl (.IfExp c a b pos) (xIf G Fa Fb) := peW (pe_ifExp hc ha hb) fun σ H Q ⟨η, A, E, p⟩ => stepXB (Pn := fun η r => PostX X.K rl σ A H η r Q) E p (fun _ _ _ z => z) (fun z => z) fun k η1 H1 E1 k1 m1 p => by
  cases k with
  | true => exact iteT ⟨η1, A, E1, PostX.step hb' E E1 k1 m1 p⟩
  | false => exact iteF ⟨η1, A, E1, PostX.step hb' E E1 k1 m1 p⟩
/-! ### calls of defs -/
def xCall (Fn : List D → R D) (Fs : Nv → R (List D × Nv)) : Nv → R (D × Nv) := fun η => (Fs η).bind fun p => (noex (Fn p.1)).bind fun d => .ok (d, p.2)
theorem x_call {x : Str} {p : Pos} {fa : Addr} {fd : FuncData} {ps : List Str} {k n : Nat} {Fn : List D → R D} (hb' : Back2 rl) (F : FnG X.prog X.w X.K X.mg X.base k fa fd ps (spD X.K X.mg rl n Fn)) (hr : Room k X.A) (hgd : X.A.guards = some []) (hg : Gl X x) (hm : X.mg x = some (.ref fa)) (hk : PySem.W.keepIn X.K (.ref fa) = true) (hb : Binds X.K fd ps []) (ha : TXA X (e :: es) Fs) (hfs : ∀ η ds, Fs η = .ok ds → ds.1.length = n)
    (hdb : (x == ("__debug__" : Str)) = false := by decide) (he : starEach (e :: es) X.env = (false, eval e X.env) :: starEach es X.env := by rfl) (hpl : (backTo pos (starEach es X.env)).any (·.1) = false := by rfl) :
    TX X rl (.Call (.Name x p) (e :: es) [] pos) (xCall Fn Fs) := by
  refine ⟨fun pins s σ H Q I h => wpAny_Call_Name_kw (ld_glob I hg hm ?_ hdb)⟩
  obtain ⟨η, A, E, q0⟩ := h
  have q : PostX X.K rl σ A H η ((Fs η).bind fun p => (noex (Fn p.1)).bind fun d => .ok (d, p.2)) Q := q0
  have hx : PassesAt (L2.CX X.prog X.w) X σ (fun _ _ _ => False) := fun pins H s e s' I c => by
    obtain ⟨_, _, _, _, _, _, _, _, _, _, _, _, z⟩ := c
    exact z.elim
  refine PySem.W.callWith_K (h₀ := X.base) I.ok.mod.kin hk (thn (ha.run pos pins s σ H (fun vs H1 => spD X.K X.mg rl n Fn vs H1 Q (fun _ _ _ => False)) I ⟨η, A, E, ?_⟩) fun us s1 ⟨vs, H1, I1, r1, q1⟩ => ⟨I1.kIn, run_g F hr hgd hb hx I1 r1 q1⟩) he hpl
  cases e1 : Fs η with
  | ex c w z => rw [e1] at q; exact q
  | no => rw [e1] at q; exact q
  | ok ds =>
    rw [e1] at q
    have q : PostX X.K rl σ A H η ((noex (Fn ds.1)).bind fun d => .ok (d, ds.2)) Q := q
    intro vs H1 E1 k1 m1 qv
    refine ⟨ds.1, A, hfs η ds e1, E1.tr, qv, ?_⟩
    cases e2 : Fn ds.1 with
    | ex c w z => rw [e2] at q; exact False.elim q
    | no => rw [e2] at q; exact False.elim q
    | ok d =>
      rw [e2] at q
      exact fun v H' s z => q v H' (E1.same s) k1 (Mv.trans k1 m1 (Mv.of s)) (hb' _ _ _ _ _ _ (fun a z => Mv.there E E1 m1 z) z)
end
/-! ### a def that is handed a list and changes it -/
def spK (K : PySem.W.Frag) (rl : Rl) (n : Nat) (Fk : List D → List D → R (D × List D)) : Sp := fun vs H Q _ => ∃ a ws xs kx ds A, vs = .ref a :: ws ∧ a ∈ A ∧ H a = some (.lst xs) ∧ DpAll K (hid A H) xs kx ∧ ds.length = n ∧ DpAll K (hid A H) ws ds ∧ (∀ p ∈ A, H p ≠ none) ∧ match Fk kx ds with
  | .ok r => ∀ v H', (∀ b o, b ≠ a → H b = some o → H' b = some o) → (∀ p ∈ A, H' p ≠ none) → (∃ xs', H' a = some (.lst xs') ∧ DpAll K (hid A H') xs' r.2) → rl H H' A v r.1 → Q v H'
  | _ => False
theorem EnvD.put {K : PySem.W.Frag} {H H' : Hp} {A : List Addr} {σ : L2.St} {η : Nv} {i : Nat} {xs : OL} {a : Addr} {ws : List V} {ys : List D} (E : EnvD K H A σ η) (hi : η[i]? = some (.own xs)) (ho : σ[i]? = some (some (.ref a))) (kp : ∀ b o, b ≠ a → H b = some o → H' b = some o) (tr : ∀ p ∈ A, H' p ≠ none)
    (ha : H' a = some (.lst ws)) (q : DpAll K (hid A H') ws ys) : EnvD K H' A σ (η.set i (.own ⟨xs.b, ys⟩)) := by
  have hA : a ∈ A := (own_in E hi ho).1
  have hl : i < η.length := (List.getElem?_eq_some_iff.mp hi).1
  have sh : Same (hid A H) (hid A H') := fun b o e => by
    obtain ⟨n, e⟩ := hid_some e
    rw [hid_out n]
    exact kp b o (fun z => n (by rw [z]; exact hA)) e
  have gt : ∀ (j : Nat) (sl : Sl), (η.set i (.own ⟨xs.b, ys⟩))[j]? = some sl → (j = i ∧ sl = .own ⟨xs.b, ys⟩) ∨ (j ≠ i ∧ η[j]? = some sl) := fun j sl h => by
    by_cases hj : i = j
    · subst hj
      rw [List.getElem?_set_self hl] at h
      cases h
      exact .inl ⟨rfl, rfl⟩
    · rw [List.getElem?_set_ne hj] at h
      exact .inr ⟨fun z => hj z.symm, h⟩
  refine ⟨by rw [List.length_set, E.len], fun j sl h => ?_, fun j k b us zs h1 h2 h3 h4 => ?_, tr⟩
  · rcases gt j sl h with ⟨rfl, rfl⟩ | ⟨n, h⟩
    · exact ⟨_, ho, hA, ws, ha, q⟩
    · obtain ⟨o, e1, q1⟩ := E.at_ j sl h
      refine ⟨o, e1, ?_⟩
      cases sl with
      | no => cases o <;> trivial
      | d x =>
        cases o with
        | none => exact q1
        | some v => exact Dp_mono (show Dp K (hid A H) v x from q1) sh
      | own zs =>
        match o, q1, e1 with
        | some (.ref b), ⟨m, us, e2, q1⟩, e1 =>
          have nb : b ≠ a := fun z => by
            subst z
            exact n (E.ap j i b zs xs h hi e1 ho)
          exact ⟨m, us, kp _ _ nb e2, DpAll_mono q1 sh⟩
      | m x => exact q1.m' sh
  · rcases gt j _ h1 with ⟨ej, _⟩ | ⟨n, g1⟩
    · rcases gt k _ h2 with ⟨ek, _⟩ | ⟨n2, g2⟩
      · rw [ej, ek]
      · rw [ej] at h3 ⊢
        exact E.ap i k b xs zs hi g2 h3 h4
    · rcases gt k _ h2 with ⟨ek, _⟩ | ⟨n2, g2⟩
      · rw [ek] at h4 ⊢
        exact E.ap j i b us xs g1 hi h3 h4
      · exact E.ap j k b us zs g1 g2 h3 h4
theorem Kin.put {η : Nv} {i : Nat} {xs : OL} {ys : List D} (hi : η[i]? = some (.own xs)) : Kin η (η.set i (.own ⟨xs.b, ys⟩)) := ⟨List.length_set .., fun j zs e => by
  by_cases hj : i = j
  · subst hj
    rw [List.getElem?_set_self (List.getElem?_eq_some_iff.mp hi).1] at e
    cases e
    exact ⟨xs, hi, rfl⟩
  · rw [List.getElem?_set_ne hj] at e
    exact ⟨zs, e, rfl⟩⟩
section
variable {X : Cx} {rl : Rl} {e : Expr} {es : List Expr} {Fs : Nv → R (List D × Nv)} {pos : Pos}
def xPut (i : Nat) (Fk : List D → List D → R (D × List D)) (p : List D × Nv) : R (D × Nv) := match p.2[i]? with
  | some (.own xs) => (Fk xs.l p.1).bind fun r => .ok (r.1, p.2.set i (.own ⟨xs.b, r.2⟩))
  | _ => .no
/-- f(name, ..): the list at name is changed -/
def xCallK (i : Nat) (Fk : List D → List D → R (D × List D)) (Fs : Nv → R (List D × Nv)) : Nv → R (D × Nv) := fun η => match η[i]? with
  | some (.own _) => (Fs η).bind (xPut i Fk)
  | _ => .no
theorem x_callK {x dn : Str} {p pd : Pos} {fa : Addr} {fd : FuncData} {ps : List Str} {k n : Nat} {Fk : List D → List D → R (D × List D)} (i : Nat) (hb' : Back2 rl) (F : FnG X.prog X.w X.K X.mg X.base k fa fd ps (spK X.K rl n Fk)) (hr : Room k X.A) (hgd : X.A.guards = some []) (hg : Gl X x) (hm : X.mg x = some (.ref fa)) (hk : PySem.W.keepIn X.K (.ref fa) = true) (hb : Binds X.K fd ps [])
    (ha : TXA X es Fs) (hfs : ∀ η ds, Fs η = .ok ds → ds.1.length = n) (hi : X.N[i]? = some dn := by rfl) (hv : Vis X.env.scope dn := by first | exact Or.inl rfl | exact Or.inr (Or.inl rfl) | exact Or.inr (Or.inr rfl)) (hd : (dn == ("__debug__" : Str)) = false := by decide) (hcd : (dn == ("__classdict__" : Str)) = false := by decide)
    (hdb : (x == ("__debug__" : Str)) = false := by decide) (he : starEach (.Name dn pd :: es) X.env = (false, eval (.Name dn pd) X.env) :: starEach es X.env := by rfl) (hpl : (backTo pos (starEach es X.env)).any (·.1) = false := by rfl) :
    TX X rl (.Call (.Name x p) (.Name dn pd :: es) [] pos) (xCallK i Fk Fs) := by
  refine ⟨fun pins s σ H Q I h => wpAny_Call_Name_kw (ld_glob I hg hm ?_ hdb)⟩
  obtain ⟨η, A, E, q0⟩ := h
  have q : PostX X.K rl σ A H η (xCallK i Fk Fs η) Q := q0
  unfold xCallK at q
  split at q
  case h_2 => exact False.elim q
  rename_i ys hy
  have hx : PassesAt (L2.CX X.prog X.w) X σ (fun _ _ _ => False) := fun pins H s e s' I c => by
    obtain ⟨_, _, _, _, _, _, _, _, _, _, _, _, z⟩ := c
    exact z.elim
  refine PySem.W.callWith_K (h₀ := X.base) I.ok.mod.kin hk (thn ((pa_cons (pe_var hi hv hd hcd) ha he).run pos pins s σ H (fun vs H1 => spK X.K rl n Fk vs H1 Q (fun _ _ _ => False)) I ?_) fun us s1 ⟨vs, H1, I1, r1, q1⟩ => ⟨I1.kIn, run_g F hr hgd hb hx I1 r1 q1⟩) he hpl
  cases e1 : Fs η with
  | ex c w z => rw [e1] at q; exact False.elim q
  | no => rw [e1] at q; exact False.elim q
  | ok ds =>
    rw [e1] at q
    have q : PostX X.K rl σ A H η (xPut i Fk ds) Q := q
    unfold xPut at q
    split at q
    case h_2 => exact False.elim q
    rename_i xs hx1
    cases e2 : Fk xs.l ds.1 with
    | ex c w z => rw [e2] at q; exact False.elim q
    | no => rw [e2] at q; exact False.elim q
    | ok r =>
      rw [e2] at q
      have q : PostX X.K rl σ A H η (.ok (r.1, ds.2.set i (.own ⟨xs.b, r.2⟩))) Q := q
      obtain ⟨a, ea, _⟩ := own_ref E hy
      refine ⟨.ref a, ea, ?_⟩
      refine (show tXA X.K Fs σ H _ from ⟨η, A, E, ?_⟩)
      rw [e1]
      intro vs H1 E1 k1 m1 qv
      obtain ⟨mA, us, eu, qu⟩ := own_in E1 hx1 ea
      refine ⟨a, vs, us, xs.l, ds.1, A, rfl, mA, eu, qu, hfs η ds e1, qv, E1.tr, ?_⟩
      rw [e2]
      intro v H' kp tr ⟨us', eu', qu'⟩ rr
      have Ep := E1.put hx1 ea kp tr eu' qu'
      have m2 : Mv σ ds.2 H1 H' := fun b o eb n => kp b o (fun z => n i xs hx1 (by rw [z]; exact ea)) eb
      exact q v H' Ep (k1.trans (Kin.put hx1)) (Mv.trans k1 m1 m2) (hb' _ _ _ _ _ _ (fun a z => Mv.there E E1 m1 z) rr)
end
end Bd
/-! D12: statements with such expressions; the rule of a def that is handed a list. -/
namespace Bd
open PySem L2

section
variable {X : Cx} {f : Fx} {rl : Rl} {e c : Expr} {es : List Expr} {F : Nv → R (D × Nv)} {G : Nv → R (Bool × Nv)} {Gs Gt : Nv → Rs} {pos : Pos}
theorem EnvS.mv {K : PySem.W.Frag} {M : List Addr} {H0 : Hp} {A0 : List Addr} {H H' : Hp} {B : List Addr} {σ : L2.St} {η η' : Nv} (e : EnvS K M H0 A0 H B σ η) (E' : EnvD K H' (B ++ A0) σ η') (k : Kin η η') (m : Mv σ η H H') : EnvS K M H0 A0 H' B σ η' where
  env := E'
  same := fun b o z => by
    obtain ⟨n, z'⟩ := hid_some (e.same b o z)
    obtain ⟨_, z0⟩ := hid_some z
    rw [hid_out n]
    refine m b o z' fun i xs e1 e2 => ?_
    have q := e.own i b xs e1 e2
    split at q
    · rw [e.new b q] at z0
      cases z0
    · exact n q
  mA := e.mA
  new := e.new
  own := fun i a xs e1 e2 => by
    obtain ⟨ys, e3, q⟩ := k.2 i xs e1
    have z := e.own i a ys e3 e2
    rw [q] at z
    exact z
/-- an expression's answer, then the statement's -/
theorem toS_X {g : D × Nv → Rs} {E : Ends} {σ : L2.St} {H : Hp} (h : tS X.K X.mg f.W f.rl f.M f.H0 f.A0 (fun η => (F η).toS g) E σ H) {R1 : V → Hp → Prop}
    (k : ∀ (η η1 : Nv) (B : List Addr) (H1 : Hp) (v : V) (d : D), EnvS X.K f.M f.H0 f.A0 H B σ η → EnvS X.K f.M f.H0 f.A0 H1 B σ η1 → Kin η η1 → Mv σ η H H1 → Same (hid (B ++ f.A0) H) (hid (B ++ f.A0) H1) → rl H H1 (B ++ f.A0) v d → PostS X.K X.mg f.W f.rl f.M f.H0 f.A0 H B (g (d, η1)) E → R1 v H1)
    (nx : ∀ η c w q, F η ≠ .ex c w q) : tX X.K rl F σ H R1 := by
  obtain ⟨η, B, e, p0⟩ := h
  have p : PostS X.K X.mg f.W f.rl f.M f.H0 f.A0 H B ((F η).toS g) E := p0
  refine ⟨η, B ++ f.A0, e.env, ?_⟩
  cases e1 : F η with
  | ok d =>
    rw [e1] at p
    obtain ⟨d, η1⟩ := d
    exact fun v H1 E1 k1 m1 q => k η η1 B H1 v d e (e.mv E1 k1 m1) k1 m1 (m1.hid e.env) q p
  | ex c w q => exact absurd e1 (nx η c w q)
  | no => rw [e1] at p; exact p
/-- an answer, never an exception -/
def only {α : Type} : R α → R α
  | .ok a => .ok a
  | _ => .no
theorem only_nx {α : Type} (r : R α) (c w : Str) (p : D) : only r ≠ .ex c w p := fun e => by cases r <;> cases e
theorem x_only (h : TX X rl e F) : TX X rl e (fun η => only (F η)) := peW h fun σ H Q ⟨η, A, E, p⟩ => ⟨η, A, E, by
  have p : PostX X.K rl σ A H η (only (F η)) Q := p
  cases e : F η with
  | ok d =>
    rw [e] at p
    exact p
  | ex c w z => rw [e] at p; exact False.elim p
  | no => rw [e] at p; exact False.elim p⟩
def xSet (i : Nat) (F : Nv → R (D × Nv)) : Nv → Rs := fun η => (only (F η)).toS fun p => .nx (p.2.set i (.d p.1))
theorem xs_set (i : Nat) {x : Str} {pos' : Pos} (hN : X.N.Nodup) (he : TX X (rD X.K) e F) (hi : X.N[i]? = some x := by rfl) (hx : Loc X.env.scope x := by first | exact Or.inl rfl | exact Or.inr rfl) (hs : swapsWith e (some (.Name x pos')) pos.line X.env = pure false := by rfl)
    (hf : X.fn x = true ∨ X.env.scope.names.lookup x = some .local := by first | exact .inl rfl | exact .inr rfl) : TS' X f (.Assign [.Name x pos'] e pos) (xSet i F) :=
  psW (ps_set hN hi hx (x_only he) hs hf) fun E σ H h => toS_X h (fun η η1 B H1 v d e0 e k m s q p => p _ H1 B (e.set q) s) fun η => only_nx _
def xOwn (i : Nat) (F : Nv → R (D × Nv)) : Nv → Rs := fun η => (only (F η)).toS fun p => match p.1 with
  | .list xs => .nx (p.2.set i (.own ⟨true, xs⟩))
  | _ => .no
def xAsg (T : Tgt) (F : Nv → R (D × Nv)) : Nv → Rs := fun η => (only (F η)).toS fun p => match T p.1 p.2 with
  | some η' => .nx η'
  | none => .no
theorem xs_asg {T : Tgt} {js : List Nat} {tg : Expr} (he : TX X (rD X.K) e F) (hg : TT' X tg T js) (hs : swapsWithSole [tg] e pos.line X.env = pure false := by rfl) (hw : swappedStores [tg] e X.env = pure none := by rfl) (h1 : (assignEach [tg] X.env).map (·.2) = [assign tg X.env] := by rfl) :
    TS' X f (.Assign [tg] e pos) (xAsg T F) := psW (ps_asg (x_only he) hg hs hw h1) fun E σ H h => toS_X h (fun η η1 B H1 v d e0 e k m s q p => by
    have p : PostS X.K X.mg f.W f.rl f.M f.H0 f.A0 H B (match T d η1 with
      | some η' => .nx η'
      | none => .no) E := p
    split at p
    · rename_i η' et
      refine ⟨η1, B ++ f.A0, d, η', e.env, q, et, fun σ' E' S => p σ' H1 B ⟨E', e.same, e.mA, e.new, fun j a xs h1 h2 => ?_⟩ s⟩
      obtain ⟨n, h1⟩ := S.own j xs h1
      rw [S.rest j n] at h2
      exact e.own j a xs h1 h2
    · exact False.elim p) fun η => only_nx _
def xExpr (F : Nv → R (D × Nv)) : Nv → Rs := fun η => (only (F η)).toS fun p => .nx p.2
theorem xs_expr (he : TX X (rD X.K) e F) (hs : swapsWith e none pos.line X.env = pure false := by rfl) : TS' X f (.Expr e pos) (xExpr F) :=
  psW (ps_expr (x_only he) hs) fun E σ H h => toS_X h (fun η η1 B H1 v d e0 e k m s q p => p σ H1 B e s) fun η => only_nx _
def xRet (F : Nv → R (D × Nv)) : Nv → Rs := fun η => (only (F η)).toS fun p => .rt p.1 p.2
theorem xs_ret (he : TX X (rD X.K) e F) (hr : f.rl = rD X.K) : TS' X f (.Return (some e) pos) (xRet F) :=
  psW (ps_ret (x_only he)) fun E σ H h => toS_X h (fun η η1 B H1 v d e0 e k m s q p => p v _ H1 B e (by rw [hr]; exact Dp_mono q hid_app)) fun η => only_nx _
theorem xs_retF (he : TX X (rF X.K) e F) (hr : f.rl = rF X.K) : TS' X f (.Return (some e) pos) (xRet F) :=
  psW (ps_ret (x_only he)) fun E σ H h => toS_X h (fun η η1 B H1 v d e0 e k m s q p => p v _ H1 B e (by
    rw [hr]
    obtain ⟨l, vs, ds, rfl, rfl, hp, hp1, qs⟩ := q
    exact ⟨l, vs, ds, rfl, rfl, e0.free hp, hp1, DpAll_mono qs (hid_mono fun b m => (List.mem_cons.mp m).elim (fun z => by rw [z]; exact List.mem_cons_self) fun z => List.mem_cons_of_mem _ (List.mem_append_right _ z))⟩)) fun η => only_nx _
/-- a test's answer, then the statement's -/
def xIfS (G : Nv → R (Bool × Nv)) (Gs Gt : Nv → Rs) : Nv → Rs := fun η => (only (G η)).toS fun p => if p.1 then Gs p.2 else Gt p.2
theorem xb_only (h : TXB X c G) : TXB X c (fun η => only (G η)) := ptW h fun σ H Q ⟨η, A, E, p⟩ => ⟨η, A, E, by
  have p : PostXB X.K σ A H η (only (G η)) Q := p
  cases e : G η with
  | ok d => rw [e] at p; exact p
  | ex c w z => rw [e] at p; exact False.elim p
  | no => rw [e] at p; exact False.elim p⟩
theorem xs_if {as bs : List Stmt} (hc : TXB X c G) (ha : TSs X f as Gs) (hb : TSs X f bs Gt) : TS' X f (.If c as bs pos) (xIfS G Gs Gt) := psW (ps_if hc ha hb) fun E σ H h => by
  obtain ⟨η, B, e, p0⟩ := h
  have p : PostS X.K X.mg f.W f.rl f.M f.H0 f.A0 H B ((only (G η)).toS fun p => if p.1 then Gs p.2 else Gt p.2) E := p0
  refine (show tXB X.K G σ H _ from ⟨η, B ++ f.A0, e.env, ?_⟩)
  cases e1 : G η with
  | ex c w q => rw [e1] at p; exact False.elim p
  | no => rw [e1] at p; exact False.elim p
  | ok d =>
    rw [e1] at p
    obtain ⟨k, η1⟩ := d
    intro H1 E1 k1 m1
    have e' := e.mv E1 k1 m1
    have s := m1.hid e.env
    cases k with
    | true => exact iteT ⟨η1, B, e', PostS.keep s p⟩
    | false => exact iteF ⟨η1, B, e', PostS.keep s p⟩
end
/-! ### the def's rule -/
def initK (m : Nat) (kx : List D) (ds : List D) : Nv := .own ⟨false, kx⟩ :: initD (m - 1) ds
def outK (d : D) (η : Nv) : R (D × List D) := match η[(0 : Nat)]? with
  | some (.own xs) => if xs.b then .no else .ok (d, xs.l)
  | _ => .no
def runK (m : Nat) (G : Nv → Rs) (kx : List D) (ds : List D) : R (D × List D) := match G (initK m kx ds) with
  | .rt d η => outK d η
  | _ => .no
section
variable {P : Program} {w : World} {K : PySem.W.Frag} {mg : Str → Option Value} {base : Heap}
theorem envK_start {H : Hp} {A : List Addr} {y : Str} {N : List Str} {a : Addr} {ws : List V} {xs : List V} {kx ds : List D} (hA : ∀ p ∈ A, H p ≠ none) (ma : a ∈ A) (ha : H a = some (.lst xs)) (qk : DpAll K (hid A H) xs kx) (q : DpAll K (hid A H) ws ds) : EnvD K H A (L2.start (y :: N) (.ref a :: ws)) (initK (y :: N).length kx ds) := by
  have e0 := env_start (N := N) hA q
  have es : L2.start (y :: N) (.ref a :: ws) = some (.ref a) :: L2.start N ws := by
    unfold L2.start
    simp
  have ei : initK (y :: N).length kx ds = .own ⟨false, kx⟩ :: initD N.length ds := by
    unfold initK
    simp
  rw [es, ei]
  refine ⟨by rw [List.length_cons, List.length_cons, e0.len], fun i s e => ?_, fun i j b us zs h1 h2 _ _ => ?_, hA⟩
  · cases i with
    | zero =>
      rw [List.getElem?_cons_zero] at e
      cases e
      exact ⟨_, rfl, ma, xs, ha, qk⟩
    | succ i =>
      rw [List.getElem?_cons_succ] at e
      obtain ⟨o, e1, q1⟩ := e0.at_ i s e
      exact ⟨o, by rw [List.getElem?_cons_succ]; exact e1, q1⟩
  · cases i with
    | succ i => exact absurd (by rwa [List.getElem?_cons_succ] at h1) no_own
    | zero =>
      cases j with
      | zero => rfl
      | succ j => exact absurd (by rwa [List.getElem?_cons_succ] at h2) no_own
/-- THE RULE: a def whose first name is handed a list that it may change -/
theorem fn_ruleK {x qual : Str} {st : Stmt} {f : Addr} {fd : FuncData} {y : Str} {N ps : List Str} {k : Nat} {rl : Rl} {G : Nv → Rs} (F : Fun K x qual st f fd) (S : FnScope (y :: N) (y :: ps) (defScope st))
    (hbody : ∀ (cdv : Value) (A : Around) (outer : List PySem.Env) (s : Shared) (H : Hp) (E : XK) (A0 : List Addr) (a : Addr), Room k (A.deeper (PyProof.Rows.envOfC qual (defScope st) s.heap.objs.size f cdv)) → A.guards = some [] →
      TSs (cxOf (L2.CX P w) P w K mg base (y :: N) qual (defScope st) f cdv A outer s H E) ⟨fun cls d _ H => E cls d H, rl, [a], H, A0⟩ (defBody st) G) : FnG P w K mg base (k + 1) f fd (y :: ps) (spK K rl ps.length (runK (y :: N).length G)) := by
  refine okG F S (fun vs H Q E h => ?_) fun cdv A outer s H vs Q E room gds prm => ?_
  · obtain ⟨a, ws, xs, kx, ds, A, rfl, _, _, _, hl, q, _⟩ := h
    rw [List.length_cons, DpAll_length q, hl, List.length_cons]
  · obtain ⟨a, ws, xs, kx, ds, A0, rfl, ma, ha, qk, hl, q, hA, hm⟩ := prm
    refine ⟨_, hbody cdv A outer s H E A0 a room gds, ?_⟩
    have E0 := envK_start (y := y) (N := N) hA ma ha qk q
    refine ⟨initK (y :: N).length kx ds, [], ⟨E0, Same.refl _, ⟨(fun p z => by rw [List.mem_singleton.mp z]; exact ma), hA⟩, (fun p z => (List.not_mem_nil z).elim), fun i b us h1 h2 => ?_⟩, ?_⟩
    · have e0 : i = 0 := by
        cases i with
        | zero => rfl
        | succ i =>
          unfold initK at h1
          exact absurd (by rwa [List.getElem?_cons_succ] at h1) no_own
      subst e0
      unfold initK at h1
      cases h1
      have es : (L2.start (y :: N) (.ref a :: ws))[0]? = some (some (.ref a)) := by
        unfold L2.start
        simp
      rw [es] at h2
      cases h2
      exact List.mem_singleton.mpr rfl
    · unfold runK at hm
      cases eg : G (initK (y :: N).length kx ds) with
      | rt d η =>
        rw [eg] at hm
        intro v σ' H' B' e' q'
        have hm : match outK d η with
          | .ok r => ∀ v H', (∀ b o, b ≠ a → H b = some o → H' b = some o) → (∀ p ∈ A0, H' p ≠ none) → (∃ xs', H' a = some (.lst xs') ∧ DpAll K (hid A0 H') xs' r.2) → rl H H' A0 v r.1 → Q v H'
          | _ => False := hm
        unfold outK at hm
        split at hm
        case h_2 => exact hm.elim
        rename_i r er
        split at er
        case h_2 => cases er
        rename_i us eu
        split at er
        case isTrue => cases er
        rename_i hb
        cases er
        obtain ⟨b, eb, _, vs, ev, qv⟩ := own_ref e'.env eu
        have mb := e'.own 0 b us eu eb
        rw [if_neg hb] at mb
        have ba : b = a := List.mem_singleton.mp mb
        subst ba
        refine hm v H' (fun c o n z => ?_) (fun p m => e'.env.tr p (List.mem_append_right _ m)) ⟨vs, ev, DpAll_mono qv hid_app⟩ q'
        obtain ⟨_, z'⟩ := hid_some (e'.same c o (by rw [hid_out fun w => n (List.mem_singleton.mp w)]; exact z))
        exact z'
      | nx η => rw [eg] at hm; exact hm.elim
      | ex c w p => rw [eg] at hm; exact hm.elim
      | bk η => rw [eg] at hm; exact hm.elim
      | ct η => rw [eg] at hm; exact hm.elim
      | no => rw [eg] at hm; exact hm.elim
end
end Bd
/-! D13: walks and comprehensions that change lists; name[k] = e. -/
namespace Bd
open PySem L2

def PostXI (K : PySem.W.Frag) (σ : L2.St) (A : List Addr) (H : Hp) (η : Nv) (r : R (List D × Nv)) (Q : It → Hp → Prop) : Prop :=
  match r with
  | .ok p => ∀ J H', EnvD K H' A σ p.2 → Kin η p.2 → Mv σ η H H' → Walks K J H' A p.1 → Q J H'
  | _ => False
def tXI (K : PySem.W.Frag) (F : Nv → R (List D × Nv)) : TI := fun σ H Q => ∃ η A, EnvD K H A σ η ∧ PostXI K σ A H η (F η) Q
def TXI (X : Cx) (tg iter : Expr) (F : Nv → R (List D × Nv)) : Prop := PI X tg iter (tXI X.K F)
def upI (F : Nv → R (List D)) : Nv → R (List D × Nv) := fun η => match F η with
  | .ok d => .ok (d, η)
  | _ => .no
section
variable {X : Cx} {W : WX} {a b e tg iter elt : Expr} {Fs : Nv → R (List D × Nv)} {pos : Pos}
theorem xi_up {F : Nv → R (List D)} (h : TI' X W tg iter F) : TXI X tg iter (upI F) := piW h fun σ H Q ⟨η, A, E, p⟩ => ⟨η, A, E, by
  unfold upI at p
  cases e : F η with
  | ok d =>
    rw [e] at p
    exact fun v H' s q => p v H' (E.same s) (Kin.refl η) (Mv.of s) q
  | ex c w z => rw [e] at p; exact False.elim p
  | no => rw [e] at p; exact False.elim p⟩
def xR1 (Fs : Nv → R (List D × Nv)) : Nv → R (List D × Nv) := fun η => (Fs η).bind fun p => (rng1 p.1).bind fun d => .ok (d, p.2)
def xR2 (Fs : Nv → R (List D × Nv)) : Nv → R (List D × Nv) := fun η => (Fs η).bind fun p => (rng2 p.1).bind fun d => .ok (d, p.2)
theorem xi_range1 {p : Pos} (hg : Gl X "range") (hm : X.mg "range" = none) (ha : TXA X [a] Fs) (hs : starEach [a] X.env = [(false, eval a X.env)] := by rfl) : TXI X tg (.Call (.Name "range" p) [a] [] pos) (xR1 Fs) := piW (pi_range1 hg hm ha hs) fun σ H Q ⟨η, A, E, p⟩ =>
  stepXA (Pn := fun η r => PostXI X.K σ A H η r Q) E p (fun _ _ _ z => z) (fun z => z) fun ds η1 vs H1 E1 k1 m1 q p => by
    have p : PostXI X.K σ A H η ((rng1 ds).bind fun d => .ok (d, η1)) Q := p
    unfold rng1 at p
    split at p
    · split at p
      · rename_i h
        exact ⟨_, allI1 (dpAll_V q), h.1, h.2, p _ H1 E1 k1 m1 walks_range⟩
      · exact False.elim p
    · exact False.elim p
theorem xi_range2 {p : Pos} (hg : Gl X "range") (hm : X.mg "range" = none) (ha : TXA X [a, b] Fs) (hs : starEach [a, b] X.env = [(false, eval a X.env), (false, eval b X.env)] := by rfl) (hs2 : starEach [b] X.env = [(false, eval b X.env)] := by rfl) :
    TXI X tg (.Call (.Name "range" p) [a, b] [] pos) (xR2 Fs) := piW (pi_range2 hg hm ha hs hs2) fun σ H Q ⟨η, A, E, p⟩ =>
  stepXA (Pn := fun η r => PostXI X.K σ A H η r Q) E p (fun _ _ _ z => z) (fun z => z) fun ds η1 vs H1 E1 k1 m1 q p => by
    have p : PostXI X.K σ A H η ((rng2 ds).bind fun d => .ok (d, η1)) Q := p
    unfold rng2 at p
    split at p
    · split at p
      · rename_i h
        exact ⟨_, _, allI2 (dpAll_V q), ⟨h.1, h.2.1, h.2.2.1, h.2.2.2⟩, p _ H1 E1 k1 m1 walks_range⟩
      · exact False.elim p
    · exact False.elim p
end
/-! ### comprehensions -/
def compX (T : Tgt) (C : Nv → R (Bool × Nv)) (El : Nv → R (D × Nv)) (vs : List Nat) : List D → Nv → R (List D × Nv)
  | [], η => .ok ([], η)
  | x :: xs, η => match T x η with
    | none => .no
    | some η1 => (C η1).bindN fun b => if b.1 then (El b.2).bindN fun y => (compX T C El vs xs (wipeE y.2 vs)).bindN fun q => .ok (y.1 :: q.1, q.2) else compX T C El vs xs (wipeE b.2 vs)
def xComp (Fi : Nv → R (List D × Nv)) (T : Tgt) (C : Nv → R (Bool × Nv)) (El : Nv → R (D × Nv)) (vs : List Nat) : Nv → R (D × Nv) := fun η => (Fi η).bindN fun p => (compX T C El vs p.1 (wipeE p.2 vs)).bindN fun q => if q.1.length ≤ lineN then .ok (.list q.1, q.2) else .no
/-- the lists of one's own here are those of there -/
def Sub (vs : List Nat) (σ : L2.St) (ηf : Nv) (σ' : L2.St) (η' : Nv) : Prop := ∀ (j : Nat) (xs' : OL), η'[j]? = some (.own xs') → ∃ xs : OL, ηf[j]? = some (.own xs) ∧ xs.b = xs'.b ∧ σ'[j]? = σ[j]? ∧ j ∉ vs
section
variable {K : PySem.W.Frag} {H H' H1 H2 : Hp} {A : List Addr} {σ σ' : L2.St} {η η' ηf ηp : Nv} {vs : List Nat} {M : Addr}
theorem Sub.kin (s : Sub vs σ ηf σ' η') (k : Kin η' η) : Sub vs σ ηf σ' η := fun j xs e => by
  obtain ⟨ys, e1, b1⟩ := k.2 j xs e
  obtain ⟨zs, e2, b2, r⟩ := s j ys e1
  exact ⟨zs, e2, b2.trans b1, r⟩
theorem Sub.stored {js : List Nat} (s : Sub vs σ ηf σ' η') {σ2 : L2.St} (S : Stored σ' σ2 η' η js) : Sub vs σ ηf σ2 η := fun j xs e => by
  obtain ⟨n, e1⟩ := S.own j xs e
  obtain ⟨zs, e2, b2, e3, r⟩ := s j xs e1
  exact ⟨zs, e2, b2, (S.rest j n).trans e3, r⟩
theorem Sub.wp (s : Sub vs σ ηf σ' η') (hw : L2.wipe σ' vs = L2.wipe σ vs) : Sub vs σ ηf (L2.wipe σ vs) (wipeE η' vs) := fun j xs e => by
  rw [wipeE_get] at e
  split at e
  · cases q : η'[j]? <;> (rw [q] at e; cases e)
  · rename_i hj
    obtain ⟨zs, e2, b2, e3, _⟩ := s j xs e
    exact ⟨zs, e2, b2, by rw [wipe_get, if_neg hj], hj⟩
theorem Sub.start : Sub vs σ ηf (L2.wipe σ vs) (wipeE ηf vs) := fun j xs e => by
  rw [wipeE_get] at e
  split at e
  · cases q : ηf[j]? <;> (rw [q] at e; cases e)
  · rename_i hj
    exact ⟨xs, e, rfl, by rw [wipe_get, if_neg hj], hj⟩
theorem Sub.mv (s : Sub vs σ ηf σ' η') (m : Mv σ' η' H H') : Mv σ ηf H H' := fun a o e n => m a o e fun i xs e1 e2 => by
  obtain ⟨ys, e3, _, e4, _⟩ := s i xs e1
  exact n i ys e3 (e4.symm.trans e2)
theorem Sub.notM (s : Sub vs σ ηf σ' η') (E1 : EnvD K H1 A σ ηf) (nM : H1 M = none) : ∀ (j : Nat) (xs : OL), η'[j]? = some (.own xs) → σ'[j]? ≠ some (some (.ref M)) := fun j xs e z => by
  obtain ⟨ys, e3, _, e4, _⟩ := s j xs e
  exact E1.tr M (own_in E1 e3 (e4.symm.trans z)).1 nM
theorem mv_self (E : EnvD K H A σ ηf) {M : List Addr} : True := trivial
theorem mv_refl : Mv σ ηf H H := Mv.of (Same.refl _)
theorem Mv.thru (h : Mv σ ηf H H1) (h2 : Mv σ ηf H1 H2) : Mv σ ηf H H2 := Mv.trans (Kin.refl _) h h2
theorem EnvD.updM {o : HO} (E : EnvD K H (M :: A) σ η) (nm : ∀ (j : Nat) (xs : OL), η[j]? = some (.own xs) → σ[j]? ≠ some (some (.ref M))) : EnvD K (upd H M o) (M :: A) σ η where
  len := E.len
  at_ := fun j s e => by
    obtain ⟨v, e1, q⟩ := E.at_ j s e
    refine ⟨v, e1, ?_⟩
    have eh : hid (M :: A) (upd H M o) = hid (M :: A) H := hid_upd List.mem_cons_self
    cases s with
    | no => cases v <;> trivial
    | d x =>
      cases v with
      | none => exact q
      | some v =>
        show Dp K (hid (M :: A) (upd H M o)) v x
        rw [eh]
        exact q
    | own zs =>
      match v, q, e1 with
      | some (.ref b), ⟨m, ws, e2, q⟩, e1 =>
        refine ⟨m, ws, by rw [upd_ne fun z => nm j zs e (by rw [e1, z])]; exact e2, ?_⟩
        rw [eh]
        exact q
    | m x => exact q.m' (eh ▸ Same.refl _)
  ap := E.ap
  tr := fun a m => by
    by_cases h : a = M
    · rw [h, upd_same]
      exact fun z => nomatch z
    · rw [upd_ne h]
      exact E.tr a m
theorem EnvD.back {A2 : List Addr} (E2 : EnvD K H2 A2 (L2.wipe σ vs) (wipeE ηp vs)) (s : Sub vs σ ηf (L2.wipe σ vs) (wipeE ηp vs)) : EnvD K H2 A2 σ (wipeE ηp vs) where
  len := by rw [← E2.len, wipe_length]
  at_ := fun j sl e => by
    obtain ⟨o, e1, q⟩ := E2.at_ j sl e
    rw [wipe_get] at e1
    by_cases hj : j ∈ vs
    · rw [if_pos hj] at e1
      rw [wipeE_get, if_pos hj] at e
      cases qe : ηp[j]? with
      | none => rw [qe] at e; cases e
      | some s0 =>
        rw [qe] at e
        cases e
        cases qs : σ[j]? with
        | none => rw [qs] at e1; cases e1
        | some o1 => exact ⟨o1, rfl, by cases o1 <;> trivial⟩
    · rw [if_neg hj] at e1
      exact ⟨o, e1, q⟩
  ap := fun i j a xs ys h1 h2 h3 h4 => by
    obtain ⟨_, _, _, e1, _⟩ := s i xs h1
    obtain ⟨_, _, _, e2, _⟩ := s j ys h2
    exact E2.ap i j a xs ys h1 h2 (e1.trans h3) (e2.trans h4)
  tr := E2.tr
theorem mv_new (E1 : EnvD K H1 A σ ηf) (nM : H1 M = none) (m : Mv σ ηf H1 H2) : Same (hid A H1) (hid (M :: A) H2) := fun b o e => by
  obtain ⟨n, e⟩ := hid_some e
  have nb : b ≠ M := fun z => by
    rw [z, nM] at e
    cases e
  rw [hid_out fun z => (List.mem_cons.mp z).elim nb n]
  exact m b o e fun i xs e1 e2 => n (own_in E1 e1 e2).1
theorem Sub.kinf (s : Sub vs σ ηf (L2.wipe σ vs) (wipeE ηp vs)) (hl : (wipeE ηp vs).length = ηf.length) : Kin ηf (wipeE ηp vs) := ⟨hl, fun j xs e => by
  obtain ⟨ys, e3, b, _⟩ := s j xs e
  exact ⟨ys, e3, b⟩⟩
end
section
variable {X : Cx} {e tg iter elt : Expr} {pos : Pos}
theorem lc_x {Fi : Nv → R (List D × Nv)} {T : Tgt} {js vs : List Nat} {C : Nv → R (Bool × Nv)} {El : Nv → R (D × Nv)} (hj : ∀ j ∈ js, j ∈ vs) {σ : L2.St} {H : Hp} {Q : VK} (h : tXF X.K (xComp Fi T C El vs) σ H Q) :
    tLc (tXI X.K Fi) (gD X.K T js) (tXB X.K C) (tX X.K (rD X.K) El) vs σ H Q := by
  obtain ⟨η, A, E, p0⟩ := h
  have p : PostXF X.K σ A H η (xComp Fi T C El vs η) Q := p0
  unfold xComp at p
  refine (show tXI X.K Fi σ H _ from ⟨η, A, E, ?_⟩)
  cases e1 : Fi η with
  | ex c w q => rw [e1] at p; exact False.elim p
  | no => rw [e1] at p; exact False.elim p
  | ok df =>
    rw [e1] at p
    obtain ⟨ds, ηf⟩ := df
    have p : PostXF X.K σ A H η ((compX T C El vs ds (wipeE ηf vs)).bindN fun q => if q.1.length ≤ lineN then .ok (.list q.1, q.2) else .no) Q := p
    cases e2 : compX T C El vs ds (wipeE ηf vs) with
    | ex c w q => rw [e2] at p; exact False.elim p
    | no => rw [e2] at p; exact False.elim p
    | ok yq =>
      rw [e2] at p
      obtain ⟨ys, ηz⟩ := yq
      have p : PostXF X.K σ A H η (if ys.length ≤ lineN then .ok (.list ys, ηz) else .no) Q := p
      split at p
      · rename_i hz
        intro J H1 E1 k1 m1 wk M nM
        have E1 : EnvD X.K H1 A σ ηf := E1
        have Ew : EnvD X.K (upd H1 M (.lst [])) (M :: A) (L2.wipe σ vs) (wipeE ηf vs) := (E1.new (same_new nM) nM (by rw [upd_same]; exact fun z => nomatch z)).wipe vs
        refine ⟨fun i m H2 => m + i = ds.length ∧ ∃ ηp done rest acc, ys = done ++ rest ∧ compX T C El vs (ds.drop i) (wipeE ηp vs) = .ok (rest, ηz) ∧ EnvD X.K H2 (M :: A) (L2.wipe σ vs) (wipeE ηp vs) ∧ ηp.length = ηf.length ∧ Sub vs σ ηf (L2.wipe σ vs) (wipeE ηp vs) ∧ Mv σ ηf H1 H2 ∧ H2 M = some (.lst acc) ∧ DpAll X.K (hid (M :: A) H2) acc done,
          ⟨ds.length, rfl, ηf, [], ys, [], rfl, e2, Ew, rfl, Sub.start, Mv.of (same_new nM), upd_same, .nil⟩, fun i m H2 hw => ?_⟩
        obtain ⟨em, ηp, done, rest, acc, ey, er, E2, ln, sb, mv, hM, hd⟩ := hw
        have sh : Same (hid A H1) (hid (M :: A) H2) := mv_new E1 nM mv
        cases hx : ds[i]? with
        | none =>
          have hi : ds.length ≤ i := List.getElem?_eq_none_iff.mp hx
          have ei : i = ds.length := by omega
          subst ei
          rw [List.drop_length] at er
          have er : R.ok (([] : List D), wipeE ηp vs) = .ok (rest, ηz) := er
          cases er
          rw [List.append_nil] at ey
          subst ey
          have kf : Kin ηf (wipeE ηp vs) := sb.kinf (by rw [wipeE_length, ln])
          refine .inl ⟨wk.stop _ _ sh, p M acc _ H2 rfl (E2.back sb) (k1.trans kf) (Mv.trans k1 m1 mv) ?_ hM hd⟩
          cases hM0 : H M with
          | none => rfl
          | some o => exact absurd nM (Mv.there E E1 m1 (by rw [hM0]; exact fun z => nomatch z))
        | some x =>
          have hi : i < ds.length := (List.getElem?_eq_some_iff.mp hx).1
          have ed : ds.drop i = x :: ds.drop (i + 1) := by
            rw [List.drop_eq_getElem_cons hi]
            congr 1
            exact (List.getElem?_eq_some_iff.mp hx).2
          obtain ⟨g1, g2⟩ := wk.step i x hx _ _ sh E2.tr
          refine .inr ⟨g1, fun H' => ∃ m', m' < m ∧ (m' + (i + 1) = ds.length ∧ ∃ ηp done rest acc, ys = done ++ rest ∧ compX T C El vs (ds.drop (i + 1)) (wipeE ηp vs) = .ok (rest, ηz) ∧ EnvD X.K H' (M :: A) (L2.wipe σ vs) (wipeE ηp vs) ∧ ηp.length = ηf.length ∧ Sub vs σ ηf (L2.wipe σ vs) (wipeE ηp vs) ∧ Mv σ ηf H1 H' ∧ H' M = some (.lst acc) ∧ DpAll X.K (hid (M :: A) H') acc done), fun H' hN => hN, fun v H3 y => ?_⟩
          obtain ⟨s3, qv⟩ := g2 v H3 y
          rw [ed] at er
          unfold compX at er
          cases et : T x (wipeE ηp vs) with
          | none => rw [et] at er; cases er
          | some η1 =>
            rw [et] at er
            obtain ⟨⟨bk, ηb⟩, ec, er⟩ := R.bindN_ok er
            refine ⟨wipeE ηp vs, M :: A, x, η1, E2.same s3, qv, et, fun σ2 E3 S => ?_⟩
            have hw : L2.wipe σ2 vs = L2.wipe σ vs := stored_wipe S hj (S.len.trans (wipe_length σ vs))
            have sb1 : Sub vs σ ηf σ2 η1 := sb.stored S
            have ln1 : η1.length = ηf.length := by rw [← E3.len, S.len, wipe_length, E1.len]
            refine ⟨hw, ?_⟩
            refine (show tXB X.K C σ2 H3 _ from ⟨η1, M :: A, E3, ?_⟩)
            rw [ec]
            intro H4 E4 k4 m4
            have E4 : EnvD X.K H4 (M :: A) σ2 ηb := E4
            have k4 : Kin η1 ηb := k4
            have sb4 : Sub vs σ ηf σ2 ηb := sb1.kin k4
            have mv4 : Mv σ ηf H1 H4 := (mv.thru (Mv.of s3)).thru (sb1.mv m4)
            have M4 : H4 M = some (.lst acc) := m4 M _ (s3 _ _ hM) (sb1.notM E1 nM)
            have hd4 : DpAll X.K (hid (M :: A) H4) acc done := DpAll_mono hd ((hid_same s3).trans (m4.hid E3))
            cases bk with
            | false =>
              refine iteF ⟨m - 1, by omega, by omega, ηb, done, rest, acc, ey, er, ?_, k4.1.trans ln1, sb4.wp hw, mv4, M4, hd4⟩
              have := E4.wipe vs
              rw [hw] at this
              exact this
            | true =>
              obtain ⟨⟨y, ηe⟩, ee, er⟩ := R.bindN_ok er
              obtain ⟨⟨rest', ηz'⟩, er', e3⟩ := R.bindN_ok er
              cases e3
              refine iteT (show tX X.K (rD X.K) El σ2 H4 _ from ⟨ηb, M :: A, E4, ?_⟩)
              rw [ee]
              intro w H5 E5 k5 m5 qw
              have E5 : EnvD X.K H5 (M :: A) σ2 ηe := E5
              have k5 : Kin ηb ηe := k5
              have sb5 : Sub vs σ ηf σ2 ηe := sb4.kin k5
              have M5 : H5 M = some (.lst acc) := m5 M _ M4 (sb4.notM E1 nM)
              have hd5 : DpAll X.K (hid (M :: A) H5) acc done := DpAll_mono hd4 (m5.hid E4)
              have hidM : hid (M :: A) (upd H5 M (.lst (acc ++ [w]))) = hid (M :: A) H5 := hid_upd List.mem_cons_self
              have hl : acc.length = done.length := DpAll_length hd
              refine ⟨acc, M5, ?_, m - 1, by omega, by omega, ηe, done ++ [y], rest', acc ++ [w], by rw [ey, List.append_assoc]; rfl, er', ?_, (k4.trans k5).1.trans ln1, sb5.wp hw, ?_, upd_same, ?_⟩
              · rw [line_eq, hl]
                have : ys.length = done.length + (rest'.length + 1) := by rw [ey, List.length_append, List.length_cons]
                omega
              · have z := (E5.updM (o := .lst (acc ++ [w])) (sb5.notM E1 nM)).wipe vs
                rw [hw] at z
                exact z
              · intro b o eb n
                rw [upd_ne fun z => by subst z; rw [nM] at eb; cases eb]
                exact (mv4.thru (sb4.mv m5)) b o eb n
              · rw [hidM]
                exact DpAll_append hd5 (.cons qw .nil)
      · exact False.elim p
theorem xcs_nil {X : Cx} : PTs X [] (tXB X.K fun η => .ok (true, η)) := ⟨fun pins s σ H Q I q => pts_nil.run pins s σ H Q I (by obtain ⟨η, A, E, p⟩ := q; exact p H E (Kin.refl η) mv_refl)⟩
theorem xcs_one {X : Cx} {c : Expr} {G : Nv → R (Bool × Nv)} (h : TXB X c G) : PTs X [c] (tXB X.K G) := pts_one h
variable {ifs : List Expr} {scope : Scope} {own : List (Str × Nat)} {Fi : Nv → R (List D × Nv)} {T : Tgt} {js : List Nat} {C : Nv → R (Bool × Nv)} {El : Nv → R (D × Nv)}
theorem x_lc (hc : X.calm = true) (hN : X.N.Nodup) (hi : TXI X tg iter Fi) (ok : BlkOk X.N X.env.scope scope own)
    (hg : ∀ (s : Shared) (H : Hp) (C : Addr) (cl : List (Str × Addr)) (fp : List Addr), TT' (X.blk s H scope (compEnvC scope cl C X.env) fp) tg T js)
    (ht : ∀ (s : Shared) (H : Hp) (D : Addr) (cl : List (Str × Addr)) (fp : List Addr), PTs (X.blk s H scope (compEnvC scope cl D X.env) fp) ifs (tXB X.K C))
    (he : ∀ (s : Shared) (H : Hp) (D : Addr) (cl : List (Str × Addr)) (fp : List Addr), TX (X.blk s H scope (compEnvC scope cl D X.env) fp) (rD X.K) elt El)
    {vs : List Nat} (hv : own.map (·.2) = vs := by rfl) (hj : ∀ j ∈ js, j ∈ own.map (·.2) := by decide) (hs : ∀ x, foldedSetIterable iter X.env x = pure x := by intro _; rfl) : TXF X (.ListComp elt [⟨tg, iter, ifs, 0⟩] scope pos) (xComp Fi T C El vs) := by
  subst hv
  exact peW (pe_lc hc hN hi ok (fun s H C cl fp => show PG _ tg (gD X.K T js) from hg s H C cl fp) ht (fun s H C cl fp => show PE _ elt (tX X.K (rD X.K) El) from he s H C cl fp) hs) fun σ H Q h => lc_x hj h
end
end Bd
/-! D14: more statements that change lists. -/
namespace Bd
open PySem L2

section
variable {K : PySem.W.Frag} {M : List Addr} {H0 : Hp} {A0 : List Addr} {H H1 : Hp} {B : List Addr} {σ : L2.St} {η η1 : Nv} {i : Nat} {l : Addr} {vs : List V} {xs : List D}
theorem EnvS.more (e : EnvS K M H0 A0 H B σ η) (E1 : EnvD K H1 (l :: (B ++ A0)) σ η1) (k : Kin η η1) (m : Mv σ η H H1) (hl : H l = none) : EnvS K M H0 A0 H1 (l :: B) σ η1 := by
  have z := e.mv (E1.shrink e.env k) k m
  refine ⟨E1, z.same, z.mA, fun b mb => ?_, fun j a ys h1 h2 => ?_⟩
  · rcases List.mem_cons.mp mb with rfl | mb
    · exact e.free hl
    · exact e.new b mb
  · have q := z.own j a ys h1 h2
    cases hb : ys.b with
    | true =>
      rw [hb] at q
      exact List.mem_cons_of_mem _ q
    | false =>
      rw [hb] at q
      exact q
theorem EnvS.hold (e : EnvS K M H0 A0 H1 (l :: B) σ η1) (fr : ∀ (j : Nat) (ys : OL), η1[j]? = some (.own ys) → σ[j]? ≠ some (some (.ref l))) (h1 : H1 l = some (.lst vs)) (q : DpAll K (hid (l :: B ++ A0) H1) vs xs) : EnvS K M H0 A0 H1 (l :: B) (σ.set i (some (.ref l))) (η1.set i (.own ⟨true, xs⟩)) := by
  have what : ∀ (j : Nat) (sl : Sl), (η1.set i (.own ⟨true, xs⟩))[j]? = some sl → (j = i ∧ i < η1.length ∧ sl = .own ⟨true, xs⟩) ∨ (j ≠ i ∧ η1[j]? = some sl) := fun j sl h => by
    by_cases hj : j = i
    · subst hj
      by_cases hl : j < η1.length
      · rw [List.getElem?_set_self hl] at h
        exact .inl ⟨rfl, hl, (Option.some.inj h).symm⟩
      · rw [List.getElem?_eq_none (by rw [List.length_set]; omega)] at h
        cases h
    · rw [List.getElem?_set_ne fun z => hj z.symm] at h
      exact .inr ⟨hj, h⟩
  have off : ∀ j, j ≠ i → (σ.set i (some (.ref l)))[j]? = σ[j]? := fun j n => List.getElem?_set_ne fun z => n z.symm
  have on : i < η1.length → (σ.set i (some (.ref l)))[i]? = some (some (.ref l)) := fun hl => List.getElem?_set_self (by rw [e.env.len]; exact hl)
  refine ⟨⟨by rw [List.length_set, List.length_set, e.env.len], fun j sl h => ?_, fun j k a ys zs g1 g2 g3 g4 => ?_, e.env.tr⟩, e.same, e.mA, e.new, fun j a ys g1 g2 => ?_⟩
  · rcases what j sl h with ⟨ej, hl, es⟩ | ⟨n, h⟩
    · subst ej es
      exact ⟨_, on hl, List.mem_append_left _ List.mem_cons_self, vs, h1, q⟩
    · rw [off j n]
      exact e.env.at_ j sl h
  · rcases what j _ g1 with ⟨ej, hl, _⟩ | ⟨n, f1⟩
    · rcases what k _ g2 with ⟨ek, _, _⟩ | ⟨n2, f2⟩
      · rw [ej, ek]
      · rw [ej, on hl] at g3
        cases g3
        rw [off k n2] at g4
        exact absurd g4 (fr k zs f2)
    · rcases what k _ g2 with ⟨ek, hl, _⟩ | ⟨n2, f2⟩
      · rw [ek, on hl] at g4
        cases g4
        rw [off j n] at g3
        exact absurd g3 (fr j ys f1)
      · rw [off j n] at g3
        rw [off k n2] at g4
        exact e.env.ap j k a ys zs f1 f2 g3 g4
  · rcases what j _ g1 with ⟨ej, hl, es⟩ | ⟨n, f1⟩
    · rw [ej, on hl] at g2
      cases g2
      cases es
      exact List.mem_cons_self
    · rw [off j n] at g2
      exact e.own j a ys f1 g2
theorem mv_more (E : EnvD K H (B ++ A0) σ η) (m : Mv σ η H H1) (hl : H l = none) : Same (hid (B ++ A0) H) (hid (l :: B ++ A0) H1) := mv_new E hl m
end
section
variable {X : Cx} {f : Fx} {rl : Rl} {e c tg iter elt : Expr} {es : List Expr} {F : Nv → R (D × Nv)} {G : Nv → R (Bool × Nv)} {Gs Gt : Nv → Rs} {pos : Pos}
theorem xF_only (h : TXF X e F) : TXF X e (fun η => only (F η)) := peW h fun σ H Q ⟨η, A, E, p⟩ => ⟨η, A, E, by
  have p : PostXF X.K σ A H η (only (F η)) Q := p
  cases e : F η with
  | ok d =>
    rw [e] at p
    exact p
  | ex c w z => rw [e] at p; exact False.elim p
  | no => rw [e] at p; exact False.elim p⟩
theorem toS_XF {g : D × Nv → Rs} {E : Ends} {σ : L2.St} {H : Hp} (h : tS X.K X.mg f.W f.rl f.M f.H0 f.A0 (fun η => (only (F η)).toS g) E σ H) {R1 : V → Hp → Prop}
    (k : ∀ (η η1 : Nv) (B : List Addr) (H1 : Hp) (l : Addr) (vs : List V) (ds : List D), EnvS X.K f.M f.H0 f.A0 H B σ η → EnvD X.K H1 (l :: (B ++ f.A0)) σ η1 → Kin η η1 → Mv σ η H H1 → H l = none → H1 l = some (.lst vs) → DpAll X.K (hid (l :: (B ++ f.A0)) H1) vs ds → PostS X.K X.mg f.W f.rl f.M f.H0 f.A0 H B (g (.list ds, η1)) E → R1 (.ref l) H1) : tXF X.K F σ H R1 := by
  obtain ⟨η, B, e, p0⟩ := h
  have p : PostS X.K X.mg f.W f.rl f.M f.H0 f.A0 H B ((only (F η)).toS g) E := p0
  refine ⟨η, B ++ f.A0, e.env, ?_⟩
  cases e1 : F η with
  | ok d =>
    rw [e1] at p
    obtain ⟨d, η1⟩ := d
    intro l vs ds H1 ed E1 k1 m1 hl hl1 q
    have ed : d = .list ds := ed
    subst ed
    exact k η η1 B H1 l vs ds e E1 k1 m1 hl hl1 q p
  | ex c w q => rw [e1] at p; exact False.elim p
  | no => rw [e1] at p; exact False.elim p
theorem own_end {E : Ends} {σ : L2.St} {η η1 : Nv} {B : List Addr} {H H1 : Hp} {l : Addr} {vs : List V} {ds : List D} (i : Nat) (e : EnvS X.K f.M f.H0 f.A0 H B σ η) (E1 : EnvD X.K H1 (l :: (B ++ f.A0)) σ η1) (k : Kin η η1) (m : Mv σ η H H1) (hl : H l = none) (hl1 : H1 l = some (.lst vs)) (q : DpAll X.K (hid (l :: (B ++ f.A0)) H1) vs ds)
    (p : PostS X.K X.mg f.W f.rl f.M f.H0 f.A0 H B (.nx (η1.set i (.own ⟨true, ds⟩))) E) : E.nx (σ.set i (some (.ref l))) H1 :=
  p _ H1 (l :: B) ((e.more E1 k m hl).hold (fun j ys h1 h2 => by
    obtain ⟨zs, e3, _⟩ := k.2 j ys h1
    exact e.env.tr l (own_in e.env e3 h2).1 hl) hl1 q) (mv_more e.env m hl)
theorem xs_own (i : Nat) {x : Str} {pos' : Pos} (hN : X.N.Nodup) (he : TXF X e F) (hi : X.N[i]? = some x := by rfl) (hx : Loc X.env.scope x := by first | exact Or.inl rfl | exact Or.inr rfl) (hs : swapsWith e (some (.Name x pos')) pos.line X.env = pure false := by rfl)
    (hf : X.fn x = true ∨ X.env.scope.names.lookup x = some .local := by first | exact .inl rfl | exact .inr rfl) : TS' X f (.Assign [.Name x pos'] e pos) (xOwn i F) :=
  psW (ps_set hN hi hx he hs hf) fun E σ H h => toS_XF h fun η η1 B H1 l vs ds e0 E1 k m hl hl1 q p => own_end i e0 E1 k m hl hl1 q p
variable {ifs : List Expr} {scope : Scope} {own : List (Str × Nat)} {Fi : Nv → R (List D × Nv)} {T : Tgt} {js : List Nat} {C : Nv → R (Bool × Nv)} {El : Nv → R (D × Nv)}
/-- name = [.. for ..] where the walk's line folds the two -/
theorem xs_ownLc (i : Nat) {y : Str} {py spos : Pos} (hc : X.calm = true) (hN : X.N.Nodup)
    (hsw : swapsWith (.ListComp elt [⟨tg, iter, ifs, 0⟩] scope pos) (some (.Name y py)) spos.line X.env = pure true) (hi : TXI X tg iter Fi) (ok : BlkOk X.N X.env.scope scope own)
    (hg : ∀ (s : Shared) (H : Hp) (C : Addr) (cl : List (Str × Addr)) (fp : List Addr), TT' (X.blk s H scope (compEnvC scope cl C X.env) fp) tg T js)
    (ht : ∀ (s : Shared) (H : Hp) (D : Addr) (cl : List (Str × Addr)) (fp : List Addr), PTs (X.blk s H scope (compEnvC scope cl D X.env) fp) ifs (tXB X.K C))
    (he : ∀ (s : Shared) (H : Hp) (D : Addr) (cl : List (Str × Addr)) (fp : List Addr), TX (X.blk s H scope (compEnvC scope cl D X.env) fp) (rD X.K) elt El)
    (hy : X.N[i]? = some y := by rfl) (hyl : X.env.scope.names.lookup y = some .local := by rfl) {vs : List Nat} (hv : own.map (·.2) = vs := by rfl) (hj : ∀ j ∈ js, j ∈ own.map (·.2) := by decide) (hs : ∀ x, foldedSetIterable iter X.env x = pure x := by intro _; rfl) :
    TS' X f (.Assign [.Name y py] (.ListComp elt [⟨tg, iter, ifs, 0⟩] scope pos) spos) (xOwn i (xComp Fi T C El vs)) := by
  subst hv
  exact psW (ps_setLc hc hN hy hyl hsw hi ok (fun s H C cl fp => show PG _ tg (gD X.K T js) from hg s H C cl fp) ht (fun s H C cl fp => show PE _ elt (tX X.K (rD X.K) El) from he s H C cl fp) hs) fun E σ H h =>
    lc_x hj (toS_XF h fun η η1 B H1 l vs ds e0 E1 k m hl hl1 q p => own_end i e0 E1 k m hl hl1 q p)
theorem xs_setLc (i : Nat) {y : Str} {py spos : Pos} (hc : X.calm = true) (hN : X.N.Nodup)
    (hsw : swapsWith (.ListComp elt [⟨tg, iter, ifs, 0⟩] scope pos) (some (.Name y py)) spos.line X.env = pure true) (hi : TXI X tg iter Fi) (ok : BlkOk X.N X.env.scope scope own)
    (hg : ∀ (s : Shared) (H : Hp) (C : Addr) (cl : List (Str × Addr)) (fp : List Addr), TT' (X.blk s H scope (compEnvC scope cl C X.env) fp) tg T js)
    (ht : ∀ (s : Shared) (H : Hp) (D : Addr) (cl : List (Str × Addr)) (fp : List Addr), PTs (X.blk s H scope (compEnvC scope cl D X.env) fp) ifs (tXB X.K C))
    (he : ∀ (s : Shared) (H : Hp) (D : Addr) (cl : List (Str × Addr)) (fp : List Addr), TX (X.blk s H scope (compEnvC scope cl D X.env) fp) (rD X.K) elt El)
    (hy : X.N[i]? = some y := by rfl) (hyl : X.env.scope.names.lookup y = some .local := by rfl) {vs : List Nat} (hv : own.map (·.2) = vs := by rfl) (hj : ∀ j ∈ js, j ∈ own.map (·.2) := by decide) (hs : ∀ x, foldedSetIterable iter X.env x = pure x := by intro _; rfl) :
    TS' X f (.Assign [.Name y py] (.ListComp elt [⟨tg, iter, ifs, 0⟩] scope pos) spos) (xSet i (xComp Fi T C El vs)) := by
  subst hv
  exact psW (ps_setLc hc hN hy hyl hsw hi ok (fun s H C cl fp => show PG _ tg (gD X.K T js) from hg s H C cl fp) ht (fun s H C cl fp => show PE _ elt (tX X.K (rD X.K) El) from he s H C cl fp) hs) fun E σ H h =>
    lc_x hj (toS_XF h fun η η1 B H1 l vs ds e0 E1 k m hl hl1 q p => by
      have e1 : EnvS X.K f.M f.H0 f.A0 H1 B σ η1 := e0.mv (E1.shrink e0.env k) k m
      exact p _ H1 B (e1.set (.lst (SqL.of (by rw [hid_out fun z => e0.env.tr l z hl]; exact hl1)) (DpAll_mono q (hid_mono fun _ m => List.mem_cons_of_mem _ m)))) (m.hid e0.env))
/-- a list of the def's own, handed over as data -/
theorem s_retOD (i : Nat) {x : Str} {p : Pos} (hr : f.rl = rD X.K) (hi : X.N[i]? = some x := by rfl) (hv : Vis X.env.scope x := by first | exact Or.inl rfl | exact Or.inr (Or.inl rfl)) (hd : (x == ("__debug__" : Str)) = false := by decide) (hcd : (x == ("__classdict__" : Str)) = false := by decide) :
    TS' X f (.Return (some (.Name x p)) pos) (retO i) := psW (ps_ret (pe_var hi hv hd hcd)) fun E σ H h => by
  obtain ⟨η, B, e0, p0⟩ := h
  have p : PostS X.K X.mg f.W f.rl f.M f.H0 f.A0 H B (retO i η) E := p0
  unfold retO at p
  split at p
  case h_2 => exact False.elim p
  rename_i xs hx
  obtain ⟨a, e1, m, vs, e2, q⟩ := own_ref e0.env hx
  have hB := e0.own i a xs hx e1
  split at p
  case isFalse => exact False.elim p
  rename_i hb
  rw [if_pos hb] at hB
  refine ⟨_, e1, ?_⟩
  have nA : a ∉ f.A0 := fun z => e0.mA.2 a z (e0.new a hB)
  refine p _ σ H B e0 ?_
  rw [hr]
  exact .lst (SqL.of (by rw [hid_out nA]; exact e2)) (DpAll_mono q hid_app)
/-- name.append(e) -/
def appX (i : Nat) (p : D × Nv) : Rs := match p.2[i]? with
  | some (.own xs) => if xs.l.length < lineN then .nx (p.2.set i (.own ⟨xs.b, xs.l ++ [p.1]⟩)) else .no
  | _ => .no
def xApp (i : Nat) (F : Nv → R (D × Nv)) : Nv → Rs := fun η => match η[i]? with
  | some (.own _) => (only (F η)).toS (appX i)
  | _ => .no
theorem xs_app (i : Nat) {x : Str} {p apos cpos epos : Pos} (he : TX X (rD X.K) e F) (hi : X.N[i]? = some x := by rfl) (hv : Vis X.env.scope x := by first | exact Or.inl rfl | exact Or.inr (Or.inl rfl)) (h1 : starEach [e] X.env = (false, eval e X.env) :: starEach [] X.env := by rfl)
    (hd : (x == ("__debug__" : Str)) = false := by decide) (hcd : (x == ("__classdict__" : Str)) = false := by decide)
    (hbase : attributeBase (.Name x p) "append" X.env (eval (.Name x p) X.env) = eval (.Name x p) X.env := by rfl)
    (hfew : ((backTo cpos (starEach [e] X.env)).all (fun x => !x.1) && (backToKw cpos (keywordEach [] X.env)).all (fun x => x.1.isSome) && decide ([e].length + ([] : List Keyword).length + (if ([] : List Keyword).isEmpty then 0 else 1) < 30)) = true := by rfl)
    (hline : (apos.endLine == cpos.line) = true := by rfl) (hplain : (backTo cpos (starEach [] X.env)).any (·.1) = false := by rfl) (hs : swapsWith (.Call (.Attribute (.Name x p) "append" apos) [e] [] cpos) none epos.line X.env = pure false := by rfl) :
    TS' X f (.Expr (.Call (.Attribute (.Name x p) "append" apos) [e] [] cpos) epos) (xApp i F) :=
  psW (ps_expr (pe_bm PySem.F.plainAttrs_list PySem.F.slot_list_append PySem.F.type_list_append mt_append (pe_var hi hv hd hcd) (pa_cons he pa_nil h1) hbase hfew hline h1 hplain) hs) fun E σ H h => by
    obtain ⟨η, B, e0, p0⟩ := h
    have p : PostS X.K X.mg f.W f.rl f.M f.H0 f.A0 H B (xApp i F η) E := p0
    unfold xApp at p
    split at p
    case h_2 => exact False.elim p
    rename_i xs hx
    obtain ⟨a, ea, m, vs, e2, q⟩ := own_ref e0.env hx
    refine ⟨.ref a, ea, .inl ⟨rfl, vs, SqL.of e2⟩, ?_⟩
    refine (show tX X.K (rD X.K) F σ H _ from ⟨η, B ++ f.A0, e0.env, ?_⟩)
    cases ef : F η with
    | ex c w z => rw [ef] at p; exact False.elim p
    | no => rw [ef] at p; exact False.elim p
    | ok yy =>
      rw [ef] at p
      obtain ⟨y, η1⟩ := yy
      have p : PostS X.K X.mg f.W f.rl f.M f.H0 f.A0 H B (appX i (y, η1)) E := p
      unfold appX at p
      split at p
      case h_2 => exact False.elim p
      rename_i zs hz1
      split at p
      case isFalse => exact False.elim p
      rename_i hz
      intro w H1 E1 k1 m1 qw
      obtain ⟨mA, us, eu, qu⟩ := own_in E1 hz1 ea
      refine ⟨a, us, w, rfl, rfl, eu, by rw [DpAll_length qu, line_eq]; exact hz, ?_⟩
      refine p σ _ B ((e0.mv E1 k1 m1).app hz1 ea eu qu qw) ?_
      rw [hid_upd mA]
      exact m1.hid e0.env
/-- name[k] = e -/
def putAt (i : Nat) (y : D) (η : Nv) (k : D) : Rs := match η[i]?, k with
  | some (.own xs), .int j => match ixN xs.l.length j with
    | some m => .nx (η.set i (.own ⟨xs.b, xs.l.set m y⟩))
    | none => .no
  | _, _ => .no
def xPutS (i : Nat) (F : Nv → R (D × Nv)) (Fi : Nv → R D) : Nv → Rs := fun η => (only (F η)).toS fun p => match p.2[i]? with
  | some (.own _) => (only (Fi p.2)).toS (putAt i p.1 p.2)
  | _ => .no
theorem DpAll_set {K : PySem.W.Frag} {H : Hp} {v : V} {d : D} : ∀ {vs : List V} {ds : List D} (n : Nat), DpAll K H vs ds → Dp K H v d → DpAll K H (vs.set n v) (ds.set n d)
  | _, _, _, .nil, _ => .nil
  | _, _, 0, .cons _ t, h => .cons h t
  | _, _, n + 1, .cons h0 t, h => .cons h0 (DpAll_set n t h)
theorem xs_put (i : Nat) {W : WX} {x : Str} {px p' : Pos} {ix : Expr} {Fi : Nv → R D} (he : TX X (rD X.K) e F) (hix : TD X W ix Fi) (hi : X.N[i]? = some x := by rfl) (hv : Vis X.env.scope x := by first | exact Or.inl rfl | exact Or.inr (Or.inl rfl) | exact Or.inr (Or.inr rfl)) (hd : (x == ("__debug__" : Str)) = false := by decide) (hcd : (x == ("__classdict__" : Str)) = false := by decide)
    (ha : ∀ v, assign (.Subscript (.Name x px) ix p') X.env v = (do
      let ov ← holding [v] (eval (.Name x px) X.env)
      let iv ← holding [v, ov] (eval ix X.env)
      standAt p'
      holding [v, ov, iv] (setItem ov iv v)
      release [v, ov, iv] []) := by intro _; rfl)
    (hs : swapsWithSole [.Subscript (.Name x px) ix p'] e pos.line X.env = pure false := by rfl) (hw : swappedStores [.Subscript (.Name x px) ix p'] e X.env = pure none := by rfl) (h1 : (assignEach [.Subscript (.Name x px) ix p'] X.env).map (·.2) = [assign (.Subscript (.Name x px) ix p') X.env] := by rfl) :
    TS' X f (.Assign [.Subscript (.Name x px) ix p'] e pos) (xPutS i F Fi) := psW (ps_asg (x_only he) (pg_sub (pe_var hi hv hd hcd) (x_up hix) set_list ha) hs hw h1) fun E σ H h => toS_X h (fun η η1 B H1 v d e0 e1 k m s q p => by
    have p : PostS X.K X.mg f.W f.rl f.M f.H0 f.A0 H B (match η1[i]? with
      | some (.own _) => (only (Fi η1)).toS (putAt i d η1)
      | _ => .no) E := p
    split at p
    case h_2 => exact False.elim p
    rename_i xs hx
    obtain ⟨a, ea, mA, us, eu, qu⟩ := own_ref e1.env hx
    refine ⟨.ref a, ea, ?_⟩
    refine (show tX X.K (rD X.K) (up Fi) σ H1 _ from ⟨η1, B ++ f.A0, e1.env, ?_⟩)
    unfold up
    cases ef : Fi η1 with
    | ex c w z => rw [ef] at p; exact False.elim p
    | no => rw [ef] at p; exact False.elim p
    | ok kk =>
      rw [ef] at p
      replace p : PostS X.K X.mg f.W f.rl f.M f.H0 f.A0 H B (putAt i d η1 kk) E := p
      intro kv H2 E2 k2 m2 qk
      have E2 : EnvD X.K H2 (B ++ f.A0) σ η1 := E2
      replace qk : Dp X.K (hid (B ++ f.A0) H2) kv kk := qk
      unfold putAt at p
      rw [hx] at p
      cases kk <;> first | exact False.elim p | skip
      rename_i j
      have p : PostS X.K X.mg f.W f.rl f.M f.H0 f.A0 H B (match ixN xs.l.length j with
        | some m => .nx (η1.set i (.own ⟨xs.b, xs.l.set m d⟩))
        | none => .no) E := p
      split at p
      case h_2 => exact False.elim p
      rename_i n hn
      obtain ⟨mA2, us2, eu2, qu2⟩ := own_in E2 hx ea
      cases qk
      have e2 : EnvS X.K f.M f.H0 f.A0 H2 B σ η1 := e1.mv E2 k2 m2
      refine ⟨a, us2, j, n, rfl, rfl, eu2, by rw [DpAll_length qu2]; exact hn, ?_⟩
      have sh : Same (hid (B ++ f.A0) H1) (hid (B ++ f.A0) H2) := m2.hid e1.env
      have qv : Dp X.K (hid (B ++ f.A0) H2) v d := Dp_mono q sh
      have kp : ∀ b o, b ≠ a → H2 b = some o → upd H2 a (.lst (us2.set n v)) b = some o := fun b o nb z => by rw [upd_ne nb]; exact z
      have tr : ∀ b ∈ B ++ f.A0, upd H2 a (.lst (us2.set n v)) b ≠ none := fun b mb => by
        by_cases hb : b = a
        · rw [hb, upd_same]
          exact fun z => nomatch z
        · rw [upd_ne hb]
          exact E2.tr b mb
      have eh : hid (B ++ f.A0) (upd H2 a (.lst (us2.set n v))) = hid (B ++ f.A0) H2 := hid_upd mA2
      have E3 := E2.put hx ea kp tr upd_same (by rw [eh]; exact DpAll_set n qu2 qv)
      have m3 : Mv σ η1 H2 (upd H2 a (.lst (us2.set n v))) := fun b o z nn => kp b o (fun w => nn i xs hx (by rw [w]; exact ea)) z
      refine p σ _ B (e2.mv E3 (Kin.put hx) m3) ?_
      rw [eh]
      exact s.trans sh) fun η => only_nx _
/-- for .. in a walk that changes lists ahead -/
def xFor (Fi : Nv → R (List D × Nv)) (T : Tgt) (Gb : Nv → Rs) : Nv → Rs := fun η => (only (Fi η)).toS fun p => loopG T Gb p.1 p.2
theorem xs_for {body : List Stmt} {Gb : Nv → Rs} (hp : PassesOwn (model X.prog X.w) X.A X.env X.xe) (hc : X.calm = true) (hi : TXI X tg iter Fi) (hg : TT' X tg T js) (hb : TSs X f body Gb) (hs : ∀ x, foldedSetIterable iter X.env x = pure x := by intro _; rfl) :
    TS' X f (.For tg iter body [] pos) (xFor Fi T Gb) := psW (ps_for hp hc hi hg hb (hs := hs)) fun E σ H h => by
  obtain ⟨η, B, e, p0⟩ := h
  have p : PostS X.K X.mg f.W f.rl f.M f.H0 f.A0 H B ((only (Fi η)).toS fun p => loopG T Gb p.1 p.2) E := p0
  refine (show tXI X.K Fi σ H _ from ⟨η, B ++ f.A0, e.env, ?_⟩)
  cases e1 : Fi η with
  | ex c w q => rw [e1] at p; exact False.elim p
  | no => rw [e1] at p; exact False.elim p
  | ok ds =>
    rw [e1] at p
    obtain ⟨ds, η1⟩ := ds
    have p : PostS X.K X.mg f.W f.rl f.M f.H0 f.A0 H B (loopG T Gb ds η1) E := p
    intro J H1 E1 k1 m1 wk
    exact for_core (e.mv E1 k1 m1) wk (PostS.keep (m1.hid e.env) p)
end
end Bd
/-! D15: built-ins and defs called with what changes lists; a list given up to data. -/
namespace Bd
open PySem L2

theorem dp_lst {K : PySem.W.Frag} {H : Hp} {A : List Addr} {p : Addr} {vs : List V} {ds : List D} (hA : ∀ a ∈ A, H a ≠ none) (hp : H p = none) (h : DpAll K (hid A H) vs ds) : rD K H (upd H p (.lst vs)) A (.ref p) (.list ds) :=
  rF_D (fun q hq m => hA q m hq) (dp_new_list hA hp h)
section
variable {X : Cx} {e : Expr} {es : List Expr} {Fs : Nv → R (List D × Nv)} {p pos : Pos}
theorem x_intc (hm : X.mg "int" = none) (ha : TXA X [e] Fs) (hgl : Gl X "int" := by rfl) (he : starEach [e] X.env = (false, eval e X.env) :: starEach [] X.env := by rfl) (hpl : (backTo pos (starEach [] X.env)).any (·.1) = false := by rfl) :
    TX X (rD X.K) (.Call (.Name "int" p) [e] [] pos) (xN intV Fs) := x_callTy back2_D call_int1 (fun H A vs ds d Q hA h e k => by
  unfold intV at e
  split at e
  · have e := Option.some.inj e
    subst e
    obtain ⟨v, rfl, q⟩ := all1 h
    exact .inl ⟨_, by rw [rO_int q], k _ H (Same.refl _) (.int _)⟩
  · have e := Option.some.inj e
    subst e
    obtain ⟨v, rfl, q⟩ := all1 h
    exact .inr ⟨_, by rw [rO_bool q], k _ H (Same.refl _) (.int _)⟩
  · cases e) hgl hm (by decide +kernel) ha (he := he) (hpl := hpl)
theorem x_tuplec (hm : X.mg "tuple" = none) (ha : TXA X [e] Fs) (hgl : Gl X "tuple" := by rfl) (he : starEach [e] X.env = (false, eval e X.env) :: starEach [] X.env := by rfl) (hpl : (backTo pos (starEach [] X.env)).any (·.1) = false := by rfl) :
    TX X (rD X.K) (.Call (.Name "tuple" p) [e] [] pos) (xN tupleV Fs) := x_callTy back2_D call_tuple_of (fun H A vs ds d Q hA h e k => by
  unfold tupleV at e
  split at e
  · have e := Option.some.inj e
    subst e
    obtain ⟨v, rfl, q⟩ := all1 h
    obtain ⟨l, ws, rfl, h1, q1⟩ := rO_list q
    exact ⟨l, ws, rfl, .inl ⟨h1, fun t ht => k _ _ (same_new ht) (dp_new_tup hA ht q1)⟩⟩
  · have e := Option.some.inj e
    subst e
    obtain ⟨v, rfl, q⟩ := all1 h
    obtain ⟨l, ws, rfl, h1, h2, q1⟩ := rO_tup q
    exact ⟨l, ws, rfl, .inr ⟨h1, k _ H (Same.refl _) (.tup h2 q1)⟩⟩
  · cases e) hgl hm (by decide +kernel) ha (he := he) (hpl := hpl)
theorem x_abs (hm : X.mg "abs" = none) (ha : TXA X [e] Fs) (hgl : Gl X "abs" := by rfl) (he : starEach [e] X.env = (false, eval e X.env) :: starEach [] X.env := by rfl) (hpl : (backTo pos (starEach [] X.env)).any (·.1) = false := by rfl) :
    TX X (rD X.K) (.Call (.Name "abs" p) [e] [] pos) (xN absV' Fs) := x_callB back2_D call_abs (fun H A vs ds d Q hA h e k => by
  unfold absV' at e
  split at e
  · have e := Option.some.inj e
    subst e
    obtain ⟨v, rfl, q⟩ := all1 h
    exact ⟨_, by rw [rO_int q], k _ H (Same.refl _) (.int _)⟩
  · cases e) hgl hm (by decide +kernel) ha (he := he) (hpl := hpl)
theorem x_listc (hm : X.mg "list" = none) (ha : TXA X [e] Fs) (hgl : Gl X "list" := by rfl) (he : starEach [e] X.env = (false, eval e X.env) :: starEach [] X.env := by rfl) (hpl : (backTo pos (starEach [] X.env)).any (·.1) = false := by rfl) :
    TX X (rD X.K) (.Call (.Name "list" p) [e] [] pos) (xN listV Fs) := x_callTy back2_D call_list_of (fun H A vs ds d Q hA h e k => by
  unfold listV at e
  split at e
  · have e := Option.some.inj e
    subst e
    obtain ⟨v, rfl, q⟩ := all1 h
    obtain ⟨l, ws, rfl, h1, q1⟩ := rO_list q
    exact ⟨l, ws, rfl, .inl h1, fun t ht => k _ _ (same_new ht) (dp_lst hA ht q1)⟩
  · have e := Option.some.inj e
    subst e
    obtain ⟨v, rfl, q⟩ := all1 h
    obtain ⟨l, ws, rfl, h1, h2, q1⟩ := rO_tup q
    exact ⟨l, ws, rfl, .inr h1, fun t ht => k _ _ (same_new ht) (dp_lst hA ht q1)⟩
  · cases e) hgl hm (by decide +kernel) ha (he := he) (hpl := hpl)
theorem x_sortI (hm : X.mg "sorted" = none) (ha : TXA X [e] Fs) (hgl : Gl X "sorted" := by rfl) (he : starEach [e] X.env = (false, eval e X.env) :: starEach [] X.env := by rfl) (hpl : (backTo pos (starEach [] X.env)).any (·.1) = false := by rfl) :
    TX X (rD X.K) (.Call (.Name "sorted" p) [e] [] pos) (xN sortIV Fs) := x_callB back2_D cr_sortedI (fun H A vs ds d Q hA h e k => by
  unfold sortIV at e
  split at e
  · rename_i xs
    cases e2 : ints? xs with
    | none => rw [e2] at e; cases e
    | some bs =>
      rw [e2] at e
      cases e
      obtain ⟨v, rfl, q⟩ := all1 h
      obtain ⟨l, ws, rfl, h1, q1⟩ := rO_list q
      rw [(ints_of q1 e2).1] at h1
      refine ⟨l, bs, rfl, h1, fun ns' t pm so ht => ?_⟩
      have en : ns' = isort bs := sorted_unique (pm.trans (isort_perm bs).symm) so (isort_sorted bs)
      subst en
      exact k _ _ (same_new ht) (dp_lst hA ht (DpAll_ints _))
  · cases e) hgl hm (by decide +kernel) ha (he := he) (hpl := hpl)
theorem x_len (hm : X.mg "len" = none) (ha : TXA X [e] Fs) (hgl : Gl X "len" := by rfl) (he : starEach [e] X.env = (false, eval e X.env) :: starEach [] X.env := by rfl) (hpl : (backTo pos (starEach [] X.env)).any (·.1) = false := by rfl) : TX X (rD X.K) (.Call (.Name "len" p) [e] [] pos) (xN lenV Fs) := x_callB back2_D call_lenA o_len hgl hm PySem.boot_len ha (he := he) (hpl := hpl)
/-! defs -/
def DfK (P : Program) (w : World) (K : PySem.W.Frag) (mg : Str → Option Value) (base : Heap) (k : Nat) (x : Str) (n : Nat) (Fk : List D → List D → R (D × List D)) : Prop :=
  ∃ f fd ps, FnG P w K mg base k f fd ps (spK K (rD K) n Fk) ∧ Binds K fd ps [] ∧ mg x = some (.ref f) ∧ PySem.W.keepIn K (.ref f) = true
theorem x_callDK {x dn : Str} {pd : Pos} {j k n : Nat} {Fk : List D → List D → R (D × List D)} (i : Nat) (d : DfK X.prog X.w X.K X.mg X.base j x n Fk) (hr : Room k X.A) (hgd : X.A.guards = some []) (ha : TXA X es Fs) (hfs : ∀ η ds, Fs η = .ok ds → ds.1.length = n) (hj : j ≤ k := by decide) (hg : Gl X x := by rfl)
    (hi : X.N[i]? = some dn := by rfl) (hv : Vis X.env.scope dn := by first | exact Or.inl rfl | exact Or.inr (Or.inl rfl) | exact Or.inr (Or.inr rfl)) (hd : (dn == ("__debug__" : Str)) = false := by decide) (hcd : (dn == ("__classdict__" : Str)) = false := by decide)
    (hdb : (x == ("__debug__" : Str)) = false := by decide) (he : starEach (.Name dn pd :: es) X.env = (false, eval (.Name dn pd) X.env) :: starEach es X.env := by rfl) (hpl : (backTo pos (starEach es X.env)).any (·.1) = false := by rfl) :
    TX X (rD X.K) (.Call (.Name x p) (.Name dn pd :: es) [] pos) (xCallK i Fk Fs) := by
  obtain ⟨f, fd, ps, F, b, m, kp⟩ := d
  exact x_callK i back2_D F (hr.mono hj) hgd hg m kp b ha hfs hi hv hd hcd hdb he hpl
theorem x_callD {x : Str} {j k n : Nat} {Fn : List D → R D} (d : Df X.prog X.w X.K X.mg X.base j x n (rD X.K) Fn) (hr : Room k X.A) (hgd : X.A.guards = some []) (ha : TXA X (e :: es) Fs) (hfs : ∀ η ds, Fs η = .ok ds → ds.1.length = n) (hj : j ≤ k := by decide) (hg : Gl X x := by rfl)
    (hdb : (x == ("__debug__" : Str)) = false := by decide) (he : starEach (e :: es) X.env = (false, eval e X.env) :: starEach es X.env := by rfl) (hpl : (backTo pos (starEach es X.env)).any (·.1) = false := by rfl) :
    TX X (rD X.K) (.Call (.Name x p) (e :: es) [] pos) (xCall Fn Fs) := by
  obtain ⟨f, fd, ps, F, b, m, kp⟩ := d
  exact x_call back2_D F (hr.mono hj) hgd hg m kp b ha hfs hdb he hpl
theorem xC_len {Fa : Nv → R (D × Nv)} {m : Nat} (h : ∀ η ds, Fs η = .ok ds → ds.1.length = m) : ∀ η ds, xC Fa Fs η = .ok ds → ds.1.length = m + 1 := fun η ds e => by
  unfold xC at e
  cases e1 : Fa η with
  | ex c w z => rw [e1] at e; cases e
  | no => rw [e1] at e; cases e
  | ok y =>
    rw [e1] at e
    have e : ((Fs y.2).bind fun q => R.ok (y.1 :: q.1, q.2)) = .ok ds := e
    cases e2 : Fs y.2 with
    | ex c w z => rw [e2] at e; cases e
    | no => rw [e2] at e; cases e
    | ok ys =>
      rw [e2] at e
      cases e
      show (y.1 :: ys.1).length = _
      rw [List.length_cons, h y.2 ys e2]
theorem x0_len : ∀ η ds, x0 η = .ok ds → ds.1.length = 0 := fun η ds e => by
  cases e
  rfl
end
/-! ### a list of one's own, from now on data -/
def frzS (i : Nat) : Nv → Rs := fun η => match η[i]? with
  | some (.own xs) => if xs.b then .nx (η.set i (.d (.list xs.l))) else .no
  | _ => .no
section
variable {X : Cx} {f : Fx} {sts : List Stmt} {Gt : Nv → Rs}
theorem EnvS.frz {K : PySem.W.Frag} {M : List Addr} {H0 : Hp} {A0 : List Addr} {H : Hp} {B : List Addr} {σ : L2.St} {η : Nv} {i : Nat} {xs : OL} {a : Addr} (e : EnvS K M H0 A0 H B σ η) (hi : η[i]? = some (.own xs)) (ho : σ[i]? = some (some (.ref a))) (hb : xs.b = true) :
    EnvS K M H0 A0 H (B.filter (· ≠ a)) σ (η.set i (.d (.list xs.l))) ∧ Same (hid (B ++ A0) H) (hid (B.filter (· ≠ a) ++ A0) H) := by
  have hB := e.own i a xs hi ho
  rw [if_pos hb] at hB
  have sub : ∀ b ∈ B.filter (· ≠ a) ++ A0, b ∈ B ++ A0 := fun b m => by
    rcases List.mem_append.mp m with m | m
    · exact List.mem_append_left _ (List.mem_filter.mp m).1
    · exact List.mem_append_right _ m
  have sh : Same (hid (B ++ A0) H) (hid (B.filter (· ≠ a) ++ A0) H) := hid_mono sub
  have nA : a ∉ B.filter (· ≠ a) ++ A0 := fun m => by
    rcases List.mem_append.mp m with m | m
    · have := (List.mem_filter.mp m).2
      simp at this
    · exact e.mA.2 a m (e.new a hB)
  have hl : i < η.length := (List.getElem?_eq_some_iff.mp hi).1
  have what : ∀ (j : Nat) (sl : Sl), (η.set i (.d (.list xs.l)))[j]? = some sl → (j = i ∧ sl = .d (.list xs.l)) ∨ (j ≠ i ∧ η[j]? = some sl) := fun j sl h => by
    by_cases hj : j = i
    · subst hj
      rw [List.getElem?_set_self hl] at h
      exact .inl ⟨rfl, (Option.some.inj h).symm⟩
    · rw [List.getElem?_set_ne fun z => hj z.symm] at h
      exact .inr ⟨hj, h⟩
  obtain ⟨_, vs, ev, qv⟩ := own_in e.env hi ho
  have keep : ∀ (j : Nat) (b : Addr) (ys : OL), j ≠ i → η[j]? = some (.own ys) → σ[j]? = some (some (.ref b)) → b ≠ a := fun j b ys n h1 h2 z => n (e.env.ap j i a ys xs h1 hi (by rw [← z]; exact h2) ho)
  refine ⟨⟨⟨by rw [List.length_set, e.env.len], fun j sl h => ?_, fun j k b ys zs h1 h2 h3 h4 => ?_, fun b m => e.env.tr b (sub b m)⟩, e.same, e.mA, fun b m => e.new b (List.mem_filter.mp m).1, fun j b ys h1 h2 => ?_⟩, sh⟩
  · rcases what j sl h with ⟨ej, es⟩ | ⟨n, h⟩
    · subst ej es
      exact ⟨_, ho, .lst (SqL.of (by rw [hid_out nA]; exact ev)) (DpAll_mono qv sh)⟩
    · obtain ⟨o, e1, q⟩ := e.env.at_ j sl h
      refine ⟨o, e1, ?_⟩
      cases sl with
      | no => cases o <;> trivial
      | d x =>
        cases o with
        | none => exact q
        | some v => exact Dp_mono (show Dp K (hid (B ++ A0) H) v x from q) sh
      | own zs =>
        match o, q, e1 with
        | some (.ref b), ⟨m, ws, e2, q⟩, e1 =>
          have nb := keep j b zs n h e1
          refine ⟨?_, ws, e2, DpAll_mono q sh⟩
          rcases List.mem_append.mp m with m | m
          · exact List.mem_append_left _ (List.mem_filter.mpr ⟨m, by simp [nb]⟩)
          · exact List.mem_append_right _ m
      | m x => exact q.m' sh
  · rcases what j _ h1 with ⟨_, z⟩ | ⟨n, g1⟩
    · cases z
    · rcases what k _ h2 with ⟨_, z⟩ | ⟨n2, g2⟩
      · cases z
      · exact e.env.ap j k b ys zs g1 g2 h3 h4
  · rcases what j _ h1 with ⟨_, z⟩ | ⟨n, g1⟩
    · cases z
    · have q := e.own j b ys g1 h2
      cases hy : ys.b with
      | true =>
        rw [hy, if_pos rfl] at q
        rw [if_pos rfl]
        exact List.mem_filter.mpr ⟨q, by simp [keep j b ys n g1 h2]⟩
      | false =>
        rw [hy] at q
        exact q
theorem ss_frz (i : Nat) (h : TSs X f sts Gt) : TSs X f sts (seqS (frzS i) Gt) := pssW h fun E σ H ⟨η, B, e, p0⟩ => by
  have p : PostS X.K X.mg f.W f.rl f.M f.H0 f.A0 H B ((frzS i η).bind Gt) E := p0
  unfold frzS at p
  split at p
  case h_2 => exact False.elim p
  rename_i xs hx
  split at p
  case isFalse => exact False.elim p
  rename_i hb
  obtain ⟨a, ea, _⟩ := own_ref e.env hx
  obtain ⟨e2, sh⟩ := e.frz hx ea hb
  exact ⟨_, _, e2, PostS.keep sh p⟩
end
end Bd
/-! D16: methods of lists: index, count; pop and insert on a list that is changed; sum; a new list as data. -/
namespace Bd
open PySem L2

section
variable {X : Cx} {W : WX} {o e : Expr} {Fo Fe : Nv → R D} {apos cpos pos p : Pos}
def m2 (f : List D → D → Option D) (Fo Fe : Nv → R D) : Nv → R D := fun η => (Fo η).bind fun a => match a with
  | .list ds => (Fe η).bind fun y => .of (f ds y)
  | _ => .no
/-- a list's method of one argument that changes nothing -/
theorem t_meth {id name : String} {r : V → List V → Hp → VK → Prop} {f : List D → D → Option D} (slot : Slot "list" name id) (hty : typeOf (.builtin id) = pure (.type "method_descriptor")) (hm : MtR X id r)
    (hr : ∀ (H : Hp) (A : List Addr) (l : Addr) (vs : List V) (ds : List D) (y : V) (b d : D) (Q : VK), (∀ q ∈ A, H q ≠ none) → SqL X.K H l vs → DpAll X.K (hid A H) vs ds → rO X.K H H A y b → f ds b = some d → (∀ v H', Same H H' → rD X.K H H' A v d → Q v H') → r (.ref l) [y] H Q)
    (ho : TO X W o Fo) (he : TO X W e Fe)
    (hbase : attributeBase o name X.env (eval o X.env) = eval o X.env := by rfl)
    (hfew : ((backTo cpos (starEach [e] X.env)).all (fun x => !x.1) && (backToKw cpos (keywordEach [] X.env)).all (fun x => x.1.isSome) && decide ([e].length + ([] : List Keyword).length + (if ([] : List Keyword).isEmpty then 0 else 1) < 30)) = true := by rfl)
    (hline : (apos.endLine == cpos.line) = true := by rfl) (hs : starEach [e] X.env = (false, eval e X.env) :: starEach [] X.env := by rfl) (hplain : (backTo cpos (starEach [] X.env)).any (·.1) = false := by rfl) :
    TD X W (.Call (.Attribute o name apos) [e] [] cpos) (m2 f Fo Fe) := peW (pe_bm PySem.F.plainAttrs_list slot hty hm ho (pa_cons he pa_nil hs) hbase hfew hline hs hplain) fun σ H Q ⟨η, A, E, p0⟩ => by
  have p : Post X.K X.mg W (rD X.K) σ A H (m2 f Fo Fe η) Q := p0
  unfold m2 at p
  refine (show tR X.K X.mg W (rO X.K) Fo σ H _ from ⟨η, A, E, ?_⟩)
  cases e1 : Fo η with
  | ex c w q => rw [e1] at p; exact p
  | no => rw [e1] at p; exact p
  | ok a =>
    rw [e1] at p
    cases a <;> first | exact False.elim p | skip
    rename_i ds
    have p : Post X.K X.mg W (rD X.K) σ A H ((Fe η).bind fun y => .of (f ds y)) Q := p
    intro x H1 s1 q1
    obtain ⟨l, vs, rfl, h1, qv⟩ := rO_list q1
    refine ⟨.inl ⟨rfl, vs, h1⟩, ?_⟩
    refine (show tR X.K X.mg W (rO X.K) Fe σ H1 _ from ⟨η, A, E.same s1, ?_⟩)
    cases e2 : Fe η with
    | ex c w q =>
      rw [e2] at p
      exact fun cls dd H' s q' => p cls dd H' (s1.trans s) q'
    | no => rw [e2] at p; exact p
    | ok y =>
      rw [e2] at p
      have p : Post X.K X.mg W (rD X.K) σ A H (.of (f ds y)) Q := p
      intro w H2 s2 q2
      cases e3 : f ds y with
      | none => rw [e3] at p; exact False.elim p
      | some d =>
        rw [e3] at p
        exact hr H2 A l vs ds w y d Q (E.same (s1.trans s2)).tr (s2.seq h1) (DpAll_mono qv (hid_same s2)) (rO_same (Same.refl _) q2) e3 fun v H' s q => p v H' ((s1.trans s2).trans s) q
/-! index, count -/
def idxN (d : D) : List D → Option Nat
  | [] => none
  | x :: r => if PyData.eqv x d then some 0 else (idxN d r).map (· + 1)
theorem idxN_spec {d : D} : ∀ {ds : List D} {j : Nat}, idxN d ds = some j → (∃ z, ds[j]? = some z ∧ PyData.eqv z d = true) ∧ ∀ (m : Nat) (z : D), m < j → ds[m]? = some z → PyData.eqv z d = false
  | [], j, e => by cases e
  | x :: r, j, e => by
    unfold idxN at e
    by_cases h : PyData.eqv x d = true
    · rw [if_pos h] at e
      cases e
      exact ⟨⟨x, rfl, h⟩, fun m z hm => absurd hm (Nat.not_lt_zero m)⟩
    · rw [if_neg h] at e
      cases e2 : idxN d r with
      | none => rw [e2] at e; cases e
      | some k =>
        rw [e2] at e
        cases e
        obtain ⟨⟨z, h1, h2⟩, h3⟩ := idxN_spec e2
        refine ⟨⟨z, h1, h2⟩, fun m z hm hz => ?_⟩
        cases m with
        | zero =>
          cases hz
          exact Bool.eq_false_iff.mpr h
        | succ m => exact h3 m z (Nat.lt_of_succ_lt_succ hm) hz
def indexV (ds : List D) (d : D) : Option D := if SeqAt.shaped (.list ds) = true ∧ SeqAt.shaped d = true then (idxN d ds).map fun j => .int (j : Nat) else none
theorem t_index (hu : X.A.units + 65 < cLine) (ho : TO X W o Fo) (he : TO X W e Fe)
    (hbase : attributeBase o "index" X.env (eval o X.env) = eval o X.env := by rfl)
    (hfew : ((backTo cpos (starEach [e] X.env)).all (fun x => !x.1) && (backToKw cpos (keywordEach [] X.env)).all (fun x => x.1.isSome) && decide ([e].length + ([] : List Keyword).length + (if ([] : List Keyword).isEmpty then 0 else 1) < 30)) = true := by rfl)
    (hline : (apos.endLine == cpos.line) = true := by rfl) (hs : starEach [e] X.env = (false, eval e X.env) :: starEach [] X.env := by rfl) (hplain : (backTo cpos (starEach [] X.env)).any (·.1) = false := by rfl) :
    TD X W (.Call (.Attribute o "index" apos) [e] [] cpos) (m2 indexV Fo Fe) :=
  t_meth PySem.F.slot_list_index PySem.F.type_list_index (mt_indexD hu) (fun H A l vs ds y b d Q hA h1 qv qb hf k => by
    unfold indexV at hf
    split at hf
    · rename_i hsh
      cases e2 : idxN b ds with
      | none => rw [e2] at hf; cases hf
      | some j =>
        rw [e2] at hf
        cases hf
        obtain ⟨⟨z, z1, z2⟩, z3⟩ := idxN_spec e2
        exact ⟨l, y, b, ds, j, z, rfl, rfl, .lst h1 (DpAll_mono qv (hid_le A H)), rO_dp qb, hsh.1, hsh.2, z1, z2, z3, k _ H (Same.refl _) (.int _)⟩
    · cases hf) ho he hbase hfew hline hs hplain
def countV (ds : List D) (d : D) : Option D := match ints? ds, d with
  | some ns, .int k => some (.int (ns.count k : Nat))
  | _, _ => none
theorem t_count (ho : TO X W o Fo) (he : TO X W e Fe)
    (hbase : attributeBase o "count" X.env (eval o X.env) = eval o X.env := by rfl)
    (hfew : ((backTo cpos (starEach [e] X.env)).all (fun x => !x.1) && (backToKw cpos (keywordEach [] X.env)).all (fun x => x.1.isSome) && decide ([e].length + ([] : List Keyword).length + (if ([] : List Keyword).isEmpty then 0 else 1) < 30)) = true := by rfl)
    (hline : (apos.endLine == cpos.line) = true := by rfl) (hs : starEach [e] X.env = (false, eval e X.env) :: starEach [] X.env := by rfl) (hplain : (backTo cpos (starEach [] X.env)).any (·.1) = false := by rfl) :
    TD X W (.Call (.Attribute o "count" apos) [e] [] cpos) (m2 countV Fo Fe) :=
  t_meth PySem.F.slot_list_count PySem.F.type_list_count mt_lcount (fun H A l vs ds y b d Q hA h1 qv qb hf k => by
    unfold countV at hf
    split at hf
    · rename_i ns k0 e2
      cases hf
      refine ⟨l, ns, k0, rfl, by rw [rO_int qb], ?_, k _ H (Same.refl _) (.int _)⟩
      rw [← (ints_of qv e2).1]
      exact h1
    · cases hf) ho he hbase hfew hline hs hplain
/-! sum -/
def sumV : List D → Option D
  | [.list xs] => (ints? xs).map fun ns => .int ns.sum
  | _ => none
theorem t_sum {Fs : Nv → R (List D)} (hc : X.calm = true) (hm : X.mg "sum" = none) (ha : TAs X W (vO X.K) [e] Fs) (hgl : Gl X "sum" := by rfl) (he : starEach [e] X.env = (false, eval e X.env) :: starEach [] X.env := by rfl) (hpl : (backTo pos (starEach [] X.env)).any (·.1) = false := by rfl) :
    TD X W (.Call (.Name "sum" p) [e] [] pos) (eN sumV Fs) := t_callB back_D (cr_sum hc) (fun H A vs ds d Q hA h e k => by
  unfold sumV at e
  split at e
  · rename_i xs
    cases e2 : ints? xs with
    | none => rw [e2] at e; cases e
    | some ns =>
      rw [e2] at e
      cases e
      obtain ⟨v, rfl, q⟩ := all1 h
      obtain ⟨l, ws, rfl, h1, q1⟩ := rO_list q
      rw [(ints_of q1 e2).1] at h1
      exact ⟨l, ns, rfl, h1, k _ H (Same.refl _) (.int _)⟩
  · cases e) hgl hm (by decide +kernel) ha (he := he) (hpl := hpl)
end
/-! ### a def's new list, taken as data -/
theorem FnG.asD {P : Program} {w : World} {K : PySem.W.Frag} {mg : Str → Option Value} {base : Heap} {k : Nat} {f : Addr} {fd : FuncData} {ps : List Str} {n : Nat} {Fn : List D → R D} (F : FnG P w K mg base k f fd ps (spD K mg (rF K) n Fn)) : FnG P w K mg base k f fd ps (spD K mg (rD K) n Fn) := by
  have imp : ∀ vs H Q E, spD K mg (rD K) n Fn vs H Q E → spD K mg (rF K) n Fn vs H Q E := fun vs H Q E ⟨ds, A, h1, h2, h3, h4⟩ => ⟨ds, A, h1, h2, h3, by
    cases e : Fn ds with
    | ok d => rw [e] at h4; exact fun v H' s q => h4 v H' s (rF_D (fun p hp m => h2 p m hp) q)
    | ex c w p => rw [e] at h4; exact h4
    | no => rw [e] at h4; exact h4⟩
  exact ⟨fun vs H Q E h => F.len vs H Q E (imp _ _ _ _ h), fun A o s H as us vs Q E hr hg env b v h => F.run A o s H as us vs Q E hr hg env b v (imp _ _ _ _ h)⟩
theorem Df.asD {P : Program} {w : World} {K : PySem.W.Frag} {mg : Str → Option Value} {base : Heap} {k : Nat} {x : Str} {n : Nat} {Fn : List D → R D} (d : Df P w K mg base k x n (rF K) Fn) : Df P w K mg base k x n (rD K) Fn := by
  obtain ⟨f, fd, ps, F, r⟩ := d
  exact ⟨f, fd, ps, F.asD, r⟩
/-! ### pop and insert on a list that is changed -/
section
variable {X : Cx} {f : Fx} {e a b : Expr} {F Fa Fb : Nv → R (D × Nv)} {apos cpos epos px : Pos}
def popAt (i : Nat) (p : D × Nv) : R (D × Nv) := match p.2[i]?, p.1 with
  | some (.own xs), .int j => if -(2 ^ 63) ≤ j ∧ j < 2 ^ 63 then (match seqIndex? j xs.l.length with
    | some m => (match xs.l[m]? with
      | some y => .ok (y, p.2.set i (.own ⟨xs.b, xs.l.eraseIdx m⟩))
      | none => .no)
    | none => .no) else .no
  | _, _ => .no
def xPop (i : Nat) (F : Nv → R (D × Nv)) : Nv → R (D × Nv) := fun η => match η[i]? with
  | some (.own _) => (F η).bind (popAt i)
  | _ => .no
theorem DpAll_erase {K : PySem.W.Frag} {H : Hp} : ∀ {vs : List V} {ds : List D} (n : Nat), DpAll K H vs ds → DpAll K H (vs.eraseIdx n) (ds.eraseIdx n)
  | _, _, _, .nil => .nil
  | _, _, 0, .cons _ t => t
  | _, _, n + 1, .cons h t => .cons h (DpAll_erase n t)
theorem put_keep {K : PySem.W.Frag} {H : Hp} {A : List Addr} {σ : L2.St} {η : Nv} {i : Nat} {xs : OL} {c : Addr} {ws : List V} {ys : List D} (E : EnvD K H A σ η) (hi : η[i]? = some (.own xs)) (ho : σ[i]? = some (some (.ref c))) (q : DpAll K (hid A H) ws ys) :
    EnvD K (upd H c (.lst ws)) A σ (η.set i (.own ⟨xs.b, ys⟩)) ∧ Mv σ η H (upd H c (.lst ws)) ∧ hid A (upd H c (.lst ws)) = hid A H := by
  have mA := (own_in E hi ho).1
  have eh : hid A (upd H c (.lst ws)) = hid A H := hid_upd mA
  have kp : ∀ z o, z ≠ c → H z = some o → upd H c (.lst ws) z = some o := fun z o nz w => by rw [upd_ne nz]; exact w
  refine ⟨E.put hi ho kp (fun z mz => ?_) upd_same (by rw [eh]; exact q), fun z o w nn => kp z o (fun y => nn i xs hi (by rw [y]; exact ho)) w, eh⟩
  by_cases hz : z = c
  · rw [hz, upd_same]
    exact fun w => nomatch w
  · rw [upd_ne hz]
    exact E.tr z mz
theorem x_pop (i : Nat) {x : Str} (he : TX X (rD X.K) e F) (hi : X.N[i]? = some x := by rfl) (hv : Vis X.env.scope x := by first | exact Or.inl rfl | exact Or.inr (Or.inl rfl) | exact Or.inr (Or.inr rfl)) (hd : (x == ("__debug__" : Str)) = false := by decide) (hcd : (x == ("__classdict__" : Str)) = false := by decide)
    (hbase : attributeBase (.Name x px) "pop" X.env (eval (.Name x px) X.env) = eval (.Name x px) X.env := by rfl)
    (hfew : ((backTo cpos (starEach [e] X.env)).all (fun x => !x.1) && (backToKw cpos (keywordEach [] X.env)).all (fun x => x.1.isSome) && decide ([e].length + ([] : List Keyword).length + (if ([] : List Keyword).isEmpty then 0 else 1) < 30)) = true := by rfl)
    (hline : (apos.endLine == cpos.line) = true := by rfl) (hs : starEach [e] X.env = (false, eval e X.env) :: starEach [] X.env := by rfl) (hplain : (backTo cpos (starEach [] X.env)).any (·.1) = false := by rfl) :
    TX X (rD X.K) (.Call (.Attribute (.Name x px) "pop" apos) [e] [] cpos) (xPop i F) := peW (pe_bm PySem.F.plainAttrs_list PySem.F.slot_list_pop PySem.F.type_list_pop mt_popAt (pe_var hi hv hd hcd) (pa_cons he pa_nil hs) hbase hfew hline hs hplain) fun σ H Q ⟨η, A, E, p0⟩ => by
  have p : PostX X.K (rD X.K) σ A H η (xPop i F η) Q := p0
  unfold xPop at p
  split at p
  case h_2 => exact False.elim p
  rename_i x0 hx0
  obtain ⟨c, ec, _, vs0, ev0, _⟩ := own_ref E hx0
  refine ⟨.ref c, ec, .inl ⟨rfl, vs0, SqL.of ev0⟩, ?_⟩
  refine (show tX X.K (rD X.K) F σ H _ from stepX (Pn := fun η r => PostX X.K (rD X.K) σ A H η r Q) E p (fun _ _ _ z => z) (fun z => z) fun k η1 v H1 e1 E1 k1 m1 q p => ?_)
  unfold popAt at p
  split at p
  case h_2 => exact False.elim p
  rename_i xs j hx hk
  have hk : k = .int j := hk
  subst hk
  split at p
  case isFalse => exact False.elim p
  rename_i hj
  split at p
  case h_2 => exact False.elim p
  rename_i m hm
  split at p
  case h_2 => exact False.elim p
  rename_i y hy
  have hx : η1[i]? = some (.own xs) := hx
  obtain ⟨mA, us, eu, qu⟩ := own_in E1 hx ec
  cases q
  obtain ⟨w, hw, qw⟩ := DpAll_get qu hy
  obtain ⟨Ep, mp, eh⟩ := put_keep E1 hx ec (DpAll_erase m qu)
  refine ⟨c, us, j, m, w, rfl, rfl, eu, hj.1, hj.2, by rw [DpAll_length qu]; exact hm, hw, ?_⟩
  exact p w _ Ep (k1.trans (Kin.put hx)) (Mv.trans k1 m1 mp) (by
    show Dp X.K (hid A (upd H1 c _)) w y
    rw [eh]
    exact qw)
end
end Bd
/-! D17: data sorted; data compared. -/
namespace Bd
open PySem L2

section
variable {X : Cx}
/-- sorted of alike data -/
def rSortD (K : PySem.W.Frag) : List V → Hp → VK → Prop := fun vs H Q => ∃ (a : Addr) (zs : List (V × D)), vs = [.ref a] ∧ SqL K H a (zs.map (·.1)) ∧ (∀ z ∈ zs, Dp K H z.1 z.2) ∧ PySem.W.AllAlike (zs.map (·.2)) ∧ PySem.W.Sortable (zs.map (·.2)) ∧ (∀ z ∈ zs, z.2.depth ≤ 60) ∧
  ∀ p, H p = none → Q (.ref p) (upd H p (.lst ((zs.mergeSort (PySem.W.dataLe false fun z : V × D => z.2)).map (·.1))))
theorem each_of {zs0 : List (V × D)} {R : Value → V × D → Prop} (h : ∀ (u : Value) (z : V × D), RelV z.1 u → z ∈ zs0 → R u z) : ∀ (zs : List (V × D)) (us : List Value), (∀ z ∈ zs, z ∈ zs0) → Vals (zs.map (·.1)) us → PySem.W.EachIs R us zs
  | [], us, _, r => by
    cases r
    exact .nil
  | z :: zs, us, hz, r => by
    cases r with
    | cons a t => exact .cons (h _ z a (hz z List.mem_cons_self)) (each_of h zs _ (fun y m => hz y (List.mem_cons_of_mem _ m)) t)
theorem vals_each {R : Value → V × D → Prop} (h : ∀ u z, R u z → RelV z.1 u) : ∀ {us : List Value} {zs : List (V × D)}, PySem.W.EachIs R us zs → Vals (zs.map (·.1)) us
  | _, _, .nil => .nil
  | _, _, .cons a t => .cons (h _ _ a) (vals_each h t)
theorem cr_sortD (hu : X.A.units + 64 < cLine) : CallR X (.builtin "sorted") (rSortD X.K) := by
  intro pins s σ H vs us Q I r h
  obtain ⟨a, zs, rfl, hs, hd, hal, hso, hdp, q⟩ := h
  obtain ⟨its, rv, hl, hz⟩ := I.list hs
  obtain ⟨u, rfl, ru⟩ := vals1 r
  obtain rfl : u = Value.ref a := ru
  have e0 := each_of (zs0 := zs) (R := fun u z => RelV z.1 u ∧ ∃ as, Reads s.heap u z.2 as) (fun u z rz m => ⟨rz, Dp.reads I z.2 z.1 u (hd z m) rz⟩) zs its (fun z m => m) rv
  refine PySem.W.sorted_data (enc := fun z : V × D => z.2) (R := fun u z => RelV z.1 u) hl.isList (e0.mono fun _ _ h => h.1) (e0.mono fun _ _ h => h.2) hal hso (by
      have := rv.length
      rw [List.length_map] at this
      rw [List.length_map] at hz
      exact hz) (fun z m => by
      have := hdp z m
      omega) fun out hlen ho => ?_
  obtain ⟨c, hc⟩ := PyProof.Rows.sortedAll_at s.heap its out.toArray
  have kp : ∀ b o, s.heap.get? b = some o → (PyProof.Rows.sortedAll s.heap its out.toArray).get? b = some o := fun b o => PyProof.Rows.sortedAll_old
  have hd' : s.heap.objs.size ≤ s.heap.objs.size + 1 := Nat.le_succ _
  have vo := vals_each (fun _ _ h => h) ho
  refine ⟨.ref (s.heap.objs.size + 1), upd H (s.heap.objs.size + 1) (.lst ((zs.mergeSort (PySem.W.dataLe false fun z : V × D => z.2)).map (·.1))), I.laid (t' := s.toks) kp hd' ⟨?_, out, c, vo, hc⟩, rfl, q _ (I.hok.fresh hd')⟩
  have := vo.length
  rw [List.length_map] at hz ⊢
  rw [List.length_mergeSort]
  exact hz
/-- data that a sort takes -/
def alikeB (ds : List D) : Bool := ds.all fun d => ds.all fun e => PySem.W.alike d e
def tupB : D → Bool
  | .tuple (_ :: _) => true
  | _ => false
def othB : D → Bool
  | .none => false
  | .tuple _ => false
  | _ => true
def sortB (ds : List D) : Bool := alikeB ds && (ds.all tupB || ds.all othB) && ds.all fun d => decide (d.depth ≤ 60)
theorem sortB_alike {ds : List D} (h : sortB ds = true) : PySem.W.AllAlike ds := fun d hd e he => by
  unfold sortB alikeB at h
  simp only [Bool.and_eq_true, List.all_eq_true] at h
  exact h.1.1 d hd e he
theorem sortB_able {ds : List D} (h : sortB ds = true) : PySem.W.Sortable ds := by
  unfold sortB at h
  simp only [Bool.and_eq_true, Bool.or_eq_true, List.all_eq_true] at h
  rcases h.1.2 with h | h
  · refine .inl fun d hd => ?_
    have := h d hd
    unfold tupB at this
    split at this
    · exact ⟨_, _, rfl⟩
    · cases this
  · refine .inr fun d hd => ?_
    have := h d hd
    unfold othB at this
    split at this
    · cases this
    · cases this
    · rename_i n1 n2
      exact ⟨fun z => n1 z, fun xs z => n2 xs z⟩
theorem sortB_dp {ds : List D} (h : sortB ds = true) : ∀ d ∈ ds, d.depth ≤ 60 := fun d hd => by
  unfold sortB at h
  simp only [Bool.and_eq_true, List.all_eq_true, decide_eq_true_eq] at h
  exact h.2 d hd
def sortD (ds : List D) : List D := ds.mergeSort (PySem.W.dataLe false id)
def sortDV : List D → Option D
  | [.list xs] => if sortB xs then some (.list (sortD xs)) else none
  | _ => none
theorem zip_fst : ∀ {vs : List V} {ds : List D} {K : PySem.W.Frag} {H : Hp}, DpAll K H vs ds → (vs.zip ds).map (·.1) = vs ∧ (vs.zip ds).map (·.2) = ds ∧ ∀ z ∈ vs.zip ds, Dp K H z.1 z.2
  | _, _, _, _, .nil => ⟨rfl, rfl, fun z m => absurd m List.not_mem_nil⟩
  | _, _, _, _, .cons h t => by
    obtain ⟨h1, h2, h3⟩ := zip_fst t
    refine ⟨by rw [List.zip_cons_cons, List.map_cons, h1], by rw [List.zip_cons_cons, List.map_cons, h2], fun z m => ?_⟩
    rcases List.mem_cons.mp m with rfl | m
    · exact h
    · exact h3 z m
theorem dpAll_zip {K : PySem.W.Frag} {H : Hp} : ∀ {zs : List (V × D)}, (∀ z ∈ zs, Dp K H z.1 z.2) → DpAll K H (zs.map (·.1)) (zs.map (·.2))
  | [], _ => .nil
  | z :: zs, h => .cons (h z List.mem_cons_self) (dpAll_zip fun y m => h y (List.mem_cons_of_mem _ m))
theorem sort_snd (zs : List (V × D)) : (zs.mergeSort (PySem.W.dataLe false fun z : V × D => z.2)).map (·.2) = sortD (zs.map (·.2)) := by
  unfold sortD
  exact List.map_mergeSort fun a _ b _ => rfl
theorem o_sortD : OpN X (rF X.K) (rSortD X.K) sortDV := fun H A vs ds d Q hA h e k => by
  unfold sortDV at e
  split at e
  · split at e
    · rename_i xs hb
      have e := Option.some.inj e
      subst e
      obtain ⟨v, rfl, q⟩ := all1 h
      obtain ⟨l, ws, rfl, h1, q1⟩ := rO_list q
      obtain ⟨z1, z2, z3⟩ := zip_fst q1
      refine ⟨l, ws.zip xs, rfl, by rw [z1]; exact h1, fun z m => Dp_mono (z3 z m) (hid_le A H), by rw [z2]; exact sortB_alike hb, by rw [z2]; exact sortB_able hb, fun z m => sortB_dp hb z.2 (by rw [← z2]; exact List.mem_map.mpr ⟨z, m, rfl⟩), fun p hp => ?_⟩
      refine k _ _ (same_new hp) (dp_new_list hA hp ?_)
      have y := dpAll_zip (K := X.K) (H := hid A H) (zs := (ws.zip xs).mergeSort (PySem.W.dataLe false fun z : V × D => z.2)) fun z m => z3 z (List.mem_mergeSort.mp m)
      rw [sort_snd, z2] at y
      exact y
    · cases e
  · cases e
theorem t_sortD {W : WX} {e : Expr} {p pos : Pos} {Fs : Nv → R (List D)} (hu : X.A.units + 64 < cLine) (hm : X.mg "sorted" = none) (ha : TAs X W (vO X.K) [e] Fs) (hgl : Gl X "sorted" := by rfl) (he : starEach [e] X.env = (false, eval e X.env) :: starEach [] X.env := by rfl) (hpl : (backTo pos (starEach [] X.env)).any (·.1) = false := by rfl) :
    TF X W (.Call (.Name "sorted" p) [e] [] pos) (eN sortDV Fs) := t_callB back_F (cr_sortD hu) o_sortD hgl hm (by decide +kernel) ha (he := he) (hpl := hpl)
/-! comparisons of alike data -/
def rCmpD (K : PySem.W.Frag) (f : D → D → Bool) : R2 := fun x y H Q => ∃ a b, Dp K H x a ∧ Dp K H y b ∧ PySem.W.alike a b = true ∧ a ≠ .none ∧ a.depth ≤ 60 ∧ Q (.bl (f a b)) H
def ltD (a b : D) : Bool := PySem.W.dataLt a b
def gtD (a b : D) : Bool := PySem.W.dataLt b a
def leD (a b : D) : Bool := !PySem.W.dataLt b a
def geD (a b : D) : Bool := !PySem.W.dataLt a b
theorem op_ltD (hu : X.A.units + 64 < cLine) : OpR X (compareOp .Lt) (rCmpD X.K ltD) := fun pins s σ H x y v u Q I rx ry ⟨a, b, ha, hb, al, nn, dp, q⟩ => by
  obtain ⟨as, r1⟩ := Dp.reads I a x v ha rx
  obtain ⟨bs, r2⟩ := Dp.reads I b y u hb ry
  exact PySem.W.lt_data r1 r2 al nn (by have := Nat.min_le_left a.depth b.depth; omega) ⟨.bl _, H, I, rfl, q⟩
theorem op_gtD (hu : X.A.units + 64 < cLine) : OpR X (compareOp .Gt) (rCmpD X.K gtD) := fun pins s σ H x y v u Q I rx ry ⟨a, b, ha, hb, al, nn, dp, q⟩ => by
  obtain ⟨as, r1⟩ := Dp.reads I a x v ha rx
  obtain ⟨bs, r2⟩ := Dp.reads I b y u hb ry
  exact PySem.W.gt_data r1 r2 al nn (by have := Nat.min_le_left a.depth b.depth; omega) ⟨.bl _, H, I, rfl, q⟩
theorem op_leD (hu : X.A.units + 64 < cLine) : OpR X (compareOp .LtE) (rCmpD X.K leD) := fun pins s σ H x y v u Q I rx ry ⟨a, b, ha, hb, al, nn, dp, q⟩ => by
  obtain ⟨as, r1⟩ := Dp.reads I a x v ha rx
  obtain ⟨bs, r2⟩ := Dp.reads I b y u hb ry
  exact PySem.W.le_data r1 r2 al nn (by have := Nat.min_le_left a.depth b.depth; omega) ⟨.bl _, H, I, rfl, q⟩
theorem op_geD (hu : X.A.units + 64 < cLine) : OpR X (compareOp .GtE) (rCmpD X.K geD) := fun pins s σ H x y v u Q I rx ry ⟨a, b, ha, hb, al, nn, dp, q⟩ => by
  obtain ⟨as, r1⟩ := Dp.reads I a x v ha rx
  obtain ⟨bs, r2⟩ := Dp.reads I b y u hb ry
  exact PySem.W.ge_data r1 r2 al nn (by have := Nat.min_le_left a.depth b.depth; omega) ⟨.bl _, H, I, rfl, q⟩
def someB : D → Bool
  | .none => false
  | _ => true
theorem someB_ne {a : D} (h : someB a = true) : a ≠ .none := fun e => by
  subst e
  cases h
def cmpV (f : D → D → Bool) (a b : D) : Option D := if PySem.W.alike a b = true ∧ someB a = true ∧ a.depth ≤ 60 then some (.bool (f a b)) else none
theorem o_cmpD {f : D → D → Bool} : Op2 X rB (rCmpD X.K f) (cmpV f) := fun H A x y a b d Q hA ha hb e k => by
  unfold cmpV at e
  split at e
  · rename_i h
    have e := Option.some.inj e
    subst e
    exact ⟨a, b, rO_dp ha, rO_dp hb, h.1, someB_ne h.2.1, h.2.2, k _ H (Same.refl _) ⟨_, rfl, rfl⟩⟩
  · cases e
/-! ints first, else data -/
def rOr2 (r r' : R2) : R2 := fun x y H Q => r x y H Q ∨ r' x y H Q
theorem op_or {c : CmpOp} {r r' : R2} (h : OpR X (compareOp c) r) (h' : OpR X (compareOp c) r') : OpR X (compareOp c) (rOr2 r r') := fun pins s σ H x y v u Q I rx ry z => z.elim (h pins s σ H x y v u Q I rx ry) (h' pins s σ H x y v u Q I rx ry)
def orV2 (f g : D → D → Option D) (a b : D) : Option D := match f a b with
  | some d => some d
  | none => g a b
theorem o_or {r r' : R2} {f g : D → D → Option D} (h : Op2 X rB r f) (h' : Op2 X rB r' g) : Op2 X rB (rOr2 r r') (orV2 f g) := fun H A x y a b d Q hA ha hb e k => by
  unfold orV2 at e
  split at e
  · rename_i d0 e0
    have e := Option.some.inj e
    subst e
    exact .inl (h H A x y a b _ Q hA ha hb e0 k)
  · exact .inr (h' H A x y a b d Q hA ha hb e k)
def ltA := orV2 ltV (cmpV ltD)
def leA := orV2 leV (cmpV leD)
def gtA := orV2 gtV (cmpV gtD)
def geA := orV2 geV (cmpV geD)
variable {W : WX} {a b e : Expr} {Fa Fb : Nv → R D} {pos p : Pos}
theorem op_ltA (hu : X.A.units + 64 < cLine) : OpR X (compareOp .Lt) (rOr2 (rI0 fun i j => .bl (decide (i < j))) (rCmpD X.K ltD)) := op_or op_lt (op_ltD hu)
theorem op_leA (hu : X.A.units + 64 < cLine) : OpR X (compareOp .LtE) (rOr2 (rI0 fun i j => .bl (decide (i ≤ j))) (rCmpD X.K leD)) := op_or op_le (op_leD hu)
theorem op_gtA (hu : X.A.units + 64 < cLine) : OpR X (compareOp .Gt) (rOr2 (rI0 fun i j => .bl (decide (j < i))) (rCmpD X.K gtD)) := op_or op_gt (op_gtD hu)
theorem op_geA (hu : X.A.units + 64 < cLine) : OpR X (compareOp .GtE) (rOr2 (rI0 fun i j => .bl (decide (j ≤ i))) (rCmpD X.K geD)) := op_or op_ge (op_geD hu)
theorem o_ltA : Op2 X rB (rOr2 (rI0 fun i j => .bl (decide (i < j))) (rCmpD X.K ltD)) ltA := o_or o_cmpI o_cmpD
theorem o_leA : Op2 X rB (rOr2 (rI0 fun i j => .bl (decide (i ≤ j))) (rCmpD X.K leD)) leA := o_or o_cmpI o_cmpD
theorem o_gtA : Op2 X rB (rOr2 (rI0 fun i j => .bl (decide (j < i))) (rCmpD X.K gtD)) gtA := o_or o_cmpI o_cmpD
theorem o_geA : Op2 X rB (rOr2 (rI0 fun i j => .bl (decide (j ≤ i))) (rCmpD X.K geD)) geA := o_or o_cmpI o_cmpD
theorem t_ltA (hu : X.A.units + 64 < cLine) (ha : TO X W a Fa) (hb : TO X W b Fb) : TD X W (.Compare a [.Lt] [b] pos) (e2 ltA Fa Fb) := t_cmpB (op_ltA hu) o_ltA ha hb (nomark _)
theorem t_leA (hu : X.A.units + 64 < cLine) (ha : TO X W a Fa) (hb : TO X W b Fb) : TD X W (.Compare a [.LtE] [b] pos) (e2 leA Fa Fb) := t_cmpB (op_leA hu) o_leA ha hb (nomark _)
theorem t_gtA (hu : X.A.units + 64 < cLine) (ha : TO X W a Fa) (hb : TO X W b Fb) : TD X W (.Compare a [.Gt] [b] pos) (e2 gtA Fa Fb) := t_cmpB (op_gtA hu) o_gtA ha hb (nomark _)
theorem t_geA (hu : X.A.units + 64 < cLine) (ha : TO X W a Fa) (hb : TO X W b Fb) : TD X W (.Compare a [.GtE] [b] pos) (e2 geA Fa Fb) := t_cmpB (op_geA hu) o_geA ha hb (nomark _)
theorem b_ltA (hu : X.A.units + 64 < cLine) (ha : TO X W a Fa) (hb : TO X W b Fb) : TB X W (.Compare a [.Lt] [b] pos) (tb (e2 ltA Fa Fb)) := b_cmp (op_ltA hu) o_ltA ha hb (nomark _)
theorem b_leA (hu : X.A.units + 64 < cLine) (ha : TO X W a Fa) (hb : TO X W b Fb) : TB X W (.Compare a [.LtE] [b] pos) (tb (e2 leA Fa Fb)) := b_cmp (op_leA hu) o_leA ha hb (nomark _)
theorem b_gtA (hu : X.A.units + 64 < cLine) (ha : TO X W a Fa) (hb : TO X W b Fb) : TB X W (.Compare a [.Gt] [b] pos) (tb (e2 gtA Fa Fb)) := b_cmp (op_gtA hu) o_gtA ha hb (nomark _)
theorem b_geA (hu : X.A.units + 64 < cLine) (ha : TO X W a Fa) (hb : TO X W b Fb) : TB X W (.Compare a [.GtE] [b] pos) (tb (e2 geA Fa Fb)) := b_cmp (op_geA hu) o_geA ha hb (nomark _)
theorem ltA_int (i j : Int) : ltA (.int i) (.int j) = some (.bool (decide (i < j))) := rfl
theorem leA_int (i j : Int) : leA (.int i) (.int j) = some (.bool (decide (i ≤ j))) := rfl
theorem gtA_int (i j : Int) : gtA (.int i) (.int j) = some (.bool (decide (j < i))) := rfl
theorem geA_int (i j : Int) : geA (.int i) (.int j) = some (.bool (decide (j ≤ i))) := rfl
/-! sorted: ints first, else data -/
def sortAV (ds : List D) : Option D := match sortIV ds with
  | some d => some d
  | none => sortDV ds
def rSortA (K : PySem.W.Frag) : List V → Hp → VK → Prop := fun vs H Q => rSortedI K vs H Q ∨ rSortD K vs H Q
theorem cr_sortA (hu : X.A.units + 64 < cLine) : CallR X (.builtin "sorted") (rSortA X.K) := fun pins s σ H vs us Q I r h => h.elim (cr_sortedI pins s σ H vs us Q I r) (cr_sortD hu pins s σ H vs us Q I r)
theorem o_sortI : OpN X (rF X.K) (rSortedI X.K) sortIV := fun H A vs ds d Q hA h e k => by
  unfold sortIV at e
  split at e
  · rename_i xs
    cases e2 : ints? xs with
    | none => rw [e2] at e; cases e
    | some bs =>
      rw [e2] at e
      cases e
      obtain ⟨v, rfl, q⟩ := all1 h
      obtain ⟨l, ws, rfl, h1, q1⟩ := rO_list q
      rw [(ints_of q1 e2).1] at h1
      refine ⟨l, bs, rfl, h1, fun ns' t pm so ht => ?_⟩
      have en : ns' = isort bs := sorted_unique (pm.trans (isort_perm bs).symm) so (isort_sorted bs)
      subst en
      exact k _ _ (same_new ht) (dp_new_list hA ht (DpAll_ints _))
  · cases e
theorem o_sortA : OpN X (rF X.K) (rSortA X.K) sortAV := fun H A vs ds d Q hA h e k => by
  unfold sortAV at e
  split at e
  · rename_i d0 e0
    have e := Option.some.inj e
    subst e
    exact .inl (o_sortI H A vs ds _ Q hA h e0 k)
  · exact .inr (o_sortD H A vs ds d Q hA h e k)
theorem t_sortA {Fs : Nv → R (List D)} (hu : X.A.units + 64 < cLine) (hm : X.mg "sorted" = none) (ha : TAs X W (vO X.K) [e] Fs) (hgl : Gl X "sorted" := by rfl) (he : starEach [e] X.env = (false, eval e X.env) :: starEach [] X.env := by rfl) (hpl : (backTo pos (starEach [] X.env)).any (·.1) = false := by rfl) :
    TF X W (.Call (.Name "sorted" p) [e] [] pos) (eN sortAV Fs) := t_callB back_F (cr_sortA hu) o_sortA hgl hm (by decide +kernel) ha (he := he) (hpl := hpl)
theorem x_sortA {Fs : Nv → R (List D × Nv)} (hu : X.A.units + 64 < cLine) (hm : X.mg "sorted" = none) (ha : TXA X [e] Fs) (hgl : Gl X "sorted" := by rfl) (he : starEach [e] X.env = (false, eval e X.env) :: starEach [] X.env := by rfl) (hpl : (backTo pos (starEach [] X.env)).any (·.1) = false := by rfl) :
    TX X (rD X.K) (.Call (.Name "sorted" p) [e] [] pos) (xN sortAV Fs) := x_callB back2_D (cr_sortA hu) (fun H A vs ds d Q hA h e k => o_sortA H A vs ds d Q hA h e fun v H' s q => k v H' s (rF_D (fun z hz m => hA z m hz) q)) hgl hm (by decide +kernel) ha (he := he) (hpl := hpl)
theorem sortAV_ints (l : List Int) : sortAV [.list (l.map PyData.int)] = some (.list ((isort l).map PyData.int)) := by
  have h : ∀ r : List Int, ints? (r.map PyData.int) = some r := fun r => by
    induction r with
    | nil => rfl
    | cons x r ih =>
      show (ints? (r.map PyData.int)).map (x :: ·) = _
      rw [ih]
      rfl
  unfold sortAV sortIV
  show (match (ints? (l.map PyData.int)).map fun ns => PyData.list ((isort ns).map PyData.int) with
    | some d => some d
    | none => _) = _
  rw [h]
  rfl
end
end Bd
/-! D18: list and tuple of a range; insert; max and min with changes. -/
namespace Bd
open PySem L2

section
variable {X : Cx} {W : WX} {e a : Expr} {Fa : Nv → R D} {p p2 pos pos2 : Pos}
theorem dp_rg {K : PySem.W.Frag} {H : Hp} {n : Nat} : DpAll K H (rgV 0 (n : Int)) (rangeD 0 n) := by
  unfold rgV rangeD
  rw [Int.sub_zero, Int.toNat_natCast]
  have key : ∀ l : List Nat, DpAll K H (l.map fun i => V.int (0 + (i : Nat))) (l.map fun i => PyData.int (0 + (i : Nat))) := fun l => by
    induction l with
    | nil => exact .nil
    | cons x r ih => exact .cons (.int _) ih
  exact key _
def rgL (d : D) : R (List D) := match d with
  | .int n => if 0 ≤ n ∧ n ≤ 16777216 then .ok (rangeD 0 n.toNat) else .no
  | _ => .no
def lrgV (F : Nv → R D) : Nv → R D := fun η => (F η).bind fun d => (rgL d).bind fun xs => .ok (.list xs)
def trgV (F : Nv → R D) : Nv → R D := fun η => (F η).bind fun d => (rgL d).bind fun xs => .ok (.tuple xs)
theorem rg_core {rl : Rl} {mk : List D → D} {lay : List V → HO} {σ : L2.St} {H : Hp} {Q : VK} (hb : Back rl) (hm : ∀ (H1 : Hp) (A : List Addr) (vs : List V) (ds : List D) (q : Addr), (∀ b ∈ A, H1 b ≠ none) → H1 q = none → DpAll X.K (hid A H1) vs ds → rl H1 (upd H1 q (lay vs)) A (.ref q) (mk ds))
    (h : tR X.K X.mg W rl (fun η => (Fa η).bind fun d => (rgL d).bind fun xs => .ok (mk xs)) σ H Q) : tRg1 (tR X.K X.mg W (rO X.K) Fa) σ H fun i j H1 => RgOk i j ∧ ∀ q, H1 q = none → Q (.ref q) (upd H1 q (lay (rgV i j))) := by
  obtain ⟨η, A, E, p0⟩ := h
  have p : Post X.K X.mg W rl σ A H ((Fa η).bind fun d => (rgL d).bind fun xs => .ok (mk xs)) Q := p0
  refine (show tR X.K X.mg W (rO X.K) Fa σ H _ from ⟨η, A, E, ?_⟩)
  cases e1 : Fa η with
  | ex c w q => rw [e1] at p; exact p
  | no => rw [e1] at p; exact p
  | ok d =>
    rw [e1] at p
    replace p : Post X.K X.mg W rl σ A H ((rgL d).bind fun xs => .ok (mk xs)) Q := p
    clear e1
    cases d <;> first | exact False.elim p | skip
    rename_i n
    intro v H1 s1 q1
    replace p : Post X.K X.mg W rl σ A H ((if 0 ≤ n ∧ n ≤ 16777216 then R.ok (rangeD 0 n.toNat) else .no).bind fun xs => .ok (mk xs)) Q := p
    by_cases hn : 0 ≤ n ∧ n ≤ 16777216
    case neg => rw [if_neg hn] at p; exact False.elim p
    rw [if_pos hn] at p
    have en : n = ((n.toNat : Nat) : Int) := by omega
    refine ⟨n, rO_int q1, RgOk.of_le (by decide) hn.2 (by decide) hn.1, fun q hq => p _ _ (s1.trans (same_new hq)) (hb _ _ _ _ _ _ s1 ?_)⟩
    have hd : DpAll X.K (hid A H1) (rgV 0 n) (rangeD 0 n.toNat) := by
      rw [en]
      rw [show ((n.toNat : Int)).toNat = n.toNat from Int.toNat_natCast _]
      exact dp_rg
    exact hm H1 A _ _ q (E.same s1).tr hq hd
theorem t_listRg (hc : X.calm = true) (hm : X.mg "list" = none) (hm2 : X.mg "range" = none) (ha : TO X W a Fa) (hg : Gl X "list" := by rfl) (hg2 : Gl X "range" := by rfl) (na : starEach [a] X.env = (false, eval a X.env) :: starEach [] X.env := by rfl) (nb : starEach [.Call (.Name "range" p2) [a] [] pos2] X.env = (false, eval (.Call (.Name "range" p2) [a] [] pos2) X.env) :: starEach [] X.env := by rfl) :
    TF X W (.Call (.Name "list" p) [.Call (.Name "range" p2) [a] [] pos2] [] pos) (lrgV Fa) := peW (pe_listRg hc hg hm (prg_1 hg2 hm2 ha na) nb) fun σ H Q h =>
  rg_core (mk := .list) (lay := .lst) back_F (fun H1 A vs ds q hA hq hd => dp_new_list hA hq hd) h
theorem t_tupRg (hc : X.calm = true) (hm : X.mg "tuple" = none) (hm2 : X.mg "range" = none) (ha : TO X W a Fa) (hg : Gl X "tuple" := by rfl) (hg2 : Gl X "range" := by rfl) (na : starEach [a] X.env = (false, eval a X.env) :: starEach [] X.env := by rfl) (nb : starEach [.Call (.Name "range" p2) [a] [] pos2] X.env = (false, eval (.Call (.Name "range" p2) [a] [] pos2) X.env) :: starEach [] X.env := by rfl) :
    TD X W (.Call (.Name "tuple" p) [.Call (.Name "range" p2) [a] [] pos2] [] pos) (trgV Fa) := peW (pe_tupRg hc hg hm (prg_1 hg2 hm2 ha na) nb) fun σ H Q h =>
  rg_core (mk := .tuple) (lay := .tup) back_D (fun H1 A vs ds q hA hq hd => dp_new_tup hA hq hd) h
/-! max, min -/
theorem x_max {Fs : Nv → R (List D × Nv)} {es : List Expr} (hc : X.calm = true) (hm : X.mg "max" = none) (ha : TXA X (e :: es) Fs) (hgl : Gl X "max" := by rfl) (he : starEach (e :: es) X.env = (false, eval e X.env) :: starEach es X.env := by rfl) (hpl : (backTo pos (starEach es X.env)).any (·.1) = false := by rfl) :
    TX X (rD X.K) (.Call (.Name "max" p) (e :: es) [] pos) (xN maxV Fs) := x_callB (r := rMaxA X.K) back2_D (fun pins s σ H xs us Q I r h => h.elim (call_max2 hc pins s σ H xs us Q I r) (cr_max hc pins s σ H xs us Q I r)) (fun H A vs ds d Q hA h e k => by
  unfold maxV at e
  split at e
  · have e := Option.some.inj e
    subst e
    obtain ⟨v, w, rfl, q1, q2⟩ := all2 h
    exact .inl ⟨_, _, by rw [rO_int q1, rO_int q2], k _ H (Same.refl _) (.int _)⟩
  · rename_i xs
    cases e2 : ints? xs with
    | none => rw [e2] at e; cases e
    | some ns =>
      rw [e2] at e
      have e : (if 0 < ns.length then some (PyData.int (maxI ns)) else none) = some d := e
      split at e
      · rename_i hl
        cases e
        obtain ⟨v, rfl, q⟩ := all1 h
        obtain ⟨l, ws, rfl, h1, q1⟩ := rO_list q
        rw [(ints_of q1 e2).1] at h1
        refine .inr ⟨l, ns, rfl, h1, hl, fun m h3 h4 => ?_⟩
        rw [maxI_is ns m h3 h4]
        exact k _ H (Same.refl _) (.int _)
      · cases e
  · cases e) hgl hm (by decide +kernel) ha (he := he) (hpl := hpl)
theorem x_min {Fs : Nv → R (List D × Nv)} {es : List Expr} (hc : X.calm = true) (hm : X.mg "min" = none) (ha : TXA X (e :: es) Fs) (hgl : Gl X "min" := by rfl) (he : starEach (e :: es) X.env = (false, eval e X.env) :: starEach es X.env := by rfl) (hpl : (backTo pos (starEach es X.env)).any (·.1) = false := by rfl) :
    TX X (rD X.K) (.Call (.Name "min" p) (e :: es) [] pos) (xN minV Fs) := x_callB (r := rMinA X.K) back2_D (fun pins s σ H xs us Q I r h => h.elim (call_min2 hc pins s σ H xs us Q I r) (cr_min hc pins s σ H xs us Q I r)) (fun H A vs ds d Q hA h e k => by
  unfold minV at e
  split at e
  · have e := Option.some.inj e
    subst e
    obtain ⟨v, w, rfl, q1, q2⟩ := all2 h
    exact .inl ⟨_, _, by rw [rO_int q1, rO_int q2], k _ H (Same.refl _) (.int _)⟩
  · rename_i xs
    cases e2 : ints? xs with
    | none => rw [e2] at e; cases e
    | some ns =>
      rw [e2] at e
      have e : (if 0 < ns.length then some (PyData.int (minI ns)) else none) = some d := e
      split at e
      · rename_i hl
        cases e
        obtain ⟨v, rfl, q⟩ := all1 h
        obtain ⟨l, ws, rfl, h1, q1⟩ := rO_list q
        rw [(ints_of q1 e2).1] at h1
        refine .inr ⟨l, ns, rfl, h1, hl, fun m h3 h4 => ?_⟩
        rw [minI_is ns m h3 h4]
        exact k _ H (Same.refl _) (.int _)
      · cases e
  · cases e) hgl hm (by decide +kernel) ha (he := he) (hpl := hpl)
end
/-! insert -/
section
variable {X : Cx} {f : Fx} {a b : Expr} {Fa Fb : Nv → R (D × Nv)} {apos cpos epos px : Pos}
def insAt (i : Nat) (p : List D × Nv) : Rs := match p.2[i]?, p.1 with
  | some (.own xs), [.int j, y] => if 0 ≤ j ∧ j < 2 ^ 63 ∧ xs.l.length < lineN then .nx (p.2.set i (.own ⟨xs.b, xs.l.take j.toNat ++ [y] ++ xs.l.drop j.toNat⟩)) else .no
  | _, _ => .no
def xIns (i : Nat) (Fs : Nv → R (List D × Nv)) : Nv → Rs := fun η => match η[i]? with
  | some (.own _) => (only (Fs η)).toS (insAt i)
  | _ => .no
theorem xs_ins (i : Nat) {x : Str} {Fs : Nv → R (List D × Nv)} (he : TXA X [a, b] Fs) (hi : X.N[i]? = some x := by rfl) (hv : Vis X.env.scope x := by first | exact Or.inl rfl | exact Or.inr (Or.inl rfl)) (hd : (x == ("__debug__" : Str)) = false := by decide) (hcd : (x == ("__classdict__" : Str)) = false := by decide)
    (hbase : attributeBase (.Name x px) "insert" X.env (eval (.Name x px) X.env) = eval (.Name x px) X.env := by rfl)
    (hfew : ((backTo cpos (starEach [a, b] X.env)).all (fun x => !x.1) && (backToKw cpos (keywordEach [] X.env)).all (fun x => x.1.isSome) && decide ([a, b].length + ([] : List Keyword).length + (if ([] : List Keyword).isEmpty then 0 else 1) < 30)) = true := by rfl)
    (hline : (apos.endLine == cpos.line) = true := by rfl) (hs1 : starEach [a, b] X.env = (false, eval a X.env) :: starEach [b] X.env := by rfl) (hplain : (backTo cpos (starEach [b] X.env)).any (·.1) = false := by rfl) (hs : swapsWith (.Call (.Attribute (.Name x px) "insert" apos) [a, b] [] cpos) none epos.line X.env = pure false := by rfl) :
    TS' X f (.Expr (.Call (.Attribute (.Name x px) "insert" apos) [a, b] [] cpos) epos) (xIns i Fs) :=
  psW (ps_expr (pe_bm PySem.F.plainAttrs_list PySem.F.slot_list_insert PySem.F.type_list_insert mt_insert (pe_var hi hv hd hcd) he hbase hfew hline hs1 hplain) hs) fun E σ H h => by
    obtain ⟨η, B, e0, p0⟩ := h
    have p : PostS X.K X.mg f.W f.rl f.M f.H0 f.A0 H B (xIns i Fs η) E := p0
    unfold xIns at p
    split at p
    case h_2 => exact False.elim p
    rename_i x0 hx0
    obtain ⟨c, ec, _, vs0, ev0, _⟩ := own_ref e0.env hx0
    refine ⟨.ref c, ec, .inl ⟨rfl, vs0, SqL.of ev0⟩, ?_⟩
    refine (show tXA X.K Fs σ H _ from ⟨η, B ++ f.A0, e0.env, ?_⟩)
    cases ef : Fs η with
    | ex c w z => rw [ef] at p; exact False.elim p
    | no => rw [ef] at p; exact False.elim p
    | ok dd =>
      rw [ef] at p
      obtain ⟨ds, η1⟩ := dd
      have p : PostS X.K X.mg f.W f.rl f.M f.H0 f.A0 H B (insAt i (ds, η1)) E := p
      intro vs H1 E1 k1 m1 qv
      replace E1 : EnvD X.K H1 (B ++ f.A0) σ η1 := E1
      unfold insAt at p
      split at p
      case h_2 => exact False.elim p
      rename_i xs j y hx hds
      have hx : η1[i]? = some (.own xs) := hx
      have hds : ds = [.int j, y] := hds
      subst hds
      split at p
      case isFalse => exact False.elim p
      rename_i hj
      obtain ⟨mA, us, eu, qu⟩ := own_in E1 hx ec
      cases qv with
      | cons h1 t =>
        cases t with
        | cons h2 t =>
          cases t
          cases h1
          rename_i w
          have hl : us.length = xs.l.length := DpAll_length qu
          obtain ⟨Ep, mp, eh⟩ := put_keep E1 hx ec (ws := us.take j.toNat ++ [w] ++ us.drop j.toNat) (DpAll_append (DpAll_append (DpAll_take _ qu) (.cons h2 .nil)) (DpAll_drop _ qu))
          refine ⟨c, us, j, w, rfl, rfl, eu, by rw [hl, line_eq]; exact hj.2.2, hj.1, hj.2.1, ?_⟩
          refine p σ _ B ((e0.mv E1 k1 m1).mv Ep (Kin.put hx) mp) ?_
          rw [eh]
          exact m1.hid e0.env
end
end Bd
/-! D19: walks over what changes lists. -/
namespace Bd
open PySem L2

section
variable {X : Cx} {tg iter : Expr} {F : Nv → R (D × Nv)}
def xiL (F : Nv → R (D × Nv)) : Nv → R (List D × Nv) := fun η => (F η).bind fun p => match p.1 with
  | .list xs => .ok (xs, p.2)
  | _ => .no
def xiT (F : Nv → R (D × Nv)) : Nv → R (List D × Nv) := fun η => (F η).bind fun p => match p.1 with
  | .tuple xs => .ok (xs, p.2)
  | _ => .no
def xiA (F : Nv → R (D × Nv)) : Nv → R (List D × Nv) := fun η => (F η).bind fun p => match p.1 with
  | .list xs => .ok (xs, p.2)
  | .tuple xs => .ok (xs, p.2)
  | _ => .no
theorem xi_list (h : TX X (rD X.K) iter F) : TXI X tg iter (xiL F) := piW (pi_list h) fun σ H Q ⟨η, A, E, p⟩ =>
  stepX (Pn := fun η r => PostXI X.K σ A H η r Q) E p (fun _ _ _ z => z) (fun z => z) fun d η1 v H1 e E1 k1 m1 q p => by
    clear e
    cases d with
    | list xs =>
      cases q with
      | lst h1 h2 => exact ⟨_, rfl, ⟨_, (hid_le A H1).seq h1⟩, p _ H1 E1 k1 m1 (walks_list h1 h2)⟩
    | _ => exact False.elim p
theorem xi_tup (h : TX X (rD X.K) iter F) : TXI X tg iter (xiT F) := piW (pi_tup h) fun σ H Q ⟨η, A, E, p⟩ =>
  stepX (Pn := fun η r => PostXI X.K σ A H η r Q) E p (fun _ _ _ z => z) (fun z => z) fun d η1 v H1 e E1 k1 m1 q p => by
    clear e
    cases d with
    | tuple xs =>
      cases q with
      | tup h1 h2 => exact ⟨_, rfl, ⟨_, sqT_same (hid_le A H1) h1⟩, p _ H1 E1 k1 m1 (walks_tup h1 h2)⟩
    | _ => exact False.elim p
/-- a list or a tuple -/
theorem xi_any (h : TX X (rD X.K) iter F) : TXI X tg iter (xiA F) := ⟨fun pins s σ H R I q => by
  obtain ⟨η, A, E, p0⟩ := q
  have p : PostXI X.K σ A H η (xiA F η) R := p0
  unfold xiA at p
  cases e1 : F η with
  | ex c w q => rw [e1] at p; exact False.elim p
  | no => rw [e1] at p; exact False.elim p
  | ok d =>
    rw [e1] at p
    obtain ⟨d, η1⟩ := d
    cases d with
    | list xs => exact (xi_list (tg := tg) h).run pins s σ H R I ⟨η, A, E, by unfold xiL; rw [e1]; exact p⟩
    | tuple xs => exact (xi_tup (tg := tg) h).run pins s σ H R I ⟨η, A, E, by unfold xiT; rw [e1]; exact p⟩
    | _ => exact False.elim p⟩
end
end Bd
/-! D20: a comprehension over a list of one's own that stays as it is meanwhile. -/
namespace Bd
open PySem L2

section
variable {X : Cx} {e tg iter elt : Expr} {pos : Pos}
theorem lc_core {T : Tgt} {js vs : List Nat} {C : Nv → R (Bool × Nv)} {El : Nv → R (D × Nv)} {σ : L2.St} {H H1 : Hp} {A : List Addr} {η ηf ηz : Nv} {ds ys : List D} {J : It} {Q : VK} {Pn : Nv → Prop} (hj : ∀ j ∈ js, j ∈ vs)
    (hPT : ∀ x z z1, Pn z → T x z = some z1 → Pn z1) (hPC : ∀ z p, Pn z → C z = .ok p → Pn p.2) (hPE : ∀ z p, Pn z → El z = .ok p → Pn p.2) (hPw : ∀ z, Pn z → Pn (wipeE z vs))
    (E : EnvD X.K H A σ η) (E1 : EnvD X.K H1 A σ ηf) (k1 : Kin η ηf) (m1 : Mv σ η H H1) (hP : Pn (wipeE ηf vs)) (e2 : compX T C El vs ds (wipeE ηf vs) = .ok (ys, ηz)) (hz : ys.length ≤ lineN) (p : PostXF X.K σ A H η (.ok (.list ys, ηz)) Q)
    (wkT : ∀ (i : Nat) (x : D), ds[i]? = some x → ∀ (A' : List Addr) (H2 : Hp) (z : Nv), EnvD X.K H2 A' (L2.wipe σ vs) z → Pn z → Same (hid A H1) (hid A' H2) → J.go i H2 ∧ ∀ v H3, J.yld i H2 v H3 → Same H2 H3 ∧ Dp X.K (hid A' H3) v x)
    (wkS : ∀ (A' : List Addr) (H2 : Hp) (z : Nv), EnvD X.K H2 A' (L2.wipe σ vs) z → Pn z → Same (hid A H1) (hid A' H2) → J.stop ds.length H2) (M : Addr) (nM : H1 M = none) :
    ∃ U : Nat → Nat → Hp → Prop, (∃ m, U 0 m (upd H1 M (.lst []))) ∧ ∀ i m H2, U i m H2 → (J.stop i H2 ∧ Q (.ref M) H2) ∨ (J.go i H2 ∧ ∃ Nx : Hp → Prop, (∀ H', Nx H' → ∃ m', m' < m ∧ U (i + 1) m' H') ∧ ∀ x H', J.yld i H2 x H' → gD X.K T js x (L2.wipe σ vs) H' fun σ2 H3 => L2.wipe σ2 vs = L2.wipe σ vs ∧ tXB X.K C σ2 H3 fun b H4 => if b = true then tX X.K (rD X.K) El σ2 H4 fun y H5 => ∃ acc, H5 M = some (.lst acc) ∧ acc.length < sizeLine ∧ Nx (upd H5 M (.lst (acc ++ [y]))) else Nx H4) := by
  have Ew : EnvD X.K (upd H1 M (.lst [])) (M :: A) (L2.wipe σ vs) (wipeE ηf vs) := (E1.new (same_new nM) nM (by rw [upd_same]; exact fun z => nomatch z)).wipe vs
  refine ⟨fun i m H2 => m + i = ds.length ∧ ∃ ηp done rest acc, ys = done ++ rest ∧ compX T C El vs (ds.drop i) (wipeE ηp vs) = .ok (rest, ηz) ∧ EnvD X.K H2 (M :: A) (L2.wipe σ vs) (wipeE ηp vs) ∧ ηp.length = ηf.length ∧ Sub vs σ ηf (L2.wipe σ vs) (wipeE ηp vs) ∧ Mv σ ηf H1 H2 ∧ H2 M = some (.lst acc) ∧ DpAll X.K (hid (M :: A) H2) acc done ∧ Pn (wipeE ηp vs),
    ⟨ds.length, rfl, ηf, [], ys, [], rfl, e2, Ew, rfl, Sub.start, Mv.of (same_new nM), upd_same, .nil, hP⟩, fun i m H2 hw => ?_⟩
  obtain ⟨em, ηp, done, rest, acc, ey, er, E2, ln, sb, mv, hM, hd, pp⟩ := hw
  have sh : Same (hid A H1) (hid (M :: A) H2) := mv_new E1 nM mv
  cases hx : ds[i]? with
  | none =>
    have hi : ds.length ≤ i := List.getElem?_eq_none_iff.mp hx
    have ei : i = ds.length := by omega
    subst ei
    rw [List.drop_length] at er
    have er : R.ok (([] : List D), wipeE ηp vs) = .ok (rest, ηz) := er
    cases er
    rw [List.append_nil] at ey
    subst ey
    have kf : Kin ηf (wipeE ηp vs) := sb.kinf (by rw [wipeE_length, ln])
    refine .inl ⟨wkS _ _ _ E2 pp sh, p M acc _ H2 rfl (E2.back sb) (k1.trans kf) (Mv.trans k1 m1 mv) ?_ hM hd⟩
    cases hM0 : H M with
    | none => rfl
    | some o => exact absurd nM (Mv.there E E1 m1 (by rw [hM0]; exact fun z => nomatch z))
  | some x =>
    have hi : i < ds.length := (List.getElem?_eq_some_iff.mp hx).1
    have ed : ds.drop i = x :: ds.drop (i + 1) := by
      rw [List.drop_eq_getElem_cons hi]
      congr 1
      exact (List.getElem?_eq_some_iff.mp hx).2
    obtain ⟨g1, g2⟩ := wkT i x hx _ _ _ E2 pp sh
    refine .inr ⟨g1, fun H' => ∃ m', m' < m ∧ (m' + (i + 1) = ds.length ∧ ∃ ηp done rest acc, ys = done ++ rest ∧ compX T C El vs (ds.drop (i + 1)) (wipeE ηp vs) = .ok (rest, ηz) ∧ EnvD X.K H' (M :: A) (L2.wipe σ vs) (wipeE ηp vs) ∧ ηp.length = ηf.length ∧ Sub vs σ ηf (L2.wipe σ vs) (wipeE ηp vs) ∧ Mv σ ηf H1 H' ∧ H' M = some (.lst acc) ∧ DpAll X.K (hid (M :: A) H') acc done ∧ Pn (wipeE ηp vs)), fun H' hN => hN, fun v H3 y => ?_⟩
    obtain ⟨s3, qv⟩ := g2 v H3 y
    rw [ed] at er
    unfold compX at er
    cases et : T x (wipeE ηp vs) with
    | none => rw [et] at er; cases er
    | some η1 =>
      rw [et] at er
      obtain ⟨⟨bk, ηb⟩, ec, er⟩ := R.bindN_ok er
      refine ⟨wipeE ηp vs, M :: A, x, η1, E2.same s3, qv, et, fun σ2 E3 S => ?_⟩
      have hw : L2.wipe σ2 vs = L2.wipe σ vs := stored_wipe S hj (S.len.trans (wipe_length σ vs))
      have sb1 : Sub vs σ ηf σ2 η1 := sb.stored S
      have ln1 : η1.length = ηf.length := by rw [← E3.len, S.len, wipe_length, E1.len]
      refine ⟨hw, ?_⟩
      refine (show tXB X.K C σ2 H3 _ from ⟨η1, M :: A, E3, ?_⟩)
      rw [ec]
      intro H4 E4 k4 m4
      have E4 : EnvD X.K H4 (M :: A) σ2 ηb := E4
      have k4 : Kin η1 ηb := k4
      have sb4 : Sub vs σ ηf σ2 ηb := sb1.kin k4
      have mv4 : Mv σ ηf H1 H4 := (mv.thru (Mv.of s3)).thru (sb1.mv m4)
      have M4 : H4 M = some (.lst acc) := m4 M _ (s3 _ _ hM) (sb1.notM E1 nM)
      have hd4 : DpAll X.K (hid (M :: A) H4) acc done := DpAll_mono hd ((hid_same s3).trans (m4.hid E3))
      cases bk with
      | false =>
        refine iteF ⟨m - 1, by omega, by omega, ηb, done, rest, acc, ey, er, ?_, k4.1.trans ln1, sb4.wp hw, mv4, M4, hd4, hPw _ (hPC _ _ (hPT _ _ _ pp et) ec)⟩
        have := E4.wipe vs
        rw [hw] at this
        exact this
      | true =>
        obtain ⟨⟨y, ηe⟩, ee, er⟩ := R.bindN_ok er
        obtain ⟨⟨rest', ηz'⟩, er', e3⟩ := R.bindN_ok er
        cases e3
        refine iteT (show tX X.K (rD X.K) El σ2 H4 _ from ⟨ηb, M :: A, E4, ?_⟩)
        rw [ee]
        intro w H5 E5 k5 m5 qw
        have E5 : EnvD X.K H5 (M :: A) σ2 ηe := E5
        have k5 : Kin ηb ηe := k5
        have sb5 : Sub vs σ ηf σ2 ηe := sb4.kin k5
        have M5 : H5 M = some (.lst acc) := m5 M _ M4 (sb4.notM E1 nM)
        have hd5 : DpAll X.K (hid (M :: A) H5) acc done := DpAll_mono hd4 (m5.hid E4)
        have hidM : hid (M :: A) (upd H5 M (.lst (acc ++ [w]))) = hid (M :: A) H5 := hid_upd List.mem_cons_self
        have hl : acc.length = done.length := DpAll_length hd
        refine ⟨acc, M5, ?_, m - 1, by omega, by omega, ηe, done ++ [y], rest', acc ++ [w], by rw [ey, List.append_assoc]; rfl, er', ?_, (k4.trans k5).1.trans ln1, sb5.wp hw, ?_, upd_same, ?_, hPw _ (hPE _ _ (hPC _ _ (hPT _ _ _ pp et) ec) ee)⟩
        · rw [line_eq, hl]
          have : ys.length = done.length + (rest'.length + 1) := by rw [ey, List.length_append, List.length_cons]
          omega
        · have z := (E5.updM (o := .lst (acc ++ [w])) (sb5.notM E1 nM)).wipe vs
          rw [hw] at z
          exact z
        · intro b o eb n
          rw [upd_ne fun z => by subst z; rw [nM] at eb; cases eb]
          exact (mv4.thru (sb4.mv m5)) b o eb n
        · rw [hidM]
          exact DpAll_append hd5 (.cons qw .nil)
end
/-! what leaves the list at i as it is -/
def Stays {α : Type} (i : Nat) (F : Nv → R (α × Nv)) : Prop := ∀ z p, F z = .ok p → p.2[i]? = z[i]?
section
variable {i j : Nat} {Fa Fb F : Nv → R (D × Nv)} {Fs : Nv → R (List D × Nv)} {G : Nv → R (Bool × Nv)}
theorem bind_inv {α β : Type} {r : R α} {f : α → R β} {y : β} (h : r.bind f = .ok y) : ∃ x, r = .ok x ∧ f x = .ok y := by
  cases r with
  | ok a => exact ⟨a, rfl, h⟩
  | ex c w p => cases h
  | no => cases h
theorem st_up {F : Nv → R D} : Stays i (up F) := fun z p e => by
  unfold up at e
  split at e
  · cases e
    rfl
  · cases e
theorem st_true : Stays i (fun η : Nv => R.ok (true, η)) := fun z p e => by
  cases e
  rfl
theorem st_x0 : Stays i x0 := fun z p e => by
  cases e
  rfl
theorem st_xC (ha : Stays i Fa) (hs : Stays i Fs) : Stays i (xC Fa Fs) := fun z p e => by
  obtain ⟨a, e1, e⟩ := bind_inv e
  obtain ⟨b, e2, e⟩ := bind_inv e
  cases e
  exact (hs _ _ e2).trans (ha _ _ e1)
theorem st_x2 {f : D → D → Option D} (ha : Stays i Fa) (hb : Stays i Fb) : Stays i (x2 f Fa Fb) := fun z p e => by
  obtain ⟨a, e1, e⟩ := bind_inv e
  obtain ⟨b, e2, e⟩ := bind_inv e
  obtain ⟨d, e3, e⟩ := bind_inv e
  cases e
  exact (hb _ _ e2).trans (ha _ _ e1)
theorem st_xN {f : List D → Option D} (hs : Stays i Fs) : Stays i (xN f Fs) := fun z p e => by
  obtain ⟨a, e1, e⟩ := bind_inv e
  obtain ⟨d, e3, e⟩ := bind_inv e
  cases e
  exact hs _ _ e1
theorem st_xb (ha : Stays i F) : Stays i (xb F) := fun z p e => by
  obtain ⟨a, e1, e⟩ := bind_inv e
  obtain ⟨d, e3, e⟩ := bind_inv e
  cases e
  exact ha _ _ e1
theorem st_upB {G : Nv → R Bool} : Stays i (upB G) := fun z p e => by
  unfold upB at e
  split at e
  · cases e
    rfl
  · cases e
theorem st_xCall {Fn : List D → R D} (hs : Stays i Fs) : Stays i (xCall Fn Fs) := fun z p e => by
  obtain ⟨a, e1, e⟩ := bind_inv e
  obtain ⟨d, e3, e⟩ := bind_inv e
  cases e
  exact hs _ _ e1
theorem st_xCallK {Fk : List D → List D → R (D × List D)} (n : j ≠ i) (hs : Stays i Fs) : Stays i (xCallK j Fk Fs) := fun z p e => by
  unfold xCallK at e
  split at e
  case h_2 => cases e
  obtain ⟨a, e1, e⟩ := bind_inv e
  unfold xPut at e
  split at e
  case h_2 => cases e
  obtain ⟨d, e3, e⟩ := bind_inv e
  cases e
  show (a.2.set j _)[i]? = _
  rw [List.getElem?_set_ne n]
  exact hs _ _ e1
theorem st_gN {x : D} {z z1 : Nv} (n : j ≠ i) (e : gN j x z = some z1) : z1[i]? = z[i]? := by
  cases e
  exact List.getElem?_set_ne n
end
section
variable {X : Cx} {tg elt : Expr} {pos px : Pos} {ifs : List Expr} {scope : Scope} {own : List (Str × Nat)} {T : Tgt} {js : List Nat} {C : Nv → R (Bool × Nv)} {El : Nv → R (D × Nv)}
def xCompO (i : Nat) (T : Tgt) (C : Nv → R (Bool × Nv)) (El : Nv → R (D × Nv)) (vs : List Nat) : Nv → R (D × Nv) := fun η => match η[i]? with
  | some (.own xs) => (compX T C El vs xs.l (wipeE η vs)).bindN fun q => if q.1.length ≤ lineN then .ok (.list q.1, q.2) else .no
  | _ => .no
/-- [.. for .. in name ..], name a list of one's own -/
theorem x_lcO (i : Nat) {x : Str} (hc : X.calm = true) (hN : X.N.Nodup) (ok : BlkOk X.N X.env.scope scope own)
    (hg : ∀ (s : Shared) (H : Hp) (C : Addr) (cl : List (Str × Addr)) (fp : List Addr), TT' (X.blk s H scope (compEnvC scope cl C X.env) fp) tg T js)
    (ht : ∀ (s : Shared) (H : Hp) (D : Addr) (cl : List (Str × Addr)) (fp : List Addr), PTs (X.blk s H scope (compEnvC scope cl D X.env) fp) ifs (tXB X.K C))
    (he : ∀ (s : Shared) (H : Hp) (D : Addr) (cl : List (Str × Addr)) (fp : List Addr), TX (X.blk s H scope (compEnvC scope cl D X.env) fp) (rD X.K) elt El)
    (hT : ∀ x z z1, T x z = some z1 → z1[i]? = z[i]?) (hC : Stays i C) (hE : Stays i El)
    (hi : X.N[i]? = some x := by rfl) (hv : Vis X.env.scope x := by first | exact Or.inl rfl | exact Or.inr (Or.inl rfl) | exact Or.inr (Or.inr rfl)) (hd : (x == ("__debug__" : Str)) = false := by decide) (hcd : (x == ("__classdict__" : Str)) = false := by decide)
    {vs : List Nat} (hv2 : own.map (·.2) = vs := by rfl) (hj : ∀ j ∈ js, j ∈ own.map (·.2) := by decide) (hn : i ∉ own.map (·.2) := by decide) (hs : ∀ y, foldedSetIterable (.Name x px) X.env y = pure y := by intro _; rfl) : TXF X (.ListComp elt [⟨tg, .Name x px, ifs, 0⟩] scope pos) (xCompO i T C El vs) := by
  subst hv2
  exact peW (pe_lc hc hN (pi_list (pe_var hi hv hd hcd)) ok (fun s H C cl fp => show PG _ tg (gD X.K T js) from hg s H C cl fp) ht (fun s H C cl fp => show PE _ elt (tX X.K (rD X.K) El) from he s H C cl fp) hs) fun σ H Q ⟨η, A, E, p0⟩ => by
    have p : PostXF X.K σ A H η (xCompO i T C El (own.map (·.2)) η) Q := p0
    unfold xCompO at p
    split at p
    case h_2 => exact False.elim p
    rename_i xs hx
    obtain ⟨c, ec, mA, vs0, ev0, q0⟩ := own_ref E hx
    cases e2 : compX T C El (own.map (·.2)) xs.l (wipeE η (own.map (·.2))) with
    | ex c w q => rw [e2] at p; exact False.elim p
    | no => rw [e2] at p; exact False.elim p
    | ok yq =>
      rw [e2] at p
      obtain ⟨ys, ηz⟩ := yq
      have p : PostXF X.K σ A H η (if ys.length ≤ lineN then .ok (.list ys, ηz) else .no) Q := p
      split at p
      case isFalse => exact False.elim p
      rename_i hz
      refine ⟨.ref c, ec, c, rfl, ⟨vs0, SqL.of ev0⟩, ?_⟩
      have cell : ∀ (A' : List Addr) (H2 : Hp) (z : Nv), EnvD X.K H2 A' (L2.wipe σ (own.map (·.2))) z → z[i]? = some (.own xs) → ∃ us, H2 c = some (.lst us) ∧ DpAll X.K (hid A' H2) us xs.l := fun A' H2 z Ez hz1 => by
        obtain ⟨_, us, h1, h2⟩ := own_in Ez hz1 (show (L2.wipe σ (own.map (·.2)))[i]? = some (some (.ref c)) by rw [wipe_get, if_neg hn]; exact ec)
        exact ⟨us, h1, h2⟩
      exact fun M nM => lc_core (J := Itl X.K c) (Pn := fun z => z[i]? = some (.own xs)) hj (fun x z z1 h e => (hT x z z1 e).trans h) (fun z p h e => (hC z p e).trans h) (fun z p h e => (hE z p e).trans h) (fun z h => by rw [wipeE_get, if_neg hn]; exact h)
        E E (Kin.refl η) mv_refl (by rw [wipeE_get, if_neg hn]; exact hx) e2 hz p
        (fun k y ey A' H2 z Ez hz1 sh => by
          obtain ⟨us, h1, h2⟩ := cell A' H2 z Ez hz1
          obtain ⟨v, e1, q1⟩ := DpAll_get h2 ey
          have h3 : SqL X.K H2 c us := SqL.of h1
          refine ⟨⟨us, v, h3, e1⟩, fun u H3 y => ?_⟩
          obtain ⟨rfl, y⟩ := y
          have w := y us h3
          rw [e1] at w
          cases w
          exact ⟨Same.refl _, q1⟩)
        (fun A' H2 z Ez hz1 sh => by
          obtain ⟨us, h1, h2⟩ := cell A' H2 z Ez hz1
          exact ⟨us, SqL.of h1, Nat.le_of_eq (DpAll_length h2)⟩) M nM
end
end Bd
/-! M0: how the mirrors are reckoned. -/
namespace Bd
open PySem L2

/-! ### names -/
@[simp] theorem gv_zero (x : D) (η : Nv) : gv 0 (.d x :: η) = .ok x := Eq.trans rfl rfl
@[simp] theorem gv_succ (i : Nat) (s : Sl) (η : Nv) : gv (i + 1) (s :: η) = gv i η := Eq.trans rfl rfl
@[simp] theorem go_own (x : OL) (η : Nv) : go 0 (.own x :: η) = .ok (.list x.l) := Eq.trans rfl rfl
@[simp] theorem go_dat (x : D) (η : Nv) : go 0 (.d x :: η) = .ok x := Eq.trans rfl rfl
@[simp] theorem go_succ (i : Nat) (s : Sl) (η : Nv) : go (i + 1) (s :: η) = go i η := Eq.trans rfl rfl
@[simp] theorem k0_def (d : D) (η : Nv) : k0 d η = .ok d := Eq.trans rfl rfl
@[simp] theorem of_some (d : D) : R.of (some d) = .ok d := Eq.trans rfl rfl
@[simp] theorem of_none : R.of none = .no := Eq.trans rfl rfl
@[simp] theorem e2_def (f : D → D → Option D) (Fa Fb : Nv → R D) (η : Nv) : e2 f Fa Fb η = (Fa η).bind fun x => (Fb η).bind fun y => .of (f x y) := Eq.trans rfl rfl
@[simp] theorem e1_def (f : D → Option D) (Fa : Nv → R D) (η : Nv) : e1 f Fa η = (Fa η).bind fun x => .of (f x) := Eq.trans rfl rfl
@[simp] theorem eN_def (f : List D → Option D) (Fs : Nv → R (List D)) (η : Nv) : eN f Fs η = (Fs η).bind fun ds => .of (f ds) := Eq.trans rfl rfl
@[simp] theorem a0_def (η : Nv) : a0 η = .ok [] := Eq.trans rfl rfl
@[simp] theorem aC_def (Fa : Nv → R D) (Fs : Nv → R (List D)) (η : Nv) : aC Fa Fs η = (Fa η).bind fun x => (Fs η).bind fun xs => .ok (x :: xs) := Eq.trans rfl rfl
@[simp] theorem callV_def (Fn : List D → R D) (Fs : Nv → R (List D)) (η : Nv) : callV Fn Fs η = (Fs η).bind fun ds => noex (Fn ds) := Eq.trans rfl rfl
@[simp] theorem noex_ok (d : D) : noex (.ok d) = .ok d := Eq.trans rfl rfl
@[simp] theorem tb_def (F : Nv → R D) (η : Nv) : tb F η = (F η).bind tru := Eq.trans rfl rfl
@[simp] theorem tru_bool (b : Bool) : tru (.bool b) = .ok b := Eq.trans rfl rfl
@[simp] theorem tru_none : tru .none = .ok false := Eq.trans rfl rfl
@[simp] theorem tru_int (i : Int) : tru (.int i) = .ok (i != 0) := Eq.trans rfl rfl
@[simp] theorem tru_list (xs : List D) : tru (.list xs) = .ok !xs.isEmpty := Eq.trans rfl rfl
@[simp] theorem andB_def (Ga Gb : Nv → R Bool) (η : Nv) : andB Ga Gb η = (Ga η).bind fun k => if k then Gb η else .ok false := Eq.trans rfl rfl
@[simp] theorem orB_def (Ga Gb : Nv → R Bool) (η : Nv) : orB Ga Gb η = (Ga η).bind fun k => if k then .ok true else Gb η := Eq.trans rfl rfl
@[simp] theorem notB_def (Ga : Nv → R Bool) (η : Nv) : notB Ga η = (Ga η).bind fun k => .ok !k := Eq.trans rfl rfl
@[simp] theorem andV_def (Fa Fb : Nv → R D) (η : Nv) : andV Fa Fb η = (Fa η).bind fun x => (tru x).bind fun k => if k then Fb η else .ok x := Eq.trans rfl rfl
@[simp] theorem orV_def (Fa Fb : Nv → R D) (η : Nv) : orV Fa Fb η = (Fa η).bind fun x => (tru x).bind fun k => if k then .ok x else Fb η := Eq.trans rfl rfl
@[simp] theorem notV_def (Fa : Nv → R D) (η : Nv) : notV Fa η = (Fa η).bind fun x => (tru x).bind fun k => .ok (.bool !k) := Eq.trans rfl rfl
@[simp] theorem ifV_def (G : Nv → R Bool) (Fa Fb : Nv → R D) (η : Nv) : ifV G Fa Fb η = (G η).bind fun k => if k then Fa η else Fb η := Eq.trans rfl rfl
@[simp] theorem chainV_def (f g : D → D → Option D) (Fa Fb Fc : Nv → R D) (η : Nv) : chainV f g Fa Fb Fc η = (Fa η).bind fun x => (Fb η).bind fun y => (R.of (f x y)).bind fun z => (tru z).bind fun k => if k then (Fc η).bind fun w => .of (g y w) else .ok (.bool false) := Eq.trans rfl rfl
@[simp] theorem tupV_def (Fs : Nv → R (List D)) (η : Nv) : tupV Fs η = (Fs η).bind fun ds => .of (if ds.length ≤ lineN then some (.tuple ds) else none) := Eq.trans rfl rfl
@[simp] theorem lstV_def (Fs : Nv → R (List D)) (η : Nv) : lstV Fs η = (Fs η).bind fun ds => .of (if ds.length ≤ lineN then some (.list ds) else none) := Eq.trans rfl rfl
@[simp] theorem slE_def (sl : Option Int → Option Int → D → Option D) (F : Nv → R D) (Lo Hi : Nv → R (Option Int)) (η : Nv) : slE sl F Lo Hi η = (F η).bind fun x => (Lo η).bind fun l => (Hi η).bind fun h => .of (sl l h x) := Eq.trans rfl rfl
@[simp] theorem p0_def (η : Nv) : p0 η = .ok none := Eq.trans rfl rfl
@[simp] theorem p1_def (F : Nv → R D) (η : Nv) : p1 F η = (F η).bind asInt := Eq.trans rfl rfl
@[simp] theorem asInt_int (i : Int) : asInt (.int i) = .ok (some i) := Eq.trans rfl rfl
/-! statements -/
@[simp] theorem toS_ok {α : Type} (a : α) (f : α → Rs) : (R.ok a).toS f = f a := Eq.trans rfl rfl
@[simp] theorem toS_no {α : Type} (f : α → Rs) : (R.no : R α).toS f = .no := Eq.trans rfl rfl
@[simp] theorem seqS_def (Gs Gt : Nv → Rs) (η : Nv) : seqS Gs Gt η = (Gs η).bind Gt := Eq.trans rfl rfl
@[simp] theorem bind_nx (η : Nv) (f : Nv → Rs) : (Rs.nx η).bind f = f η := Eq.trans rfl rfl
@[simp] theorem bind_rt (d : D) (η : Nv) (f : Nv → Rs) : (Rs.rt d η).bind f = .rt d η := Eq.trans rfl rfl
@[simp] theorem bind_ct (η : Nv) (f : Nv → Rs) : (Rs.ct η).bind f = .ct η := Eq.trans rfl rfl
@[simp] theorem bind_bk (η : Nv) (f : Nv → Rs) : (Rs.bk η).bind f = .bk η := Eq.trans rfl rfl
@[simp] theorem bind_ex (c w : Str) (p : D) (f : Nv → Rs) : (Rs.ex c w p).bind f = .ex c w p := Eq.trans rfl rfl
@[simp] theorem setS_def (i : Nat) (F : Nv → R D) (η : Nv) : setS i F η = (F η).toS fun x => .nx (η.set i (.d x)) := Eq.trans rfl rfl
@[simp] theorem retS_def (F : Nv → R D) (η : Nv) : retS F η = (F η).toS fun x => .rt x η := Eq.trans rfl rfl
@[simp] theorem exprS_def (F : Nv → R D) (η : Nv) : exprS F η = (F η).toS fun _ => .nx η := Eq.trans rfl rfl
@[simp] theorem ifS_def (G : Nv → R Bool) (Gs Gt : Nv → Rs) (η : Nv) : ifS G Gs Gt η = (G η).toS fun k => if k then Gs η else Gt η := Eq.trans rfl rfl
@[simp] theorem forS_def (Fi : Nv → R (List D)) (T : Tgt) (Gb : Nv → Rs) (η : Nv) : forS Fi T Gb η = (Fi η).toS fun xs => loopG T Gb xs η := Eq.trans rfl rfl
theorem ownS_list (i : Nat) (F : Nv → R D) (η : Nv) (xs : List D) (h : F η = .ok (.list xs)) : ownS i F η = .nx (η.set i (.own ⟨true, xs⟩)) := by
  unfold ownS
  rw [h]
  rfl
theorem appS_own (i : Nat) (F : Nv → R D) (η : Nv) (xs : OL) (y : D) (h1 : η[i]? = some (.own xs)) (h2 : F η = .ok y) (h3 : xs.l.length < lineN) : appS i F η = .nx (η.set i (.own ⟨xs.b, xs.l ++ [y]⟩)) := by
  unfold appS
  rw [h1]
  show (F η).toS _ = _
  rw [h2]
  show (if xs.l.length < lineN then _ else _) = _
  rw [if_pos h3]
theorem retO_own (i : Nat) (η : Nv) (xs : List D) (h : η[i]? = some (.own ⟨true, xs⟩)) : retO i η = .rt (.list xs) η := by
  unfold retO
  rw [h]
  rfl
@[simp] theorem gN_def (i : Nat) (x : D) (η : Nv) : gN i x η = some (η.set i (.d x)) := Eq.trans rfl rfl
@[simp] theorem iA_def (F : Nv → R D) (η : Nv) : iA F η = (F η).bind asSeq := Eq.trans rfl rfl
@[simp] theorem asSeq_list (xs : List D) : asSeq (.list xs) = .ok xs := Eq.trans rfl rfl
@[simp] theorem asSeq_tup (xs : List D) : asSeq (.tuple xs) = .ok xs := Eq.trans rfl rfl
@[simp] theorem iR1_def (Fs : Nv → R (List D)) (η : Nv) : iR1 Fs η = (Fs η).bind rng1 := Eq.trans rfl rfl
@[simp] theorem iR2_def (Fs : Nv → R (List D)) (η : Nv) : iR2 Fs η = (Fs η).bind rng2 := Eq.trans rfl rfl
@[simp] theorem iZ_def (Fs : Nv → R (List D)) (η : Nv) : iZ Fs η = (Fs η).bind zip2 := Eq.trans rfl rfl
@[simp] theorem iRR_def (F : Nv → R D) (η : Nv) : iRR F η = (F η).bind rr1 := Eq.trans rfl rfl
theorem rng1_ok {n : Int} (h0 : 0 ≤ n) (h : n < 1000000) : rng1 [.int n] = .ok (rangeD 0 n.toNat) := by
  show (if -(2 ^ 62) ≤ n ∧ n < 2 ^ 62 then _ else _) = _
  rw [if_pos ⟨by omega, by omega⟩]
/-! values -/
@[simp] theorem addV_int (i j : Int) : addV (.int i) (.int j) = some (.int (i + j)) := Eq.trans rfl rfl
@[simp] theorem subV_int (i j : Int) : subV (.int i) (.int j) = some (.int (i - j)) := Eq.trans rfl rfl
theorem mulV_int {i j : Int} (h : (-(2 ^ 64) < i ∧ i < 2 ^ 64) ∨ (-(2 ^ 64) < j ∧ j < 2 ^ 64)) : mulV (.int i) (.int j) = some (.int (i * j)) := if_pos h
theorem fdivV_int {i j : Int} (h : 0 < j ∧ j < 1073741824) : fdivV (.int i) (.int j) = some (.int (i / j)) := if_pos h
theorem modV_int {i j : Int} (h : 0 < j) : modV (.int i) (.int j) = some (.int (i % j)) := if_pos h
theorem powV_int {i j : Int} (h : 0 ≤ j ∧ j ≤ 1000000 ∧ i.natAbs < 2 ^ 64) : powV (.int i) (.int j) = some (.int (i ^ j.toNat)) := if_pos h
@[simp] theorem ltV_int (i j : Int) : ltV (.int i) (.int j) = some (.bool (decide (i < j))) := Eq.trans rfl rfl
@[simp] theorem leV_int (i j : Int) : leV (.int i) (.int j) = some (.bool (decide (i ≤ j))) := Eq.trans rfl rfl
@[simp] theorem gtV_int (i j : Int) : gtV (.int i) (.int j) = some (.bool (decide (j < i))) := Eq.trans rfl rfl
@[simp] theorem geV_int (i j : Int) : geV (.int i) (.int j) = some (.bool (decide (j ≤ i))) := Eq.trans rfl rfl
@[simp] theorem ltA_i (i j : Int) : ltA (.int i) (.int j) = some (.bool (decide (i < j))) := Eq.trans rfl rfl
@[simp] theorem leA_i (i j : Int) : leA (.int i) (.int j) = some (.bool (decide (i ≤ j))) := Eq.trans rfl rfl
@[simp] theorem gtA_i (i j : Int) : gtA (.int i) (.int j) = some (.bool (decide (j < i))) := Eq.trans rfl rfl
@[simp] theorem geA_i (i j : Int) : geA (.int i) (.int j) = some (.bool (decide (j ≤ i))) := Eq.trans rfl rfl
@[simp] theorem negV_int (i : Int) : negV (.int i) = some (.int (-i)) := Eq.trans rfl rfl
@[simp] theorem intV_int (i : Int) : intV [.int i] = some (.int i) := Eq.trans rfl rfl
@[simp] theorem lenV_list (xs : List D) : lenV [.list xs] = some (.int xs.length) := Eq.trans rfl rfl
@[simp] theorem lenV_tup (xs : List D) : lenV [.tuple xs] = some (.int xs.length) := Eq.trans rfl rfl
@[simp] theorem ixV_list (xs : List D) (i : Int) : ixV (.list xs) (.int i) = atD xs i := Eq.trans rfl rfl
@[simp] theorem ixV_tup (xs : List D) (i : Int) : ixV (.tuple xs) (.int i) = atD xs i := Eq.trans rfl rfl
theorem atD_nat {xs : List D} {i : Int} {d : D} (h0 : 0 ≤ i) (h : xs[i.toNat]? = some d) : atD xs i = some d := by
  have hl : i.toNat < xs.length := (List.getElem?_eq_some_iff.mp h).1
  unfold atD ixN
  rw [if_pos h0, if_pos (by omega)]
  exact h
/-! ### loops and comprehensions -/
@[simp] theorem loopG_nil (T : Tgt) (Gb : Nv → Rs) (η : Nv) : loopG T Gb [] η = .nx η := Eq.trans rfl rfl
theorem loopG_cons (T : Tgt) (Gb : Nv → Rs) (x : D) (xs : List D) (η η1 : Nv) (h : T x η = some η1) : loopG T Gb (x :: xs) η = match Gb η1 with
    | .nx η2 => loopG T Gb xs η2
    | .ct η2 => loopG T Gb xs η2
    | .bk η2 => .nx η2
    | .rt d η2 => .rt d η2
    | .ex c w p => .ex c w p
    | .no => .no := by
  show (match T x η with | none => _ | some η1 => _) = _
  rw [h]
  try rfl
theorem compD_map {T : Tgt} {C : Nv → R Bool} {El : Nv → R D} {η : Nv} {g : D → D} : ∀ (xs : List D), (∀ x ∈ xs, ∃ η1, T x η = some η1 ∧ C η1 = .ok true ∧ El η1 = .ok (g x)) → compD T C El η xs = .ok (xs.map g)
  | [], _ => rfl
  | x :: xs, h => by
    obtain ⟨η1, h1, h2, h3⟩ := h x List.mem_cons_self
    show (match T x η with | none => _ | some η1 => _) = _
    rw [h1]
    show (C η1).bindN _ = _
    rw [h2]
    show (El η1).bindN _ = _
    rw [h3]
    show (compD T C El η xs).bindN _ = _
    rw [compD_map xs fun y m => h y (List.mem_cons_of_mem _ m)]
    rfl
theorem compD_filter {T : Tgt} {C : Nv → R Bool} {El : Nv → R D} {η : Nv} {g : D → D} {c : D → Bool} : ∀ (xs : List D), (∀ x ∈ xs, ∃ η1, T x η = some η1 ∧ C η1 = .ok (c x) ∧ (c x = true → El η1 = .ok (g x))) → compD T C El η xs = .ok ((xs.filter c).map g)
  | [], _ => rfl
  | x :: xs, h => by
    obtain ⟨η1, h1, h2, h3⟩ := h x List.mem_cons_self
    show (match T x η with | none => _ | some η1 => _) = _
    rw [h1]
    show (C η1).bindN _ = _
    rw [h2]
    have ih := compD_filter xs fun y m => h y (List.mem_cons_of_mem _ m)
    cases hc : c x with
    | false =>
      show compD T C El η xs = _
      rw [ih, List.filter_cons_of_neg (by rw [hc]; exact Bool.false_ne_true)]
    | true =>
      show (El η1).bindN _ = _
      rw [h3 hc]
      show (compD T C El η xs).bindN _ = _
      rw [ih, List.filter_cons_of_pos hc]
      rfl
theorem compE_ok {Fi : Nv → R (List D)} {T : Tgt} {C : Nv → R Bool} {El : Nv → R D} {vs : List Nat} {η : Nv} {xs ys : List D} (h1 : Fi η = .ok xs) (h2 : compD T C El (wipeE η vs) xs = .ok ys) (h3 : ys.length ≤ lineN) : compE Fi T C El vs η = .ok (.list ys) := by
  unfold compE
  rw [h1]
  show (compD T C El (wipeE η vs) xs).bindN _ = _
  rw [h2]
  show (if ys.length ≤ lineN then _ else _) = _
  rw [if_pos h3]
theorem runD_rt {m : Nat} {fall : R D} {G : Nv → Rs} {ds : List D} {d : D} {η' : Nv} (η : Nv) (hi : initD m ds = η) (h : G η = .rt d η') : runD m fall G ds = .ok d := by
  subst hi
  unfold runD
  rw [h]
/-! ### the laws' own helpers -/
namespace Lw
def G_cell : Nv → Rs :=
    (seqS (ifS (tb (e2 ltA (gv 1) (eN lenV (aC (gv 0) a0)))) (seqS (retS (e2 ixV (gv 0) (gv 1)))
    .nx) .nx)
    (seqS (retS (k0 (.int 0)))
    .nx))
def F_cell : List D → R D := runD 2 (.ok .none) G_cell
def cell (ns : List Int) (k : Nat) : Int := ns.getD k 0
theorem cell_ok (ns : List Int) (k : Nat) : F_cell [.list (ns.map PyData.int), .int (k : Int)] = .ok (.int (cell ns k)) := by
  have i : initD 2 [.list (ns.map PyData.int), .int (k : Int)] = [.d (.list (ns.map PyData.int)), .d (.int (k : Int))] := rfl
  unfold F_cell runD
  rw [i]
  by_cases h : k < ns.length
  · have e : G_cell [.d (.list (ns.map PyData.int)), .d (.int (k : Int))] = .rt (.int (cell ns k)) [.d (.list (ns.map PyData.int)), .d (.int (k : Int))] := by
      have a : atD (ns.map PyData.int) (k : Int) = some (.int (cell ns k)) := atD_nat (by omega) (by
        rw [List.getElem?_map, Int.toNat_natCast, List.getElem?_eq_getElem h]
        unfold cell
        rw [List.getD_eq_getElem?_getD, List.getElem?_eq_getElem h]
        rfl)
      simp [G_cell, h, a]
    rw [e]
  · have e : G_cell [.d (.list (ns.map PyData.int)), .d (.int (k : Int))] = .rt (.int (cell ns k)) [.d (.list (ns.map PyData.int)), .d (.int (k : Int))] := by
      have c : cell ns k = 0 := by
        unfold cell
        rw [List.getD_eq_getElem?_getD, List.getElem?_eq_none (by omega)]
        rfl
      simp [G_cell, h, c]
    rw [e]
def B_row : Nv → Rs :=
    (seqS (ifS (tb (e2 geA (gv 0) (e2 powV (k0 (.int 10)) (k0 (.int 18))))) (seqS (appS 3 (e2 modV (eN intV (aC (gv 0) a0)) (gv 2)))
    (seqS (setS 0 (e2 fdivV (gv 0) (gv 2)))
    .nx)) (seqS (setS 5 (e2 modV (eN intV (aC (e2 addV (e2 addV (e2 mulV (gv 0) (k0 (.int 48271))) (e2 mulV (gv 4) (k0 (.int 69621)))) (k0 (.int 12345))) a0)) (k0 (.int 2147483647))))
    (seqS (setS 5 (e2 modV (eN intV (aC (e2 addV (e2 addV (e2 mulV (gv 5) (gv 5)) (e2 mulV (k0 (.int 16807)) (gv 4))) (k0 (.int 7))) a0)) (k0 (.int 998244353))))
    (seqS (setS 5 (e2 modV (eN intV (aC (e2 addV (e2 addV (e2 mulV (gv 5) (gv 5)) (e2 mulV (k0 (.int 48271)) (gv 4))) (gv 0)) a0)) (k0 (.int 2147483629))))
    (seqS (appS 3 (e2 modV (eN intV (aC (e2 fdivV (gv 5) (k0 (.int 13))) a0)) (gv 2)))
    .nx)))))
    .nx)
def G_row : Nv → Rs :=
    (seqS (ownS 3 (lstV a0))
    (seqS (forS (iR1 (aC (gv 1) a0)) (gN 4) B_row)
    (seqS (retO 3)
    .nx)))
def F_row : List D → R D := runD 6 .no G_row
/-- ints from 0 below b -/
def Below (b : Int) (xs : List D) : Prop := ∀ x ∈ xs, ∃ i : Int, x = .int i ∧ 0 ≤ i ∧ i < b
theorem row_turn {c n k b : Int} {rs : List D} {s4 s5 : Sl} (hb : 0 < b ∧ b < 1073741824) (hl : rs.length < lineN) : ∃ (c' i : Int) (s5' : Sl), 0 ≤ i ∧ i < b ∧
    B_row [.d (.int c), .d (.int n), .d (.int b), .own ⟨true, rs⟩, .d (.int k), s5] = .nx [.d (.int c'), .d (.int n), .d (.int b), .own ⟨true, rs ++ [.int i]⟩, .d (.int k), s5'] := by
  have hp : powV (.int 10) (.int 18) = some (.int (10 ^ 18)) := powV_int ⟨by decide, by decide, by decide⟩
  by_cases h : (1000000000000000000 : Int) ≤ c
  · refine ⟨c / b, c % b, s5, Int.emod_nonneg _ (by omega), Int.emod_lt_of_pos _ hb.1, ?_⟩
    have m : modV (.int c) (.int b) = some (.int (c % b)) := modV_int hb.1
    have q : fdivV (.int c) (.int b) = some (.int (c / b)) := fdivV_int hb
    have ap := appS_own 3 (e2 modV (eN intV (aC (gv 0) a0)) (gv 2)) [.d (.int c), .d (.int n), .d (.int b), .own ⟨true, rs⟩, .d (.int k), s5] ⟨true, rs⟩ (.int (c % b)) rfl (by simp [m]) hl
    simp [B_row, hp, h, ap, q]
  · generalize q1 : (c * 48271 + k * 69621 + 12345) % 2147483647 = x1
    generalize q2 : (x1 * x1 + 16807 * k + 7) % 998244353 = x2
    generalize q3 : (x2 * x2 + 48271 * k + c) % 2147483629 = x3
    have b1 : 0 ≤ x1 ∧ x1 < 2147483647 := by omega
    have b2 : 0 ≤ x2 ∧ x2 < 998244353 := by omega
    have b3 : 0 ≤ x3 ∧ x3 < 2147483629 := by omega
    refine ⟨c, x3 / 13 % b, .d (.int x3), Int.emod_nonneg _ (by omega), Int.emod_lt_of_pos _ hb.1, ?_⟩
    have t1 : mulV (.int c) (.int 48271) = some (.int (c * 48271)) := mulV_int (.inr (by decide))
    have t2 : mulV (.int k) (.int 69621) = some (.int (k * 69621)) := mulV_int (.inr (by decide))
    have t3 : mulV (.int x1) (.int x1) = some (.int (x1 * x1)) := mulV_int (.inl (by omega))
    have t4 : mulV (.int 16807) (.int k) = some (.int (16807 * k)) := mulV_int (.inl (by decide))
    have t5 : mulV (.int x2) (.int x2) = some (.int (x2 * x2)) := mulV_int (.inl (by omega))
    have t6 : mulV (.int 48271) (.int k) = some (.int (48271 * k)) := mulV_int (.inl (by decide))
    have m1 : ∀ z : Int, modV (.int z) (.int 2147483647) = some (.int (z % 2147483647)) := fun z => modV_int (by decide)
    have m2 : ∀ z : Int, modV (.int z) (.int 998244353) = some (.int (z % 998244353)) := fun z => modV_int (by decide)
    have m3 : ∀ z : Int, modV (.int z) (.int 2147483629) = some (.int (z % 2147483629)) := fun z => modV_int (by decide)
    have m4 : ∀ z : Int, modV (.int z) (.int b) = some (.int (z % b)) := fun z => modV_int hb.1
    have d1 : fdivV (.int x3) (.int 13) = some (.int (x3 / 13)) := fdivV_int (by decide)
    have ap := appS_own 3 (e2 modV (eN intV (aC (e2 fdivV (gv 5) (k0 (.int 13))) a0)) (gv 2)) [.d (.int c), .d (.int n), .d (.int b), .own ⟨true, rs⟩, .d (.int k), .d (.int x3)] ⟨true, rs⟩ (.int (x3 / 13 % b)) rfl (by simp [d1, m4]) hl
    simp [B_row, hp, h, t1, t2, m1, q1, t3, t4, m2, q2, t5, t6, m3, q3, ap]
theorem row_loop {n b : Int} (hb : 0 < b ∧ b < 1073741824) : ∀ (xs : List D) (c : Int) (rs : List D) (s4 s5 : Sl), (∀ x ∈ xs, ∃ i, x = .int i) → rs.length + xs.length ≤ lineN → ∃ (c' : Int) (ys : List D) (s4' s5' : Sl), ys.length = xs.length ∧ Below b ys ∧
    loopG (gN 4) B_row xs [.d (.int c), .d (.int n), .d (.int b), .own ⟨true, rs⟩, s4, s5] = .nx [.d (.int c'), .d (.int n), .d (.int b), .own ⟨true, rs ++ ys⟩, s4', s5']
  | [], c, rs, s4, s5, _, _ => ⟨c, [], s4, s5, rfl, fun x m => absurd m List.not_mem_nil, by rw [List.append_nil]; rfl⟩
  | x :: xs, c, rs, s4, s5, h, hl => by
    obtain ⟨k, rfl⟩ := h x List.mem_cons_self
    rw [List.length_cons] at hl
    obtain ⟨c1, i, s51, h1, h2, e⟩ := row_turn (c := c) (n := n) (k := k) (b := b) (rs := rs) (s4 := s4) (s5 := s5) hb (by omega)
    obtain ⟨c2, ys, s4', s5', h3, h4, e2⟩ := row_loop hb xs c1 (rs ++ [.int i]) (.d (.int k)) s51 (fun y m => h y (List.mem_cons_of_mem _ m)) (by rw [List.length_append]; simp; omega)
    refine ⟨c2, .int i :: ys, s4', s5', by rw [List.length_cons, h3, List.length_cons], fun y m => ?_, ?_⟩
    · rcases List.mem_cons.mp m with rfl | m
      · exact ⟨i, rfl, h1, h2⟩
      · exact h4 y m
    · rw [loopG_cons (η1 := [.d (.int c), .d (.int n), .d (.int b), .own ⟨true, rs⟩, .d (.int k), s5]) (h := rfl), e]
      show loopG (gN 4) B_row xs _ = _
      rw [e2, List.append_assoc]
      rfl
theorem row_ok {c b : Int} {n : Nat} (hb : 0 < b ∧ b < 1073741824) (hn : n < 1000000) : ∃ ys : List D, ys.length = n ∧ Below b ys ∧ F_row [.int c, .int (n : Int), .int b] = .ok (.list ys) := by
  obtain ⟨c', ys, s4, s5, h1, h2, e⟩ := row_loop (n := n) hb (rangeD 0 n) c [] .no .no (fun x m => by
    unfold rangeD at m
    obtain ⟨i, _, rfl⟩ := List.mem_map.mp m
    exact ⟨_, rfl⟩) (by
      have h : (rangeD 0 n).length = n := by unfold rangeD; rw [List.length_map, List.length_range]
      rw [h, List.length_nil]
      have := lineN_eq
      omega)
  have hlen : (rangeD 0 n).length = n := by unfold rangeD; rw [List.length_map, List.length_range]
  refine ⟨ys, h1.trans hlen, h2, ?_⟩
  have r : rng1 [.int (n : Int)] = .ok (rangeD 0 n) := by
    rw [rng1_ok (by omega) (by omega), Int.toNat_natCast]
  have o : ownS 3 (lstV a0) [.d (.int c), .d (.int (n : Int)), .d (.int b), .no, .no, .no] = .nx [.d (.int c), .d (.int (n : Int)), .d (.int b), .own ⟨true, []⟩, .no, .no] := by
    rw [ownS_list 3 _ _ [] (by simp)]
    rfl
  rw [List.nil_append] at e
  have g : G_row [.d (.int c), .d (.int (n : Int)), .d (.int b), .no, .no, .no] = .rt (.list ys) [.d (.int c'), .d (.int (n : Int)), .d (.int b), .own ⟨true, ys⟩, s4, s5] := by
    simp [G_row, o, r, e, retO_own 3 [.d (.int c'), .d (.int (n : Int)), .d (.int b), .own ⟨true, ys⟩, s4, s5] ys rfl]
  exact runD_rt _ rfl g
end Lw
end Bd
/-! M1: what may be shown and compared. -/
namespace Bd
open PySem L2

/-- small data without dicts: its depth, its weight -/
structure Fine (k n : Nat) (d : D) : Prop where
  sh : d.showable = true
  nd : d.hasDict = false
  dp : d.depth ≤ k
  ls : d.leavesShort 13 = true
  wt : d.weight ≤ n
  cl : d.canLay0 = true
theorem Fine.mono {k n k' n' : Nat} {d : D} (h : Fine k n d) (hk : k ≤ k') (hn : n ≤ n') : Fine k' n' d := ⟨h.sh, h.nd, Nat.le_trans h.dp hk, h.ls, Nat.le_trans h.wt hn, h.cl⟩
theorem fine_none : Fine 0 0 .none := ⟨by simp only [PyData.showable], by simp only [PyData.hasDict], by simp only [PyData.depth]; exact Nat.le_refl _, by simp only [PyData.leavesShort], by simp only [PyData.weight]; exact Nat.le_refl _, by simp only [PyData.canLay0]⟩
theorem fine_bool (b : Bool) : Fine 0 0 (.bool b) := ⟨by simp only [PyData.showable], by simp only [PyData.hasDict], by simp only [PyData.depth]; exact Nat.le_refl _, by simp only [PyData.leavesShort], by simp only [PyData.weight]; exact Nat.le_refl _, by simp only [PyData.canLay0]⟩
theorem log2_small {n k : Nat} (h : n < 2 ^ k) (hk : 0 < k) : n.log2 < k := by
  by_cases h0 : n = 0
  · subst h0
    exact hk
  · exact (Nat.log2_lt h0).mpr h
theorem fine_int {i : Int} (h1 : -1000000000000 < i) (h2 : i < 1000000000000) : Fine 0 41 (.int i) where
  sh := by
    simp only [PyData.showable, decide_eq_true_eq]
    have := log2_small (n := i.natAbs) (k := 41) (by omega) (by decide)
    omega
  nd := by simp only [PyData.hasDict]
  dp := by simp only [PyData.depth]; exact Nat.le_refl _
  ls := by
    simp only [PyData.leavesShort, decide_eq_true_eq]
    exact PyData.shown_int_le (by omega)
  wt := by
    simp only [PyData.weight]
    split
    · exact Nat.zero_le _
    · have := log2_small (n := i.natAbs) (k := 40) (by omega) (by decide)
      omega
  cl := by simp only [PyData.canLay0]
theorem fineAll {k n : Nat} : ∀ {xs : List D}, (∀ x ∈ xs, Fine k n x) → PyData.showableAll xs = true ∧ PyData.hasDictAll xs = false ∧ PyData.depthAll xs ≤ k ∧ PyData.leavesShortAll 13 xs = true ∧ PyData.weightAll xs ≤ xs.length * (n + 1) ∧ PyData.canLayAll0 xs = true
  | [], _ => ⟨by simp only [PyData.showableAll], by simp only [PyData.hasDictAll], by simp only [PyData.depthAll]; exact Nat.zero_le _, by simp only [PyData.leavesShortAll], by simp only [PyData.weightAll]; exact Nat.zero_le _, by simp only [PyData.canLayAll0]⟩
  | x :: xs, h => by
    obtain ⟨h1, h2, h3, h4, h5, h6⟩ := fineAll fun y m => h y (List.mem_cons_of_mem _ m)
    have f := h x List.mem_cons_self
    have w := f.wt
    have d := f.dp
    refine ⟨?_, ?_, ?_, ?_, ?_, ?_⟩
    · simp only [PyData.showableAll, f.sh, h1, Bool.and_self]
    · simp only [PyData.hasDictAll, f.nd, h2, Bool.or_self]
    · simp only [PyData.depthAll]; omega
    · simp only [PyData.leavesShortAll, f.ls, h4, Bool.and_self]
    · simp only [PyData.weightAll, List.length_cons, Nat.add_mul]
      omega
    · simp only [PyData.canLayAll0, f.cl, h6, Bool.and_self]
theorem fine_list {k n : Nat} {xs : List D} (h : ∀ x ∈ xs, Fine k n x) : Fine (k + 1) (xs.length * (n + 1)) (.list xs) := by
  obtain ⟨h1, h2, h3, h4, h5, h6⟩ := fineAll h
  exact ⟨by simp only [PyData.showable, h1], by simp only [PyData.hasDict, h2], by simp only [PyData.depth]; omega, by simp only [PyData.leavesShort, h4], by simp only [PyData.weight]; exact h5, by simp only [PyData.canLay0, h6]⟩
theorem fine_tuple {k n : Nat} {xs : List D} (h : ∀ x ∈ xs, Fine k n x) : Fine (k + 1) (xs.length * (n + 1)) (.tuple xs) := by
  obtain ⟨h1, h2, h3, h4, h5, h6⟩ := fineAll h
  exact ⟨by simp only [PyData.showable, h1], by simp only [PyData.hasDict, h2], by simp only [PyData.depth]; omega, by simp only [PyData.leavesShort, h4], by simp only [PyData.weight]; exact h5, by simp only [PyData.canLay0, h6]⟩
theorem Fine.repr {k n : Nat} {d : D} (h : Fine k n d) (hk : k ≤ 64) (hn : n ≤ 1048576) : reprV [d] = some (.str d.shown) := by
  show (if d.showable = true ∧ d.hasDict = false ∧ d.depth ≤ 64 ∧ d.shown.length ≤ lineN then some (PyData.str d.shown) else none) = _
  have w : d.shown.length ≤ sizeLine := PyData.shown_fits (B := 13) (by decide) (by decide) h.ls (by have := h.wt; omega)
  rw [line_eq] at w
  have := h.dp
  rw [if_pos ⟨h.sh, h.nd, by omega, w⟩]
theorem Fine.shaped {k n : Nat} {d : D} (h : Fine k n d) (hk : k ≤ 64) : SeqAt.shaped d = true := by
  unfold SeqAt.shaped
  have := h.dp
  rw [h.cl, Bool.true_and, decide_eq_true_eq]
  omega
@[simp] theorem eqV_str (a b : Str) : eqV' (.str a) (.str b) = some (.bool (decide (a = b))) := Eq.trans rfl rfl
@[simp] theorem neV_str (a b : Str) : neV' (.str a) (.str b) = some (.bool (!decide (a = b))) := Eq.trans rfl rfl
theorem eqV_int (i j : Int) : eqV' (.int i) (.int j) = some (.bool (i == j)) := by
  show (if SeqAt.shaped (.int i) = true ∧ SeqAt.shaped (.int j) = true then some (PyData.bool (PyData.eqv (.int i) (.int j))) else none) = _
  have s : ∀ k : Int, SeqAt.shaped (.int k) = true := fun k => by
    unfold SeqAt.shaped
    simp only [PyData.canLay0, PyData.depth]
    rfl
  rw [if_pos ⟨s i, s j⟩]
  unfold PyData.eqv
  rfl
end Bd
/-! M2: ints in lists, slices, isinstance; names picked once and sorted. -/
namespace Bd
open PySem L2

/-! ### slices -/
theorem cut_take (xs : List D) (k : Int) (h : 0 ≤ k) : cutD xs none (some k) = xs.take k.toNat := by
  unfold cutD
  have e1 : HT.sIx xs.length 0 none = 0 := rfl
  have e2 : HT.sIx xs.length xs.length (some k) = min k.toNat xs.length := by
    show (if k < 0 then (k + (xs.length : Int)).toNat else min k.toNat xs.length) = _
    rw [if_neg (by omega)]
  rw [e1, e2, List.drop_zero, Nat.sub_zero, ← List.take_eq_take_min]
theorem cut_drop (xs : List D) (k : Int) (h : 0 ≤ k) : cutD xs (some k) none = xs.drop k.toNat := by
  unfold cutD
  have e1 : HT.sIx xs.length xs.length none = xs.length := rfl
  have e2 : HT.sIx xs.length 0 (some k) = min k.toNat xs.length := by
    show (if k < 0 then (k + (xs.length : Int)).toNat else min k.toNat xs.length) = _
    rw [if_neg (by omega)]
  rw [e1, e2]
  by_cases hk : k.toNat ≤ xs.length
  · rw [Nat.min_eq_left hk]
    exact List.take_of_length_le (by rw [List.length_drop]; exact Nat.le_refl _)
  · rw [Nat.min_eq_right (by omega), List.drop_length, List.drop_eq_nil_of_le (by omega)]
    simp
@[simp] theorem slV_list (lo hi : Option Int) (xs : List D) : slV lo hi (.list xs) = some (.list (cutD xs lo hi)) := Eq.trans rfl rfl
@[simp] theorem slV_tup (lo hi : Option Int) (xs : List D) : slV lo hi (.tuple xs) = some (.tuple (cutD xs lo hi)) := Eq.trans rfl rfl
@[simp] theorem slL_list (lo hi : Option Int) (xs : List D) : slL lo hi (.list xs) = some (.list (cutD xs lo hi)) := Eq.trans rfl rfl
@[simp] theorem revV_tup (xs : List D) : revV (.tuple xs) = some (.tuple xs.reverse) := Eq.trans rfl rfl
@[simp] theorem revV_list (xs : List D) : revV (.list xs) = some (.list xs.reverse) := Eq.trans rfl rfl
@[simp] theorem tupleV_list (xs : List D) : tupleV [.list xs] = some (.tuple xs) := Eq.trans rfl rfl
@[simp] theorem listV_list (xs : List D) : listV [.list xs] = some (.list xs) := Eq.trans rfl rfl
@[simp] theorem listV_tup (xs : List D) : listV [.tuple xs] = some (.list xs) := Eq.trans rfl rfl
theorem addV_tup {xs ys : List D} (h : xs.length + ys.length ≤ 16777216) : addV (.tuple xs) (.tuple ys) = some (.tuple (xs ++ ys)) := if_pos (by rw [lineN_eq]; exact h)
theorem addV_list {xs ys : List D} (h : xs.length + ys.length ≤ 16777216) : addV (.list xs) (.list ys) = some (.list (xs ++ ys)) := if_pos (by rw [lineN_eq]; exact h)
/-! ### ints in lists -/
theorem shaped_int (i : Int) : SeqAt.shaped (.int i) = true := by
  unfold SeqAt.shaped
  simp only [PyData.canLay0, PyData.depth]
  rfl
theorem ints_lay : ∀ l : List Int, PyData.canLayAll0 (l.map PyData.int) = true ∧ PyData.depthAll (l.map PyData.int) = 0
  | [] => ⟨by simp only [List.map_nil, PyData.canLayAll0], by simp only [List.map_nil, PyData.depthAll]⟩
  | x :: r => by
    obtain ⟨h1, h2⟩ := ints_lay r
    exact ⟨by simp only [List.map_cons, PyData.canLayAll0, PyData.canLay0, h1, Bool.and_self], by simp only [List.map_cons, PyData.depthAll, PyData.depth, h2]; rfl⟩
theorem shaped_ints (l : List Int) : SeqAt.shaped (.list (l.map PyData.int)) = true := by
  unfold SeqAt.shaped
  obtain ⟨h1, h2⟩ := ints_lay l
  simp only [PyData.canLay0, PyData.depth, h1, h2]
  rfl
theorem any_ints (a : Int) : ∀ l : List Int, ((l.map PyData.int).any fun z => PyData.eqv z (.int a)) = l.any (· == a)
  | [] => rfl
  | x :: r => by
    rw [List.map_cons, List.any_cons, List.any_cons, any_ints a r]
    unfold PyData.eqv
    rfl
theorem in_ints (a : Int) (l : List Int) : inV' (.int a) (.list (l.map PyData.int)) = some (.bool (l.any (· == a))) := by
  show (if SeqAt.shaped (.int a) = true ∧ SeqAt.shaped (.list (l.map PyData.int)) = true then some ((l.map PyData.int).any fun z => PyData.eqv z (.int a)) else none).map PyData.bool = _
  rw [if_pos ⟨shaped_int a, shaped_ints l⟩, any_ints]
  rfl
theorem notin_ints (a : Int) (l : List Int) : ninV' (.int a) (.list (l.map PyData.int)) = some (.bool (!l.any (· == a))) := by
  show (if SeqAt.shaped (.int a) = true ∧ SeqAt.shaped (.list (l.map PyData.int)) = true then some ((l.map PyData.int).any fun z => PyData.eqv z (.int a)) else none).map (fun b => PyData.bool !b) = _
  rw [if_pos ⟨shaped_int a, shaped_ints l⟩, any_ints]
  rfl
theorem ints?_map : ∀ l : List Int, ints? (l.map PyData.int) = some l
  | [] => rfl
  | x :: r => by
    show (ints? (r.map PyData.int)).map (x :: ·) = _
    rw [ints?_map r]
    rfl
theorem bools?_map : ∀ l : List Bool, bools? (l.map PyData.bool) = some l
  | [] => rfl
  | x :: r => by
    show (bools? (r.map PyData.bool)).map (x :: ·) = _
    rw [bools?_map r]
    rfl
theorem sort_ints (l : List Int) : sortIV [.list (l.map PyData.int)] = some (.list ((isort l).map PyData.int)) := by
  show (ints? (l.map PyData.int)).map _ = _
  rw [ints?_map]
  rfl
theorem all_bools (l : List Bool) : allV [.list (l.map PyData.bool)] = some (.bool (l.all id)) := by
  show (bools? (l.map PyData.bool)).map _ = _
  rw [bools?_map]
  rfl
theorem any_bools (l : List Bool) : anyV [.list (l.map PyData.bool)] = some (.bool (l.any id)) := by
  show (bools? (l.map PyData.bool)).map _ = _
  rw [bools?_map]
  rfl
/-! ### isinstance -/
def kInt : D → Bool
  | .int _ => true
  | .bool _ => true
  | _ => false
def kBool : D → Bool
  | .bool _ => true
  | _ => false
def kTup : D → Bool
  | .tuple _ => true
  | _ => false
theorem isi_int (d : D) : isiV "int" d = some (.bool (kInt d)) := by
  have h : ∀ s, kitB s "int" = some (s == "int" || s == "bool") → (kitB s "int").map PyData.bool = some (.bool (s == "int" || s == "bool")) := fun s e => by rw [e]; rfl
  cases d <;> (refine (h _ ?_).trans ?_ <;> first | rfl | decide +kernel)
theorem isi_bool (d : D) : isiV "bool" d = some (.bool (kBool d)) := by
  have h : ∀ s, kitB s "bool" = some (s == "bool") → (kitB s "bool").map PyData.bool = some (.bool (s == "bool")) := fun s e => by rw [e]; rfl
  cases d <;> (refine (h _ ?_).trans ?_ <;> first | rfl | decide +kernel)
theorem isi_tuple (d : D) : isiV "tuple" d = some (.bool (kTup d)) := by
  have h : ∀ s, kitB s "tuple" = some (s == "tuple") → (kitB s "tuple").map PyData.bool = some (.bool (s == "tuple")) := fun s e => by rw [e]; rfl
  cases d <;> (refine (h _ ?_).trans ?_ <;> first | rfl | decide +kernel)
/-! ### names picked once, sorted -/
def once (p : List Int) : List Int := ((List.range p.length).filter fun i => !(p.take i).any (· == p.getD i 0)).map fun i => p.getD i 0
theorem once_mem {p : List Int} {x : Int} : x ∈ once p → x ∈ p := fun h => by
  unfold once at h
  obtain ⟨i, hi, rfl⟩ := List.mem_map.mp h
  have hl : i < p.length := List.mem_range.mp (List.mem_filter.mp hi).1
  rw [List.getD_eq_getElem?_getD, List.getElem?_eq_getElem hl]
  exact List.getElem_mem hl
theorem once_nodup (p : List Int) : (once p).Nodup := by
  unfold once
  have hp : (List.range p.length).Pairwise (· < ·) := List.pairwise_lt_range
  rw [List.Nodup, List.pairwise_map]
  refine (hp.filter _).imp_of_mem ?_
  intro i j hi hj hij e
  have lj : j < p.length := List.mem_range.mp (List.mem_filter.mp hj).1
  have fj := (List.mem_filter.mp hj).2
  rw [Bool.not_eq_true', List.any_eq_false] at fj
  refine fj (p.getD i 0) ?_ (by rw [e]; exact beq_self_eq_true _)
  rw [List.getD_eq_getElem?_getD, List.getElem?_eq_getElem (by omega : i < p.length)]
  exact List.mem_take_iff_getElem.mpr ⟨i, by omega, rfl⟩
theorem once_ne {p : List Int} (h : 0 < p.length) : 0 < (once p).length := by
  unfold once
  rw [List.length_map]
  refine List.length_pos_of_mem (a := 0) (List.mem_filter.mpr ⟨List.mem_range.mpr h, rfl⟩)
theorem once_len (p : List Int) : (once p).length ≤ p.length := by
  unfold once
  rw [List.length_map]
  exact Nat.le_trans (List.length_filter_le _ _) (by rw [List.length_range]; exact Nat.le_refl _)
def pkC (p : List Int) : D → Bool
  | .int i => !(p.take i.toNat).any (· == p.getD i.toNat 0)
  | _ => false
def pkV (p : List Int) : D → D
  | .int i => .int (p.getD i.toNat 0)
  | _ => .none
/-- [p[k] for k in range(len(p)) if p[k] not in p[:k]]: sp, sk the slots of p and of k -/
theorem pick_comp {sp sk : Nat} {η : Nv} {p : List Int} (hl : p.length < 1000000) (h1 : gv sp η = .ok (.list (p.map PyData.int))) (h2 : ∀ x, gv sp ((wipeE η [sk]).set sk (.d x)) = .ok (.list (p.map PyData.int))) (h3 : ∀ x, gv sk ((wipeE η [sk]).set sk (.d x)) = .ok x) :
    compE (iR1 (aC (eN lenV (aC (gv sp) a0)) a0)) (gN sk) (tb (e2 ninV' (e2 ixV (gv sp) (gv sk)) (slE slV (gv sp) p0 (p1 (gv sk))))) (e2 ixV (gv sp) (gv sk)) [sk] η = .ok (.list ((once p).map PyData.int)) := by
  have ex : ((rangeD 0 p.length).filter (pkC p)).map (pkV p) = (once p).map PyData.int := by
    unfold rangeD once
    rw [List.filter_map, List.map_map, List.map_map]
    have f1 : (pkC p ∘ fun i : Nat => PyData.int (0 + (i : Nat))) = fun i : Nat => !(p.take i).any (· == p.getD i 0) := by
      funext i
      show (!(p.take (0 + (i : Int)).toNat).any (· == p.getD (0 + (i : Int)).toNat 0)) = _
      rw [show (0 + (i : Int)).toNat = i by omega]
    rw [f1]
    apply List.map_congr_left
    intro i _
    show PyData.int (p.getD (0 + (i : Int)).toNat 0) = _
    rw [show (0 + (i : Int)).toNat = i by omega]
    rfl
  rw [← ex]
  refine compE_ok (xs := rangeD 0 p.length) ?_ (compD_filter (c := pkC p) (g := pkV p) _ fun x m => ?_) ?_
  · have r : rng1 [.int ((p.length : Nat) : Int)] = .ok (rangeD 0 p.length) := by rw [rng1_ok (by omega) (by omega), Int.toNat_natCast]
    simp [h1, r]
  · unfold rangeD at m
    obtain ⟨i, hi, rfl⟩ := List.mem_map.mp m
    have hi : i < p.length := List.mem_range.mp hi
    have at1 : atD (p.map PyData.int) (0 + (i : Int)) = some (.int (p.getD i 0)) := atD_nat (by omega) (by
      rw [show (0 + (i : Int)).toNat = i by omega, List.getElem?_map, List.getElem?_eq_getElem hi, List.getD_eq_getElem?_getD, List.getElem?_eq_getElem hi]
      rfl)
    have cu : cutD (p.map PyData.int) none (some (0 + (i : Int))) = (p.take i).map PyData.int := by
      rw [cut_take _ _ (by omega), show (0 + (i : Int)).toNat = i by omega, List.map_take]
    have ti : (0 + (i : Int)).toNat = i := by omega
    refine ⟨_, rfl, ?_, fun _ => ?_⟩
    · show ((e2 ninV' (e2 ixV (gv sp) (gv sk)) (slE slV (gv sp) p0 (p1 (gv sk)))) _).bind tru = _
      simp only [e2_def, h2, h3, R.ok_bind, ixV_list, at1, of_some, slE_def, p0_def, p1_def, asInt_int, slV_list, cu, notin_ints, tru_bool]
      show _ = R.ok (!(p.take (0 + (i : Int)).toNat).any (· == p.getD (0 + (i : Int)).toNat 0))
      rw [ti]
    · simp only [e2_def, h2, h3, R.ok_bind, ixV_list, at1, of_some]
      show _ = R.ok (PyData.int (p.getD (0 + (i : Int)).toNat 0))
      rw [ti]
  · rw [List.length_map, lineN_eq]
    refine Nat.le_trans (List.length_filter_le _ _) ?_
    unfold rangeD
    rw [List.length_map, List.length_range]
    omega
theorem asc_sort {l : List Int} (h : l.Nodup) : (isort l).Pairwise (· < ·) := by
  have s := isort_sorted l
  have n : (isort l).Nodup := (isort_perm l).nodup_iff.mpr h
  exact (s.and n).imp fun z => by obtain ⟨z1, z2⟩ := z; omega
end Bd
/-! M3: the law's deck: a list of five that each draw changes. -/
namespace Bd
open PySem L2

/-! ### reckoning with lists that change -/
theorem up_ok {F : Nv → R D} {η : Nv} {d : D} (h : F η = .ok d) : up F η = .ok (d, η) := by
  unfold up
  rw [h]
theorem seq_nx {Gs Gt : Nv → Rs} {η η1 : Nv} (h : Gs η = .nx η1) : seqS Gs Gt η = Gt η1 := by
  rw [seqS_def, h]
  rfl
theorem ifS_t {G : Nv → R Bool} {Gs Gt : Nv → Rs} {η : Nv} (h : G η = .ok true) : ifS G Gs Gt η = Gs η := by
  rw [ifS_def, h]
  rfl
theorem ifS_f {G : Nv → R Bool} {Gs Gt : Nv → Rs} {η : Nv} (h : G η = .ok false) : ifS G Gs Gt η = Gt η := by
  rw [ifS_def, h]
  rfl
theorem xPutS_ok {i : Nat} {F : Nv → R (D × Nv)} {Fi : Nv → R D} {η η1 : Nv} {y : D} {xs : OL} {j : Int} {m : Nat} (h1 : F η = .ok (y, η1)) (h2 : η1[i]? = some (.own xs)) (h3 : Fi η1 = .ok (.int j)) (h4 : ixN xs.l.length j = some m) : xPutS i F Fi η = .nx (η1.set i (.own ⟨xs.b, xs.l.set m y⟩)) := by
  unfold xPutS
  rw [h1]
  show (match η1[i]? with
    | some (.own _) => (only (Fi η1)).toS (putAt i y η1)
    | _ => .no) = _
  rw [h2, h3]
  show putAt i y η1 (.int j) = _
  unfold putAt
  rw [h2]
  show (match ixN xs.l.length j with
    | some m => Rs.nx (η1.set i (.own ⟨xs.b, xs.l.set m y⟩))
    | none => .no) = _
  rw [h4]
theorem xSet_ok {i : Nat} {F : Nv → R (D × Nv)} {η η1 : Nv} {y : D} (h : F η = .ok (y, η1)) : xSet i F η = .nx (η1.set i (.d y)) := by
  unfold xSet
  rw [h]
  rfl
theorem xRet_ok {F : Nv → R (D × Nv)} {η η1 : Nv} {y : D} (h : F η = .ok (y, η1)) : xRet F η = .rt y η1 := by
  unfold xRet
  rw [h]
  rfl
theorem x2_ok {f : D → D → Option D} {Fa Fb : Nv → R (D × Nv)} {η η1 η2 : Nv} {a b d : D} (h1 : Fa η = .ok (a, η1)) (h2 : Fb η1 = .ok (b, η2)) (h3 : f a b = some d) : x2 f Fa Fb η = .ok (d, η2) := by
  unfold x2
  rw [h1]
  show ((Fb η1).bind fun q => (R.of (f a q.1)).bind fun d => R.ok (d, q.2)) = _
  rw [h2]
  show ((R.of (f a b)).bind fun d => R.ok (d, η2)) = _
  rw [h3]
  rfl
theorem xb_ok {F : Nv → R (D × Nv)} {η η1 : Nv} {d : D} {k : Bool} (h1 : F η = .ok (d, η1)) (h2 : tru d = .ok k) : xb F η = .ok (k, η1) := by
  unfold xb
  rw [h1]
  show ((tru d).bind fun k => R.ok (k, η1)) = _
  rw [h2]
  rfl
theorem xN_ok {f : List D → Option D} {Fs : Nv → R (List D × Nv)} {η η1 : Nv} {ds : List D} {d : D} (h1 : Fs η = .ok (ds, η1)) (h2 : f ds = some d) : xN f Fs η = .ok (d, η1) := by
  unfold xN
  rw [h1]
  show ((R.of (f ds)).bind fun d => R.ok (d, η1)) = _
  rw [h2]
  rfl
theorem xC_ok {Fa : Nv → R (D × Nv)} {Fs : Nv → R (List D × Nv)} {η η1 η2 : Nv} {a : D} {ds : List D} (h1 : Fa η = .ok (a, η1)) (h2 : Fs η1 = .ok (ds, η2)) : xC Fa Fs η = .ok (a :: ds, η2) := by
  unfold xC
  rw [h1]
  show ((Fs η1).bind fun q => R.ok (a :: q.1, q.2)) = _
  rw [h2]
  rfl
theorem xCallK_ok {i : Nat} {Fk : List D → List D → R (D × List D)} {Fs : Nv → R (List D × Nv)} {η η1 : Nv} {x0 xs : OL} {ds kx : List D} {d : D} (h0 : η[i]? = some (.own x0)) (h1 : Fs η = .ok (ds, η1)) (h2 : η1[i]? = some (.own xs)) (h3 : Fk xs.l ds = .ok (d, kx)) : xCallK i Fk Fs η = .ok (d, η1.set i (.own ⟨xs.b, kx⟩)) := by
  unfold xCallK
  rw [h0]
  show (Fs η).bind (xPut i Fk) = _
  rw [h1]
  show xPut i Fk (ds, η1) = _
  unfold xPut
  show (match η1[i]? with
    | some (.own xs) => (Fk xs.l ds).bind fun r => R.ok (r.1, η1.set i (.own ⟨xs.b, r.2⟩))
    | _ => .no) = _
  rw [h2]
  show ((Fk xs.l ds).bind fun r => R.ok (r.1, η1.set i (.own ⟨xs.b, r.2⟩))) = _
  rw [h3]
  rfl
theorem xAsg_ok {T : Tgt} {F : Nv → R (D × Nv)} {η η1 η2 : Nv} {d : D} (h1 : F η = .ok (d, η1)) (h2 : T d η1 = some η2) : xAsg T F η = .nx η2 := by
  unfold xAsg
  rw [h1]
  show (match T d η1 with
    | some η' => Rs.nx η'
    | none => .no) = _
  rw [h2]
theorem xOwn_ok {i : Nat} {F : Nv → R (D × Nv)} {η η1 : Nv} {xs : List D} (h : F η = .ok (.list xs, η1)) : xOwn i F η = .nx (η1.set i (.own ⟨true, xs⟩)) := by
  unfold xOwn
  rw [h]
  rfl
theorem frz_ok {i : Nat} {η : Nv} {xs : List D} (h : η[i]? = some (.own ⟨true, xs⟩)) : frzS i η = .nx (η.set i (.d (.list xs))) := by
  unfold frzS
  rw [h]
  rfl
theorem runK_rt {m : Nat} {G : Nv → Rs} {kx ds kx' : List D} {d : D} {η' : Nv} (η : Nv) (hi : initK m kx ds = η) (h : G η = .rt d η') (h0 : η'[(0 : Nat)]? = some (.own ⟨false, kx'⟩)) : runK m G kx ds = .ok (d, kx') := by
  subst hi
  unfold runK
  rw [h]
  show outK d η' = _
  unfold outK
  rw [h0]
  rfl
theorem runD_ex {m : Nat} {fall : R D} {G : Nv → Rs} {ds : List D} {d : D} (η : Nv) (hi : initD m ds = η) (h : ∃ η', G η = .rt d η') : runD m fall G ds = .ok d := by
  obtain ⟨η', h⟩ := h
  exact runD_rt η hi h
theorem compX_t {T : Tgt} {C : Nv → R (Bool × Nv)} {El : Nv → R (D × Nv)} {vs : List Nat} {x y : D} {xs ys : List D} {η η1 ηb ηe ηz : Nv} (h1 : T x η = some η1) (h2 : C η1 = .ok (true, ηb)) (h3 : El ηb = .ok (y, ηe)) (h4 : compX T C El vs xs (wipeE ηe vs) = .ok (ys, ηz)) : compX T C El vs (x :: xs) η = .ok (y :: ys, ηz) := by
  show (match T x η with
    | none => R.no
    | some η1 => (C η1).bindN fun b => if b.1 then (El b.2).bindN fun y => (compX T C El vs xs (wipeE y.2 vs)).bindN fun q => .ok (y.1 :: q.1, q.2) else compX T C El vs xs (wipeE b.2 vs)) = _
  rw [h1]
  show (C η1).bindN _ = _
  rw [h2]
  show (El ηb).bindN _ = _
  rw [h3]
  show (compX T C El vs xs (wipeE ηe vs)).bindN _ = _
  rw [h4]
  rfl
theorem compX_f {T : Tgt} {C : Nv → R (Bool × Nv)} {El : Nv → R (D × Nv)} {vs : List Nat} {x : D} {xs : List D} {η η1 ηb : Nv} {r : R (List D × Nv)} (h1 : T x η = some η1) (h2 : C η1 = .ok (false, ηb)) (h4 : compX T C El vs xs (wipeE ηb vs) = r) : compX T C El vs (x :: xs) η = r := by
  show (match T x η with
    | none => R.no
    | some η1 => (C η1).bindN fun b => if b.1 then (El b.2).bindN fun y => (compX T C El vs xs (wipeE y.2 vs)).bindN fun q => .ok (y.1 :: q.1, q.2) else compX T C El vs xs (wipeE b.2 vs)) = _
  rw [h1]
  show (C η1).bindN _ = _
  rw [h2]
  exact h4
theorem xComp_ok {Fi : Nv → R (List D × Nv)} {T : Tgt} {C : Nv → R (Bool × Nv)} {El : Nv → R (D × Nv)} {vs : List Nat} {η η1 ηz : Nv} {xs ys : List D} (h1 : Fi η = .ok (xs, η1)) (h2 : compX T C El vs xs (wipeE η1 vs) = .ok (ys, ηz)) (h3 : ys.length ≤ lineN) : xComp Fi T C El vs η = .ok (.list ys, ηz) := by
  unfold xComp
  rw [h1]
  show (compX T C El vs xs (wipeE η1 vs)).bindN _ = _
  rw [h2]
  show (if ys.length ≤ lineN then _ else _) = _
  rw [if_pos h3]
theorem upI_ok {F : Nv → R (List D)} {η : Nv} {d : List D} (h : F η = .ok d) : upI F η = .ok (d, η) := by
  unfold upI
  rw [h]
theorem upB_ok {F : Nv → R Bool} {η : Nv} {d : Bool} (h : F η = .ok d) : upB F η = .ok (d, η) := by
  unfold upB
  rw [h]
theorem xR1_ok {Fs : Nv → R (List D × Nv)} {η η1 : Nv} {ds xs : List D} (h1 : Fs η = .ok (ds, η1)) (h2 : rng1 ds = .ok xs) : xR1 Fs η = .ok (xs, η1) := by
  unfold xR1
  rw [h1]
  show ((rng1 ds).bind fun d => R.ok (d, η1)) = _
  rw [h2]
  rfl
/-! ### the deck -/
namespace Dk
def G_draw : Nv → Rs :=
    (seqS (ifS (andB (tb (e2 eqV' (e2 ixV (go 0) (k0 (.int 0))) (k0 (.int 0)))) (tb (e2 ltA (e2 ixV (go 0) (k0 (.int 1))) (eN lenV (aC (e2 ixV (go 0) (k0 (.int 3))) a0))))) (seqS (xPutS 0 (up (eN absV' (aC (e2 ixV (e2 ixV (go 0) (k0 (.int 3))) (e2 ixV (go 0) (k0 (.int 1)))) a0))) (k0 (.int 0)))
    (seqS (xPutS 0 (up (e2 addV (e2 ixV (go 0) (k0 (.int 1))) (k0 (.int 1)))) (k0 (.int 1)))
    .nx)) (seqS (ifS (tb (e2 eqV' (e2 ixV (go 0) (k0 (.int 0))) (k0 (.int 0)))) (seqS (xPutS 0 (up (e2 addV (e2 ixV (go 0) (k0 (.int 4))) (k0 (.int 1)))) (k0 (.int 4)))
    (seqS (setS 2 (e2 modV (eN intV (aC (e2 addV (e2 addV (e2 mulV (e2 ixV (go 0) (k0 (.int 2))) (k0 (.int 48271))) (e2 mulV (e2 ixV (go 0) (k0 (.int 4))) (k0 (.int 69621)))) (k0 (.int 12345))) a0)) (k0 (.int 2147483647))))
    (seqS (setS 2 (e2 modV (eN intV (aC (e2 addV (e2 addV (e2 mulV (gv 2) (gv 2)) (e2 mulV (k0 (.int 16807)) (e2 ixV (go 0) (k0 (.int 4))))) (k0 (.int 7))) a0)) (k0 (.int 998244353))))
    (seqS (setS 2 (e2 modV (eN intV (aC (e2 addV (e2 addV (e2 mulV (gv 2) (gv 2)) (e2 mulV (k0 (.int 48271)) (e2 ixV (go 0) (k0 (.int 4))))) (e2 ixV (go 0) (k0 (.int 2)))) a0)) (k0 (.int 2147483629))))
    (seqS (xPutS 0 (up (e2 fdivV (gv 2) (k0 (.int 13)))) (k0 (.int 0)))
    .nx))))) .nx)
    .nx))
    (seqS (setS 3 (e2 modV (eN intV (aC (e2 ixV (go 0) (k0 (.int 0))) a0)) (gv 1)))
    (seqS (xPutS 0 (up (e2 fdivV (e2 ixV (go 0) (k0 (.int 0))) (gv 1))) (k0 (.int 0)))
    (seqS (retS (gv 3))
    .nx))))
def F_draw : List D → List D → R (D × List D) := runK 4 G_draw
def G_deck : Nv → Rs :=
    (seqS (setS 1 (k0 (.int 7)))
    (seqS (forS (iA (gv 0)) (gN 2) (seqS (setS 1 (e2 modV (eN intV (aC (e2 addV (e2 mulV (gv 1) (k0 (.int 48271))) (gv 2)) a0)) (k0 (.int 2147483647))))
    .nx))
    (seqS (retS (lstV (aC (k0 (.int 0)) (aC (k0 (.int 0)) (aC (gv 1) (aC (eN listV (aC (gv 0) a0)) (aC (k0 (.int 0)) a0)))))))
    .nx)))
def F_deck : List D → R D := runD 3 .no G_deck
def mk (v p s : Int) (cells : List Int) (c : Int) : List D := [.int v, .int p, .int s, .list (cells.map PyData.int), .int c]
def Deck (kx : List D) : Prop := ∃ v p s cells c, kx = mk v p s cells c ∧ 0 ≤ v ∧ 0 ≤ p
theorem at0 (v p s : Int) (l : List Int) (c : Int) : atD (mk v p s l c) 0 = some (.int v) := rfl
theorem at1 (v p s : Int) (l : List Int) (c : Int) : atD (mk v p s l c) 1 = some (.int p) := rfl
theorem at2 (v p s : Int) (l : List Int) (c : Int) : atD (mk v p s l c) 2 = some (.int s) := rfl
theorem at3 (v p s : Int) (l : List Int) (c : Int) : atD (mk v p s l c) 3 = some (.list (l.map PyData.int)) := rfl
theorem at4 (v p s : Int) (l : List Int) (c : Int) : atD (mk v p s l c) 4 = some (.int c) := rfl
theorem put0 (v p s : Int) (l : List Int) (c y : Int) : (mk v p s l c).set 0 (.int y) = mk y p s l c := rfl
theorem put1 (v p s : Int) (l : List Int) (c y : Int) : (mk v p s l c).set 1 (.int y) = mk v y s l c := rfl
theorem put4 (v p s : Int) (l : List Int) (c y : Int) : (mk v p s l c).set 4 (.int y) = mk v p s l y := rfl
theorem abs_int (i : Int) : absV' [.int i] = some (.int (if i < 0 then -i else i)) := rfl
theorem tail_ok {v p s b c : Int} {l : List Int} {s2 s3 : Sl} (hv : 0 ≤ v) (hb : 0 < b ∧ b < 1073741824) : (seqS (setS 3 (e2 modV (eN intV (aC (e2 ixV (go 0) (k0 (.int 0))) a0)) (gv 1))) (seqS (xPutS 0 (up (e2 fdivV (e2 ixV (go 0) (k0 (.int 0))) (gv 1))) (k0 (.int 0))) (seqS (retS (gv 3)) .nx))) [.own ⟨false, mk v p s l c⟩, .d (.int b), s2, s3] = .rt (.int (v % b)) [.own ⟨false, mk (v / b) p s l c⟩, .d (.int b), s2, .d (.int (v % b))] := by
  have m : modV (.int v) (.int b) = some (.int (v % b)) := modV_int hb.1
  have q : fdivV (.int v) (.int b) = some (.int (v / b)) := fdivV_int hb
  rw [seq_nx (η1 := [.own ⟨false, mk v p s l c⟩, .d (.int b), s2, .d (.int (v % b))]) (by simp [at0, m])]
  rw [seq_nx (η1 := [.own ⟨false, mk (v / b) p s l c⟩, .d (.int b), s2, .d (.int (v % b))]) (by
    rw [xPutS_ok (xs := ⟨false, mk v p s l c⟩) (y := .int (v / b)) (j := 0) (m := 0) (up_ok (by simp [at0, q])) rfl rfl rfl]
    rfl)]
  simp
theorem draw_ok {kx : List D} {b : Int} (hk : Deck kx) (hb : 0 < b ∧ b < 1073741824) : ∃ (i : Int) (kx' : List D), Deck kx' ∧ 0 ≤ i ∧ i < b ∧ F_draw kx [.int b] = .ok (.int i, kx') := by
  obtain ⟨v, p, s, l, c, rfl, hv, hp⟩ := hk
  have key : ∀ (v' p' c' : Int) (s2 : Sl), 0 ≤ v' → 0 ≤ p' → ∀ G : Nv → Rs, (∀ η, G_draw η = seqS G (seqS (setS 3 (e2 modV (eN intV (aC (e2 ixV (go 0) (k0 (.int 0))) a0)) (gv 1))) (seqS (xPutS 0 (up (e2 fdivV (e2 ixV (go 0) (k0 (.int 0))) (gv 1))) (k0 (.int 0))) (seqS (retS (gv 3)) .nx))) η) →
      G [.own ⟨false, mk v p s l c⟩, .d (.int b), .no, .no] = .nx [.own ⟨false, mk v' p' s l c'⟩, .d (.int b), s2, .no] → ∃ (i : Int) (kx' : List D), Deck kx' ∧ 0 ≤ i ∧ i < b ∧ F_draw (mk v p s l c) [.int b] = .ok (.int i, kx') := by
    intro v' p' c' s2 h1 h2 G hG hh
    refine ⟨v' % b, mk (v' / b) p' s l c', ⟨_, _, _, _, _, rfl, Int.ediv_nonneg h1 (by omega), h2⟩, Int.emod_nonneg _ (by omega), Int.emod_lt_of_pos _ hb.1, ?_⟩
    refine runK_rt [.own ⟨false, mk v p s l c⟩, .d (.int b), .no, .no] rfl (by rw [hG, seq_nx hh, tail_ok h1 hb]) rfl
  by_cases h0 : v = 0
  · by_cases h1 : p < l.length
    · refine key (if l.getD p.toNat 0 < 0 then -l.getD p.toNat 0 else l.getD p.toNat 0) (p + 1) c .no (by split <;> omega) (by omega) _ (fun η => rfl) ?_
      subst h0
      have a : atD (l.map PyData.int) p = some (.int (l.getD p.toNat 0)) := atD_nat hp (by
        rw [List.getElem?_map, List.getElem?_eq_getElem (by omega), List.getD_eq_getElem?_getD, List.getElem?_eq_getElem (by omega)]
        rfl)
      have t : (andB (tb (e2 eqV' (e2 ixV (go 0) (k0 (.int 0))) (k0 (.int 0)))) (tb (e2 ltA (e2 ixV (go 0) (k0 (.int 1))) (eN lenV (aC (e2 ixV (go 0) (k0 (.int 3))) a0))))) [.own ⟨false, mk 0 p s l c⟩, .d (.int b), .no, .no] = .ok true := by
        simp [at0, at1, at3, eqV_int, h1]
      rw [ifS_t t]
      rw [seq_nx (η1 := [.own ⟨false, mk (if l.getD p.toNat 0 < 0 then -l.getD p.toNat 0 else l.getD p.toNat 0) p s l c⟩, .d (.int b), .no, .no]) (by
        rw [xPutS_ok (xs := ⟨false, mk 0 p s l c⟩) (y := .int (if l.getD p.toNat 0 < 0 then -l.getD p.toNat 0 else l.getD p.toNat 0)) (j := 0) (m := 0) (up_ok (by simp [at3, at1, a, abs_int, -List.getD_eq_getElem?_getD])) rfl rfl rfl]
        rfl)]
      generalize (if l.getD p.toNat 0 < 0 then -l.getD p.toNat 0 else l.getD p.toNat 0) = w
      rw [seq_nx (η1 := [.own ⟨false, mk w (p + 1) s l c⟩, .d (.int b), .no, .no]) (by
        rw [xPutS_ok (xs := ⟨false, mk w p s l c⟩) (y := .int (p + 1)) (j := 1) (m := 1) (up_ok (by simp [at1])) rfl rfl rfl]
        rfl)]
    · generalize q1 : (s * 48271 + (c + 1) * 69621 + 12345) % 2147483647 = x1
      generalize q2 : (x1 * x1 + 16807 * (c + 1) + 7) % 998244353 = x2
      generalize q3 : (x2 * x2 + 48271 * (c + 1) + s) % 2147483629 = x3
      have b1 : 0 ≤ x1 ∧ x1 < 2147483647 := by omega
      have b2 : 0 ≤ x2 ∧ x2 < 998244353 := by omega
      have b3 : 0 ≤ x3 ∧ x3 < 2147483629 := by omega
      refine key (x3 / 13) p (c + 1) (.d (.int x3)) (by omega) hp _ (fun η => rfl) ?_
      subst h0
      have t : (andB (tb (e2 eqV' (e2 ixV (go 0) (k0 (.int 0))) (k0 (.int 0)))) (tb (e2 ltA (e2 ixV (go 0) (k0 (.int 1))) (eN lenV (aC (e2 ixV (go 0) (k0 (.int 3))) a0))))) [.own ⟨false, mk 0 p s l c⟩, .d (.int b), .no, .no] = .ok false := by
        simp [at0, at1, at3, eqV_int]
        omega
      have t1 : mulV (.int s) (.int 48271) = some (.int (s * 48271)) := mulV_int (.inr (by decide))
      have t2 : mulV (.int (c + 1)) (.int 69621) = some (.int ((c + 1) * 69621)) := mulV_int (.inr (by decide))
      have t3 : mulV (.int x1) (.int x1) = some (.int (x1 * x1)) := mulV_int (.inl (by omega))
      have t4 : mulV (.int 16807) (.int (c + 1)) = some (.int (16807 * (c + 1))) := mulV_int (.inl (by decide))
      have t5 : mulV (.int x2) (.int x2) = some (.int (x2 * x2)) := mulV_int (.inl (by omega))
      have t6 : mulV (.int 48271) (.int (c + 1)) = some (.int (48271 * (c + 1))) := mulV_int (.inl (by decide))
      have m1 : ∀ z : Int, modV (.int z) (.int 2147483647) = some (.int (z % 2147483647)) := fun z => modV_int (by decide)
      have m2 : ∀ z : Int, modV (.int z) (.int 998244353) = some (.int (z % 998244353)) := fun z => modV_int (by decide)
      have m3 : ∀ z : Int, modV (.int z) (.int 2147483629) = some (.int (z % 2147483629)) := fun z => modV_int (by decide)
      have d1 : fdivV (.int x3) (.int 13) = some (.int (x3 / 13)) := fdivV_int (by decide)
      rw [ifS_f t]
      rw [seq_nx (η1 := [.own ⟨false, mk (x3 / 13) p s l (c + 1)⟩, .d (.int b), .d (.int x3), .no]) (by
        have t' : (tb (e2 eqV' (e2 ixV (go 0) (k0 (.int 0))) (k0 (.int 0)))) [.own ⟨false, mk 0 p s l c⟩, .d (.int b), .no, .no] = .ok true := by simp [at0, eqV_int]
        rw [ifS_t t']
        rw [seq_nx (η1 := [.own ⟨false, mk 0 p s l (c + 1)⟩, .d (.int b), .no, .no]) (by
          rw [xPutS_ok (xs := ⟨false, mk 0 p s l c⟩) (y := .int (c + 1)) (j := 4) (m := 4) (up_ok (by simp [at4])) rfl rfl rfl]
          rfl)]
        rw [seq_nx (η1 := [.own ⟨false, mk 0 p s l (c + 1)⟩, .d (.int b), .d (.int x1), .no]) (by simp [at2, at4, t1, t2, m1, q1]),
          seq_nx (η1 := [.own ⟨false, mk 0 p s l (c + 1)⟩, .d (.int b), .d (.int x2), .no]) (by simp [at2, at4, t3, t4, m2, q2]),
          seq_nx (η1 := [.own ⟨false, mk 0 p s l (c + 1)⟩, .d (.int b), .d (.int x3), .no]) (by simp [at2, at4, t5, t6, m3, q3])]
        rw [seq_nx (η1 := [.own ⟨false, mk (x3 / 13) p s l (c + 1)⟩, .d (.int b), .d (.int x3), .no]) (by
          rw [xPutS_ok (xs := ⟨false, mk 0 p s l (c + 1)⟩) (y := .int (x3 / 13)) (j := 0) (m := 0) (up_ok (by simp [d1])) rfl rfl rfl]
          rfl)])]
  · refine key v p c .no hv hp _ (fun η => rfl) ?_
    have t : (andB (tb (e2 eqV' (e2 ixV (go 0) (k0 (.int 0))) (k0 (.int 0)))) (tb (e2 ltA (e2 ixV (go 0) (k0 (.int 1))) (eN lenV (aC (e2 ixV (go 0) (k0 (.int 3))) a0))))) [.own ⟨false, mk v p s l c⟩, .d (.int b), .no, .no] = .ok false := by
      simp [at0, at1, at3, eqV_int, h0]
    have t' : (tb (e2 eqV' (e2 ixV (go 0) (k0 (.int 0))) (k0 (.int 0)))) [.own ⟨false, mk v p s l c⟩, .d (.int b), .no, .no] = .ok false := by simp [at0, eqV_int, h0]
    rw [ifS_f t, seqS_def, ifS_f t']
    rfl
def seedS : List Int → Int → Int
  | [], s => s
  | x :: r, s => seedS r ((s * 48271 + x) % 2147483647)
theorem deck_loop (S : D) : ∀ (ns : List Int) (s : Int) (s2 : Sl), ∃ s2', loopG (gN 2) (seqS (setS 1 (e2 modV (eN intV (aC (e2 addV (e2 mulV (gv 1) (k0 (.int 48271))) (gv 2)) a0)) (k0 (.int 2147483647)))) .nx) (ns.map PyData.int) [.d S, .d (.int s), s2] = .nx [.d S, .d (.int (seedS ns s)), s2']
  | [], s, s2 => ⟨s2, rfl⟩
  | x :: r, s, s2 => by
    obtain ⟨s2', e⟩ := deck_loop S r ((s * 48271 + x) % 2147483647) (.d (.int x))
    refine ⟨s2', ?_⟩
    have t1 : mulV (.int s) (.int 48271) = some (.int (s * 48271)) := mulV_int (.inr (by decide))
    have m1 : ∀ z : Int, modV (.int z) (.int 2147483647) = some (.int (z % 2147483647)) := fun z => modV_int (by decide)
    rw [List.map_cons, loopG_cons (η1 := [.d S, .d (.int s), .d (.int x)]) (h := rfl)]
    rw [seq_nx (η1 := [.d S, .d (.int ((s * 48271 + x) % 2147483647)), .d (.int x)]) (by simp [t1, m1])]
    exact e
theorem deck_ok (ns : List Int) : ∃ kx, Deck kx ∧ F_deck [.list (ns.map PyData.int)] = .ok (.list kx) := by
  obtain ⟨s2, e⟩ := deck_loop (.list (ns.map PyData.int)) ns 7 .no
  refine ⟨mk 0 0 (seedS ns 7) ns 0, ⟨_, _, _, _, _, rfl, by decide, by decide⟩, ?_⟩
  refine runD_ex [.d (.list (ns.map PyData.int)), .no, .no] rfl ⟨[.d (.list (ns.map PyData.int)), .d (.int (seedS ns 7)), s2], ?_⟩
  unfold G_deck
  rw [seq_nx (η1 := [.d (.list (ns.map PyData.int)), .d (.int 7), .no]) (by simp),
    seq_nx (η1 := [.d (.list (ns.map PyData.int)), .d (.int (seedS ns 7)), s2]) (by
      rw [forS_def, iA_def, gv_zero, R.ok_bind, asSeq_list, toS_ok]
      exact e)]
  simp [lineN_eq]
  rfl
end Dk
end Bd
/-! M4: sums of ascending lists of ints. -/
namespace Bd
open PySem L2

def Asc (l : List Int) : Prop := l.Pairwise (· < ·)
def notIn (b : List Int) (x : Int) : Bool := !b.any (· == x)
theorem notIn_iff {b : List Int} {x : Int} : notIn b x = true ↔ x ∉ b := by
  unfold notIn
  rw [Bool.not_eq_true', List.any_eq_false]
  exact ⟨fun h m => h x m (beq_self_eq_true x), fun h y m e => h (by rw [← eq_of_beq e]; exact m)⟩
def sumL (a b : List Int) : List Int := isort (a.filter (notIn b) ++ b.filter (notIn a))
theorem mem_sumL {a b : List Int} {x : Int} : x ∈ sumL a b ↔ (x ∈ a ∧ x ∉ b) ∨ (x ∈ b ∧ x ∉ a) := by
  unfold sumL
  rw [(isort_perm _).mem_iff, List.mem_append, List.mem_filter, List.mem_filter, notIn_iff, notIn_iff]
theorem Asc.nodup {l : List Int} (h : Asc l) : l.Nodup := h.imp fun z => by omega
theorem sumL_asc {a b : List Int} (ha : Asc a) (hb : Asc b) : Asc (sumL a b) := by
  refine asc_sort (List.nodup_append.mpr ⟨ha.nodup.filter _, hb.nodup.filter _, fun x hx y hy e => ?_⟩)
  have h1 := (List.mem_filter.mp hx).2
  have h2 := (List.mem_filter.mp hy).1
  subst e
  exact notIn_iff.mp h1 h2
theorem asc_ext : ∀ {a b : List Int}, Asc a → Asc b → (∀ x, x ∈ a ↔ x ∈ b) → a = b
  | [], [], _, _, _ => rfl
  | [], y :: b, _, _, h => absurd ((h y).mpr List.mem_cons_self) List.not_mem_nil
  | x :: a, [], _, _, h => absurd ((h x).mp List.mem_cons_self) List.not_mem_nil
  | x :: a, y :: b, ha, hb, h => by
    obtain ⟨ha1, ha2⟩ := List.pairwise_cons.mp ha
    obtain ⟨hb1, hb2⟩ := List.pairwise_cons.mp hb
    have e : x = y := by
      rcases List.mem_cons.mp ((h x).mp List.mem_cons_self) with e | m
      · exact e
      · rcases List.mem_cons.mp ((h y).mpr List.mem_cons_self) with e | m2
        · exact e.symm
        · have := hb1 x m
          have := ha1 y m2
          omega
    subst e
    rw [asc_ext ha2 hb2 fun z => ?_]
    have hz := h z
    rw [List.mem_cons, List.mem_cons] at hz
    constructor
    · intro m
      rcases hz.mp (.inr m) with e | m'
      · have := ha1 z m
        omega
      · exact m'
    · intro m
      rcases hz.mpr (.inr m) with e | m'
      · have := hb1 z m
        omega
      · exact m'
theorem sumL_comm {a b : List Int} (ha : Asc a) (hb : Asc b) : sumL a b = sumL b a := asc_ext (sumL_asc ha hb) (sumL_asc hb ha) fun x => by rw [mem_sumL, mem_sumL]; exact Or.comm
theorem sumL_assoc {a b c : List Int} (ha : Asc a) (hb : Asc b) (hc : Asc c) : sumL (sumL a b) c = sumL a (sumL b c) := asc_ext (sumL_asc (sumL_asc ha hb) hc) (sumL_asc ha (sumL_asc hb hc)) fun x => by
  simp only [mem_sumL]
  by_cases h1 : x ∈ a <;> by_cases h2 : x ∈ b <;> by_cases h3 : x ∈ c <;> simp [h1, h2, h3]
theorem sumL_nil {a : List Int} (ha : Asc a) : sumL [] a = a := asc_ext (sumL_asc .nil ha) ha fun x => by
  rw [mem_sumL]
  simp
theorem sumL_self {a : List Int} (ha : Asc a) : sumL a a = [] := asc_ext (sumL_asc ha ha) .nil fun x => by
  rw [mem_sumL]
  simp
theorem sumL_back {a b : List Int} (ha : Asc a) (hb : Asc b) : sumL (sumL a b) b = a := by
  rw [sumL_assoc ha hb hb, sumL_self hb, sumL_comm ha .nil, sumL_nil ha]
theorem fold_asc : ∀ {cs : List (List Int)} {a : List Int}, Asc a → (∀ c ∈ cs, Asc c) → Asc (cs.foldl sumL a)
  | [], _, ha, _ => ha
  | c :: cs, a, ha, h => by
    show Asc (cs.foldl sumL (sumL a c))
    exact fold_asc (sumL_asc ha (h c List.mem_cons_self)) fun d m => h d (List.mem_cons_of_mem _ m)
theorem fold_pull : ∀ {cs : List (List Int)} {a b : List Int}, Asc a → Asc b → (∀ c ∈ cs, Asc c) → cs.foldl sumL (sumL a b) = sumL a (cs.foldl sumL b)
  | [], _, _, _, _, _ => rfl
  | c :: cs, a, b, ha, hb, h => by
    have hc := h c List.mem_cons_self
    show cs.foldl sumL (sumL (sumL a b) c) = sumL a (cs.foldl sumL (sumL b c))
    rw [sumL_assoc ha hb hc, fold_pull ha (sumL_asc hb hc) fun d m => h d (List.mem_cons_of_mem _ m)]
theorem fold_rev : ∀ {cs : List (List Int)}, (∀ c ∈ cs, Asc c) → cs.reverse.foldl sumL [] = cs.foldl sumL []
  | [], _ => rfl
  | c :: cs, h => by
    have hc := h c List.mem_cons_self
    have hs : ∀ d ∈ cs, Asc d := fun d m => h d (List.mem_cons_of_mem _ m)
    rw [List.reverse_cons, List.foldl_append, fold_rev hs]
    show sumL (cs.foldl sumL []) c = cs.foldl sumL (sumL [] c)
    have e : sumL [] c = sumL c [] := sumL_comm .nil hc
    rw [e, fold_pull hc .nil hs, sumL_comm (fold_asc .nil hs) hc]
/-! ### as data -/
def tupI (l : List Int) : D := .tuple (l.map PyData.int)
theorem shaped_tup (l : List Int) : SeqAt.shaped (tupI l) = true := by
  unfold SeqAt.shaped tupI
  obtain ⟨h1, h2⟩ := ints_lay l
  simp only [PyData.canLay0, PyData.depth, h1, h2]
  rfl
theorem ints_flat : ∀ l : List Int, (l.map PyData.int).all flatD = true
  | [] => rfl
  | x :: r => by
    rw [List.map_cons, List.all_cons, ints_flat r]
    rfl
theorem notin_tup (a : Int) (l : List Int) : ninV' (.int a) (tupI l) = some (.bool (notIn l a)) := by
  show (if flatD (.int a) = true ∧ (l.map PyData.int).all flatD = true then some ((l.map PyData.int).any fun z => PyData.eqv z (.int a)) else none).map (fun b => PyData.bool !b) = _
  rw [if_pos ⟨rfl, ints_flat l⟩, any_ints]
  rfl
/-- [place for place in one if place not in other] -/
theorem pick_ok {so sp sk : Nat} {η : Nv} {a b : List Int} (h0 : gv so η = .ok (tupI a)) (h1 : ∀ x, gv sp ((wipeE η [sk]).set sk (.d x)) = .ok (tupI b)) (h2 : ∀ x, gv sk ((wipeE η [sk]).set sk (.d x)) = .ok x) (hl : a.length ≤ 16777216) :
    compE (iA (gv so)) (gN sk) (tb (e2 ninV' (gv sk) (gv sp))) (gv sk) [sk] η = .ok (.list ((a.filter (notIn b)).map PyData.int)) := by
  have ex : ((a.map PyData.int).filter fun d => match d with | .int i => notIn b i | _ => false).map id = (a.filter (notIn b)).map PyData.int := by
    rw [List.map_id, List.filter_map]
    rfl
  rw [← ex]
  refine compE_ok (xs := a.map PyData.int) (by rw [iA_def, h0]; rfl) (compD_filter (c := fun d => match d with | .int i => notIn b i | _ => false) (g := id) _ fun x m => ?_) ?_
  · obtain ⟨i, _, rfl⟩ := List.mem_map.mp m
    refine ⟨_, rfl, ?_, fun _ => ?_⟩
    · simp only [tb_def, e2_def, h1, h2, R.ok_bind, notin_tup, of_some, tru_bool]
    · simp only [h2]
      rfl
  · rw [List.length_map, lineN_eq]
    refine Nat.le_trans (List.length_filter_le _ _) ?_
    rw [List.length_map]
    exact hl
end Bd
/-! X0: the table of a set, laid anew: every slot is met, so each element finds room. -/
namespace Bd
open PySem L2

/-! ### the way through the slots -/
def lcg (m : Nat) : Nat → Nat → Nat
  | i, 0 => i
  | i, n + 1 => lcg m ((i * 5 + 1) % (m + 1)) n
def Msk (m : Nat) : Prop := m = 7 ∨ m = 15 ∨ m = 31 ∨ m = 63 ∨ m = 127 ∨ m = 255
theorem lcg_add (m : Nat) : ∀ (a b i : Nat), lcg m i (a + b) = lcg m (lcg m i a) b
  | 0, b, i => by rw [Nat.zero_add]; rfl
  | a + 1, b, i => by
    rw [Nat.add_right_comm]
    exact lcg_add m a b _
/-- the slots met, as bits -/
def orbF (m : Nat) : Nat → Nat → Nat → Nat
  | _, 0, acc => acc
  | i, n + 1, acc => orbF m ((i * 5 + 1) % (m + 1)) n (acc ||| 2 ^ i)
theorem orb_bits (m j : Nat) : ∀ (n i acc : Nat), (orbF m i n acc).testBit j = true → acc.testBit j = true ∨ ∃ k, k < n ∧ lcg m i k = j
  | 0, _, _, h => .inl h
  | n + 1, i, acc, h => by
    rcases orb_bits m j n _ _ h with h | ⟨k, hk, e⟩
    · rw [Nat.testBit_or, Bool.or_eq_true, Nat.testBit_two_pow, decide_eq_true_iff] at h
      rcases h with h | h
      · exact .inl h
      · exact .inr ⟨0, Nat.succ_pos n, h⟩
    · exact .inr ⟨k + 1, Nat.succ_lt_succ hk, e⟩
theorem orb_all {m : Nat} (h : Msk m) : orbF m 0 (m + 1) 0 = 2 ^ (m + 1) - 1 := by
  rcases h with rfl | rfl | rfl | rfl | rfl | rfl <;> decide +kernel
theorem orb_back {m : Nat} (h : Msk m) : lcg m 0 (m + 1) = 0 := by
  rcases h with rfl | rfl | rfl | rfl | rfl | rfl <;> decide +kernel
theorem orb_at {m j : Nat} (h : Msk m) (hj : j ≤ m) : ∃ n, n ≤ m ∧ lcg m 0 n = j := by
  have q := orb_bits m j (m + 1) 0 0 (by rw [orb_all h, Nat.testBit_two_pow_sub_one]; exact decide_eq_true (Nat.lt_succ_of_le hj))
  rw [Nat.zero_testBit] at q
  rcases q with q | ⟨k, hk, e⟩
  · cases q
  · exact ⟨k, Nat.le_of_lt_succ hk, e⟩
theorem lcg_meets {m i j : Nat} (h : Msk m) (hi : i ≤ m) (hj : j ≤ m) : ∃ n, n ≤ m ∧ lcg m i n = j := by
  obtain ⟨a, ha, ea⟩ := orb_at h hi
  obtain ⟨b, hb, eb⟩ := orb_at h hj
  by_cases q : a ≤ b
  · refine ⟨b - a, by omega, ?_⟩
    rw [← ea, ← lcg_add, Nat.add_sub_cancel' q, eb]
  · refine ⟨m + 1 + b - a, by omega, ?_⟩
    rw [← ea, ← lcg_add, show a + (m + 1 + b - a) = (m + 1) + b by omega, lcg_add, orb_back h, eb]
/-- the runs' first slots, with what is left of the hash -/
def lps (m : Nat) : Nat × Nat → Nat → Nat × Nat
  | s, 0 => s
  | s, n + 1 => lps m (SetTable.leap m s.1 s.2) n
theorem lps_add (m : Nat) : ∀ (a b : Nat) (s : Nat × Nat), lps m s (a + b) = lps m (lps m s a) b
  | 0, b, s => by rw [Nat.zero_add]; rfl
  | a + 1, b, s => by
    rw [Nat.add_right_comm]
    exact lps_add m a b _
theorem lps_two (m : Nat) : ∀ (n : Nat) (s : Nat × Nat), (lps m s n).2 = s.2 / 32 ^ n
  | 0, s => by rw [Nat.pow_zero, Nat.div_one]; rfl
  | n + 1, s => by
    refine (lps_two m n _).trans ?_
    show s.2 / 32 / 32 ^ n = _
    rw [Nat.div_div_eq_div_mul, Nat.pow_succ, Nat.mul_comm]
theorem lps_le (m : Nat) : ∀ (n : Nat) (s : Nat × Nat), s.1 ≤ m → (lps m s n).1 ≤ m
  | 0, s, h => h
  | n + 1, s, _ => lps_le m n _ (Nat.le_of_lt_succ (Nat.mod_lt _ (Nat.succ_pos m)))
theorem lps_zero (m : Nat) : ∀ (n i : Nat), (lps m (i, 0) n).1 = lcg m i n
  | 0, _ => rfl
  | n + 1, i => by
    have e : SetTable.leap m i 0 = ((i * 5 + 1) % (m + 1), 0) := by
      unfold SetTable.leap
      simp
    show (lps m (SetTable.leap m i 0) n).1 = lcg m ((i * 5 + 1) % (m + 1)) n
    rw [e]
    exact lps_zero m n _
theorem lps_meets {m i p j : Nat} (h : Msk m) (hi : i ≤ m) (hp : p < 2 ^ 64) (hj : j ≤ m) : ∃ n, n < SetTable.turns m ∧ (lps m (i, p) n).1 = j := by
  have z : (lps m (i, p) 13).2 = 0 := by
    rw [lps_two]
    exact Nat.div_eq_of_lt (Nat.lt_of_lt_of_le hp (by decide))
  obtain ⟨n, hn, e⟩ := lcg_meets h (lps_le m 13 (i, p) hi) hj
  refine ⟨13 + n, by unfold SetTable.turns; omega, ?_⟩
  have e2 : lps m (i, p) 13 = ((lps m (i, p) 13).1, 0) := Prod.ext rfl z
  rw [lps_add, e2, lps_zero]
  exact e

/-! ### a free slot is found -/
abbrev sitAt (owner : Array (Option Nat)) (j : Nat) : Option Nat := owner.getD j (some 0)
theorem run_ge (m i : Nat) : i ≤ SetTable.runEnd m i := by
  unfold SetTable.runEnd
  split <;> omega
theorem free_some (m : Nat) (owner : Array (Option Nat)) : ∀ (n fuel i p : Nat), n < fuel → sitAt owner (lps m (i, p) n).1 = none → ∃ j, SetTable.layClean.free m owner fuel i p = some j ∧ sitAt owner j = none
  | _, 0, _, _, h, _ => absurd h (Nat.not_lt_zero _)
  | n, fuel + 1, i, p, h, q => by
    have u : SetTable.layClean.free m owner (fuel + 1) i p = (match (List.range (SetTable.runEnd m i + 1 - i)).find? fun k => (sitAt owner (i + k)).isNone with
      | some k => some (i + k)
      | none => SetTable.layClean.free m owner fuel (SetTable.leap m i p).1 (SetTable.leap m i p).2) := rfl
    rw [u]
    cases c : (List.range (SetTable.runEnd m i + 1 - i)).find? fun k => (sitAt owner (i + k)).isNone with
    | some k =>
      refine ⟨i + k, rfl, ?_⟩
      have t := List.find?_some c
      exact Option.isNone_iff_eq_none.mp t
    | none =>
      cases n with
      | zero =>
        have t := List.find?_eq_none.mp c 0 (List.mem_range.mpr (by have := run_ge m i; omega))
        have q' : sitAt owner i = none := q
        rw [Nat.add_zero, q'] at t
        exact absurd rfl t
      | succ n => exact free_some m owner n fuel _ _ (Nat.lt_of_succ_lt_succ h) q

/-! ### the elements, one after another -/
structure Sits (m k : Nat) (owner : Array (Option Nat)) : Prop where
  sz : owner.size = m + 1
  pm : (owner.toList.filterMap id).Perm (List.range k)
theorem sits_0 (m : Nat) : Sits m 0 (Array.replicate (m + 1) none) := by
  refine ⟨by simp, ?_⟩
  have e : ((Array.replicate (m + 1) (none : Option Nat)).toList.filterMap id) = [] := by
    rw [Array.toList_replicate, List.filterMap_eq_nil_iff]
    intro a ha
    exact (List.eq_of_mem_replicate ha)
  rw [e]
  exact List.Perm.refl _
theorem fm_full : ∀ (l : List (Option Nat)), (∀ x ∈ l, x ≠ none) → (l.filterMap id).length = l.length
  | [], _ => rfl
  | none :: l, h => absurd rfl (h none List.mem_cons_self)
  | some k :: l, h => by
    show (l.filterMap id).length + 1 = l.length + 1
    rw [fm_full l fun x hx => h x (List.mem_cons_of_mem _ hx)]
theorem sits_room {m k : Nat} {owner : Array (Option Nat)} (W : Sits m k owner) (hk : k ≤ m) : ∃ j, j ≤ m ∧ sitAt owner j = none := by
  apply Classical.byContradiction
  intro no
  have full : ∀ x ∈ owner.toList, x ≠ none := fun x hx z => by
    obtain ⟨j, hj, e⟩ := List.mem_iff_getElem.mp hx
    have hj' : j < owner.size := hj
    refine no ⟨j, by rw [W.sz] at hj'; omega, ?_⟩
    show owner.getD j (some 0) = none
    rw [Array.getD_eq_getD_getElem?, Array.getElem?_eq_getElem hj']
    exact e.trans z
  have a := fm_full _ full
  rw [W.pm.length_eq, List.length_range, Array.length_toList, W.sz] at a
  omega
theorem fm_set : ∀ (l : List (Option Nat)) (j k : Nat), l[j]? = some none → ((l.set j (some k)).filterMap id).Perm (k :: l.filterMap id)
  | [], _, _, h => by cases h
  | x :: l, 0, k, h => by
    have e : x = none := Option.some.inj h
    subst e
    exact List.Perm.refl _
  | none :: l, j + 1, k, h => fm_set l j k h
  | some x :: l, j + 1, k, h => by
    show (x :: ((l.set j (some k)).filterMap id)).Perm (k :: x :: l.filterMap id)
    exact ((fm_set l j k h).cons x).trans (List.Perm.swap k x _)
theorem sits_put {m k j : Nat} {owner : Array (Option Nat)} (W : Sits m k owner) (h : sitAt owner j = none) : Sits m (k + 1) (owner.setIfInBounds j (some k)) := by
  refine ⟨by rw [Array.size_setIfInBounds]; exact W.sz, ?_⟩
  rw [Array.toList_setIfInBounds, List.range_succ]
  have e : owner.toList[j]? = some none := by
    have h' : owner.getD j (some 0) = none := h
    rw [Array.getD_eq_getD_getElem?] at h'
    rw [Array.getElem?_toList]
    cases c : owner[j]? with
    | none => rw [c] at h'; cases h'
    | some x =>
      rw [c] at h'
      exact congrArg some h'
  exact ((fm_set _ j k e).trans (W.pm.cons k)).trans (List.perm_append_singleton k _).symm
def layStep (m : Nat) (acc : Option (Array (Option Nat) × Nat)) (h : Int) : Option (Array (Option Nat) × Nat) :=
  acc.bind fun q => (SetTable.layClean.free m q.1 (SetTable.turns m) (SetTable.bits h % (m + 1)) (SetTable.bits h)).bind fun j => some (q.1.setIfInBounds j (some q.2), q.2 + 1)
theorem lay_fold (m : Nat) (hs : Array Int) : SetTable.layClean m hs = (hs.toList.foldl (layStep m) (some (Array.replicate (m + 1) none, 0))).map (·.1) := by
  unfold SetTable.layClean
  rw [← Array.foldl_toList]
  rfl
theorem bits_lt (h : Int) : SetTable.bits h < 2 ^ 64 := by
  unfold SetTable.bits
  omega
theorem lay_ok {m : Nat} (hm : Msk m) : ∀ (hs : List Int) (k : Nat) (owner : Array (Option Nat)), Sits m k owner → k + hs.length ≤ m →
    ∃ owner', hs.foldl (layStep m) (some (owner, k)) = some (owner', k + hs.length) ∧ Sits m (k + hs.length) owner'
  | [], k, owner, W, _ => ⟨owner, rfl, W⟩
  | h :: hs, k, owner, W, hl => by
    rw [List.length_cons] at hl ⊢
    obtain ⟨j0, a, b⟩ := sits_room W (by omega)
    obtain ⟨n, hn, e⟩ := lps_meets (i := SetTable.bits h % (m + 1)) hm (Nat.le_of_lt_succ (Nat.mod_lt _ (Nat.succ_pos m))) (bits_lt h) a
    obtain ⟨j, f, g⟩ := free_some m owner n (SetTable.turns m) (SetTable.bits h % (m + 1)) (SetTable.bits h) hn (by rw [e]; exact b)
    obtain ⟨o', r1, r2⟩ := lay_ok hm hs (k + 1) _ (sits_put W g) (by omega)
    refine ⟨o', ?_, by rw [show k + (hs.length + 1) = k + 1 + hs.length by omega]; exact r2⟩
    rw [List.foldl_cons]
    have s : layStep m (some (owner, k)) h = some (owner.setIfInBounds j (some k), k + 1) := by
      show (SetTable.layClean.free m owner (SetTable.turns m) (SetTable.bits h % (m + 1)) (SetTable.bits h)).bind _ = _
      rw [f]
      rfl
    rw [s, r1, show k + (hs.length + 1) = k + 1 + hs.length by omega]
theorem live_two (owner : Array (Option Nat)) : ∀ (l : List Nat), ((l.filterMap fun j => (owner.getD j none).map (j, ·)).map (·.2)) = (l.map fun j => owner.getD j none).filterMap id
  | [] => rfl
  | j :: l => by
    have ih := live_two owner l
    cases c : owner.getD j none with
    | none =>
      rw [List.filterMap_cons_none (by rw [c]; rfl), List.map_cons, List.filterMap_cons_none (by rw [c]; rfl)]
      exact ih
    | some k =>
      rw [List.filterMap_cons_some (b := (j, k)) (by rw [c]; rfl), List.map_cons, List.map_cons, List.filterMap_cons_some (b := k) (by rw [c]; rfl), ih]
theorem all_slots {owner : Array (Option Nat)} {m : Nat} (h : owner.size = m + 1) : ((List.range (m + 1)).map fun j => owner.getD j none) = owner.toList := by
  apply List.ext_getElem?
  intro i
  rw [List.getElem?_map, show owner.toList[i]? = owner[i]? from Array.getElem?_toList]
  by_cases q : i < m + 1
  · rw [List.getElem?_range q, Array.getElem?_eq_getElem (show i < owner.size by omega)]
    show some (owner.getD i none) = _
    rw [Array.getD_eq_getD_getElem?, Array.getElem?_eq_getElem (show i < owner.size by omega)]
    rfl
  · rw [List.getElem?_eq_none (show (List.range (m + 1)).length ≤ i by rw [List.length_range]; omega), Array.getElem?_eq_none (show owner.size ≤ i by omega)]
    rfl
/-- THE TABLE, laid anew, holds all -/
theorem laid_ok {m : Nat} (hm : Msk m) (fi mo : Nat) (le pl : Bool) (hs : Array Int) (hn : hs.size ≤ m) :
    ∃ t order, SetTable.laid m fi mo le pl hs = some (t, order) ∧ order.toList.Perm (List.range hs.size) ∧ Ris t.place.toList ∧ t.place.size = hs.size ∧ t.fill ≤ t.mask ∧ t.led = le := by
  obtain ⟨owner, f, W⟩ := lay_ok hm hs.toList 0 _ (sits_0 m) (by rw [Array.length_toList]; omega)
  rw [Nat.zero_add, Array.length_toList] at f W
  have lc : SetTable.layClean m hs = some owner := by rw [lay_fold, f]; rfl
  refine ⟨{ mask := m, place := (((List.range (m + 1)).filterMap fun j => (owner.getD j none).map (j, ·)).map (·.1)).toArray, dummies := #[], finger := fi, led := le, moves := mo, plain := pl }, (((List.range (m + 1)).filterMap fun j => (owner.getD j none).map (j, ·)).map (·.2)).toArray, ?_, ?_, ?_, ?_, ?_, rfl⟩
  · unfold SetTable.laid
    rw [lc]
    rfl
  · show (((List.range (m + 1)).filterMap fun j => (owner.getD j none).map (j, ·)).map (·.2)).Perm _
    rw [live_two, all_slots W.sz]
    exact W.pm
  · exact (ris_live (fun j => owner.getD j none) (List.range (m + 1)) List.pairwise_lt_range).1
  · rw [List.size_toArray, List.length_map, ← List.length_map (f := fun q : Nat × Nat => q.2), live_two, all_slots W.sz, W.pm.length_eq, List.length_range]
  · show (((List.range (m + 1)).filterMap fun j => (owner.getD j none).map (j, ·)).map (·.1)).toArray.size + 0 ≤ m
    rw [List.size_toArray, List.length_map, ← List.length_map (f := fun q : Nat × Nat => q.2), live_two, all_slots W.sz, W.pm.length_eq, List.length_range]
    omega
theorem pick_list {α : Type} : ∀ l : List α, (List.range l.length).filterMap (fun i => l[i]?) = l
  | [] => rfl
  | a :: l => by
    rw [List.length_cons, List.range_succ_eq_map]
    show a :: ((List.range l.length).map Nat.succ).filterMap (fun i => (a :: l)[i]?) = a :: l
    rw [List.filterMap_map]
    exact congrArg (a :: ·) (pick_list l)
theorem pick_all {α : Type} (es : Array α) (order : Array Nat) (h : order.toList.Perm (List.range es.size)) : ((order.filterMap (es[·]?)).toList).Perm es.toList := by
  rw [Array.toList_filterMap]
  refine (h.filterMap _).trans ?_
  have e : (fun i => es[i]?) = fun i => es.toList[i]? := funext fun i => (Array.getElem?_toList).symm
  rw [e, show es.size = es.toList.length from rfl, pick_list]
theorem sizeAbove_msk {n : Nat} (h : n < 256) : Msk (SetTable.sizeAbove n - 1) ∧ n < SetTable.sizeAbove n := by
  have k : ∀ n, n < 256 → (SetTable.sizeAbove n - 1 = 7 ∨ SetTable.sizeAbove n - 1 = 15 ∨ SetTable.sizeAbove n - 1 = 31 ∨ SetTable.sizeAbove n - 1 = 63 ∨ SetTable.sizeAbove n - 1 = 127 ∨ SetTable.sizeAbove n - 1 = 255) ∧ n < SetTable.sizeAbove n := by decide +kernel
  exact k n h
end Bd
/-! X1: s ^ t of two sets of ints. -/
namespace Bd
open PySem L2 PySem.Spec PyProof.Rows

/-- the set at a as it stands: its parts -/
structure SetS (w : World) (h : Heap) (a : Addr) (o : Obj) (es : Array (Int × Value)) (ep : Nat) (t : SetTable) : Prop where
  ob : h.get? a = some o
  ex : o.ExactSet
  da : o.data = .set es ep t
  gd : ∀ e ∈ es.toList, GoodE e
  nd : (es.toList.map keyOf).Nodup
  sb : es.size < scanBound
  ft : t.fits es.size = true
  ri : Ris t.place.toList
  ld : w.params.followText "set-order" = true ∨ t.led = true
/-- its members -/
def mem (es : Array (Int × Value)) (k : Int) : Bool := decide (k ∈ es.toList.map keyOf)
section
variable {P : Program} {w : World} {A : Around} {E : Value → Shared → Prop} {s : Shared} {a f : Addr} {o og : Obj} {es ef : Array (Int × Value)} {ep epf : Nat} {t tf : SetTable}
theorem SetS.r (R : SetS w s.heap a o es ep t) {S : Int → Bool} (hS : ∀ k, S k = mem es k) : SetR w s.heap a S es.size :=
  ⟨o, es, ep, t, R.ob, R.ex, R.da, R.gd, R.nd, fun k => by rw [hS]; exact decide_eq_true_iff, R.sb, R.ft, rfl, R.ri, R.ld⟩
theorem SetS.of {S : Int → Bool} {n : Nat} {h : Heap} (R : SetR w h a S n) : ∃ o es ep t, SetS w h a o es ep t ∧ es.size = n ∧ ∀ k, S k = mem es k := by
  obtain ⟨o, es, ep, t, h1, h2, h3, h4, h5, h6, h7, h8, h9, h10, h11⟩ := R
  refine ⟨o, es, ep, t, ⟨h1, h2, h3, h4, h5, h7, h8, h10, h11⟩, h9, fun k => ?_⟩
  rw [Bool.eq_iff_iff, h6 k]
  exact decide_eq_true_iff.symm
theorem SetS.at (R : SetS w s.heap a o es ep t) {h : Heap} (e : h.get? a = s.heap.get? a) : SetS w h a o es ep t := { R with ob := e.trans R.ob }
theorem SetS.lt (R : SetS w s.heap a o es ep t) : a < s.heap.objs.size := Heap.lt_size R.ob
theorem SetS.ty (R : SetS w s.heap a o es ep t) : s.TypeIs (.ref a) "set" := ⟨o, R.ob, R.ex.1⟩

/-! ### one taken out -/
theorem erase_list {α : Type} (xs : Array α) (p : Nat) : (SetTable.eraseAt xs p).toList = xs.toList.eraseIdx p := by
  unfold SetTable.eraseAt
  rw [Array.toList_append, Array.toList_extract, Array.toList_extract, List.eraseIdx_eq_take_drop_succ]
  simp
  rw [List.take_of_length_le]
  rw [List.length_drop, Array.length_toList]
  exact Nat.le_refl _
theorem insert_size {α : Type} (xs : Array α) (p : Nat) (x : α) : (SetTable.insertAt xs p x).size = xs.size + 1 := by
  unfold SetTable.insertAt
  simp
  omega
theorem ris_erase {l : List Nat} (r : Ris l) (p : Nat) : Ris (l.eraseIdx p) := List.Pairwise.sublist (List.eraseIdx_sublist l p) r
theorem fits_iff {t : SetTable} {n : Nat} : t.fits n = true ↔ t.place.size = n ∧ t.fill ≤ t.mask := by
  unfold SetTable.fits
  rw [Bool.and_eq_true, beq_iff_eq, decide_eq_true_iff]
theorem drop_facts {t : SetTable} {n i : Nat} (hf : t.fits n = true) (hi : i < n) : (t.drop i).fits (n - 1) = true ∧ (t.drop i).place.toList = t.place.toList.eraseIdx i ∧ (t.drop i).led = t.led := by
  obtain ⟨h1, h2⟩ := fits_iff.mp hf
  have hp : t.place[i]? = some t.place[i] := Array.getElem?_eq_getElem (by omega)
  unfold SetTable.drop
  rw [hp]
  refine ⟨fits_iff.mpr ⟨?_, ?_⟩, erase_list _ _, rfl⟩
  · show (SetTable.eraseAt t.place i).size = n - 1
    rw [← Array.length_toList, erase_list, List.length_eraseIdx, Array.length_toList, if_pos (by omega), h1]
  · show (SetTable.eraseAt t.place i).size + (SetTable.insertAt t.dummies _ _).size ≤ t.mask
    have h2' : t.place.size + t.dummies.size ≤ t.mask := h2
    rw [insert_size, ← Array.length_toList, erase_list, List.length_eraseIdx, Array.length_toList, if_pos (by omega)]
    omega
theorem key_uniq {l : List (Int × Value)} (nd : (l.map keyOf).Nodup) {i : Nat} {e : Int × Value} (h : l[i]? = some e) (k : Int) : k ∈ (l.eraseIdx i).map keyOf ↔ k ∈ l.map keyOf ∧ k ≠ keyOf e := by
  have p := erase_perm l i e h
  have q := (p.map keyOf).mem_iff (a := k)
  have nd2 : (keyOf e :: (l.eraseIdx i).map keyOf).Nodup := (p.map keyOf).nodup_iff.mpr nd
  have n3 := (List.nodup_cons.mp nd2).1
  rw [List.map_cons, List.mem_cons] at q
  constructor
  · intro z
    exact ⟨q.mp (.inr z), fun y => n3 (y ▸ z)⟩
  · rintro ⟨z, y⟩
    exact (q.mpr z).resolve_left y
theorem setS_discard {k : Int} {tk : Tok} {Q : Bool → Shared → Prop} (R : SetS w s.heap a o es ep t)
    (hQ : ∀ h' o' es' ep' t', Heap.SameBut a s.heap h' → SetS w h' a o' es' ep' t' → (∀ j, mem es' j = (mem es j && !decide (j = k))) → es'.size ≤ es.size → Q (mem es k) { s with heap := h' }) :
    wpAny (model P w) A (setDiscardHashed a (.int k tk) ((intKind P w).hash k)) Q E s := by
  have hel : ElemsOf (intKind P w) es.toList := good_elems R.gd
  have sc : (Value.int k tk).scannable = true := rfl
  unfold setDiscardHashed
  refine wpAny_bind ?_
  unfold setFind setFindIn
  refine wpAny_bind (wpAny_setState_of R.ob R.da R.ft ?_)
  dsimp only
  rw [byScan_of sc R.sb hel]
  simp only [↓reduceIte]
  refine wpAny_bind (wpAny_rule (wpAny_bind (wpAny_setScan_of (intKind_is P w k tk) R.ob R.da R.ft hel ?_)))
  cases c : List.findIdx? (fun e => (intKind P w).is k e.2) es.toList with
  | none =>
    have no : mem es k = false := by
      unfold mem
      refine decide_eq_false fun z => ?_
      obtain ⟨e, he, q⟩ := (good_mem (P := P) (w := w) R.gd k).1 z
      have := List.findIdx?_eq_none_iff.mp c e he
      rw [q] at this
      cases this
    dsimp only
    refine wpAny_pure (wpAny_pure ?_)
    have q := hQ s.heap o es ep t (Heap.SameBut.refl a s.heap) R (fun j => by
      by_cases z : j = k
      · subst z; rw [no]; rfl
      · rw [decide_eq_false z]; simp) (Nat.le_refl _)
    rw [no] at q
    exact q
  | some j =>
    obtain ⟨hj, pj, _⟩ := List.findIdx?_eq_some_iff_getElem.mp c
    have gj := R.gd _ (List.getElem_mem hj)
    have kj : keyOf es.toList[j] = k := (good_is (P := P) (w := w) gj k).1 pj
    have yes : mem es k = true := decide_eq_true (List.mem_map.mpr ⟨_, List.getElem_mem hj, kj⟩)
    have hj' : j < es.size := hj
    obtain ⟨f1, f2, f3⟩ := drop_facts R.ft hj'
    dsimp only
    rw [Nat.zero_add]
    refine wpAny_pure ?_
    dsimp only
    refine wpAny_bind (wpAny_setState_of R.ob R.da R.ft ?_)
    dsimp only
    have el := erase_list es j
    have sz : (SetTable.eraseAt es j).size = es.size - 1 := by
      rw [← Array.length_toList, el, List.length_eraseIdx, if_pos hj, Array.length_toList]
    have lt' : (SetTable.eraseAt es j).size < scanBound := by
      have := R.sb
      omega
    refine wpAny_bind (wpAny_storeSet_of R.ob R.da ?_ (fits_of_scanBound lt'))
    refine wpAny_bind (wpAny_point (wpAny_pure ?_))
    have q := hQ _ _ (SetTable.eraseAt es j) _ (t.drop j) (Heap.SameBut.update s.heap a (Obj.putSet (SetTable.eraseAt es j) (t.drop j)))
      ⟨store_at (es' := SetTable.eraseAt es j) (t' := t.drop j) R.ob R.da, R.ex, rfl, fun e he => R.gd e (List.mem_of_mem_eraseIdx (by rw [el] at he; exact he)),
        by rw [el]; exact List.Pairwise.sublist ((List.eraseIdx_sublist _ _).map keyOf) R.nd, lt', by rw [sz]; exact f1, by rw [f2]; exact ris_erase R.ri j, R.ld.imp id fun z => by rw [f3]; exact z⟩
      (fun i => by
        unfold mem
        rw [el, Bool.eq_iff_iff, decide_eq_true_iff, key_uniq R.nd (List.getElem?_eq_getElem hj) i, kj]
        simp) (by omega)
    rw [yes] at q
    exact q
theorem setS_add {k : Int} {tk : Tok} {Q : Bool → Shared → Prop} (R : SetS w s.heap a o es ep t) (room : es.size + 1 < scanBound)
    (hQ : ∀ b h' o' es' ep' t', Heap.SameBut a s.heap h' → SetS w h' a o' es' ep' t' → (∀ j, mem es' j = (mem es j || decide (j = k))) → es'.size ≤ es.size + 1 → Q b { s with heap := h' }) :
    wpAny (model P w) A (setAddHashed a (.int k tk) ((intKind P w).hash k)) Q E s := by
  refine setR_add_hashed (R.r (S := mem es) fun _ => rfl) room fun h' sb R' => ?_
  obtain ⟨o', es', ep', t', R2, z, m⟩ := SetS.of R'
  refine hQ _ h' o' es' ep' t' sb R2 (fun j => (m j).symm) ?_
  rw [z]
  split <;> omega

/-! ### the walk over one set while another one is filled -/
theorem wk_walk {Q : Array (Int × Value) → Shared → Prop} (R : SetS w s.heap a o es ep t)
    (hQ : ∀ out d, out.toList.Perm es.toList → Q out { s with drawn := d }) : wpAny (model P w) A (setWalk a) Q E s := by
  unfold setWalk
  refine wpAny_bind (wpAny_setState_of R.ob R.da R.ft ?_)
  dsimp only
  refine wpAny_bind (wpAny_byText ?_)
  by_cases bt : w.params.followText "set-order" = true
  · refine wp_if_pos bt ?_
    exact wpAny_bind (wpAny_askSetting (wpAny_pure (hQ _ s.drawn (pick_perm _ _))))
  · refine wp_if_neg bt ?_
    try refine wpAny_bind (wpAny_pure ?_)
    by_cases dr : (!t.plain && decide (es.size > 1)) = true
    · refine wp_if_pos dr ?_
      exact wpAny_bind (drawOrder_at _ _ _ _ (Nat.le_of_eq Array.length_toList) fun ys d p => wpAny_pure (hQ _ d p))
    · refine wp_if_neg dr ?_
      try refine wpAny_bind (wpAny_pure ?_)
      refine wpAny_bind (wpAny_of_eq (a := ()) ?_ (wpAny_pure (hQ _ s.drawn (List.Perm.refl _))))
      show (if (!t.led && decide (es.size > 1)) = true then unsupported "set:maker-not-led" else pure ()) = pure ()
      rw [R.ld.resolve_left bt]
      rfl
theorem quiet_ints {Q : Bool → Shared → Prop} (R : SetS w s.heap a o es ep t) (R2 : SetS w s.heap f og ef epf tf) (h : Q true s) : wpAny (model P w) A (setsQuiet [a, f]) Q E s := by
  have one : ∀ {b : Addr} {ob : Obj} {eb : Array (Int × Value)} {epb : Nat} {tb : SetTable} {Q' : Array (Int × Value) → Shared → Prop}, SetS w s.heap b ob eb epb tb → Q' eb s → wpAny (model P w) A (setEntries b) Q' E s := fun R q => by
    unfold setEntries
    exact wpAny_bind (wpAny_setState_of R.ob R.da R.ft (wpAny_pure q))
  unfold setsQuiet
  refine wpAny_bind (wpAny_forIn_list _ (fun l r s' => (l = [a, f] ∨ l = [f] ∨ l = []) ∧ s' = s ∧ r.1 = none) _ ?_ ?_ _ _ ⟨.inl rfl, rfl, rfl⟩)
  · rintro b rest r s' ⟨hl, rfl, hr⟩
    have k : ∃ ob eb epb tb, SetS w s'.heap b ob eb epb tb ∧ (rest = [f] ∨ rest = []) := by
      rcases hl with hl | hl | hl
      · obtain ⟨rfl, rfl⟩ := List.cons.inj hl
        exact ⟨_, _, _, _, R, .inl rfl⟩
      · obtain ⟨rfl, rfl⟩ := List.cons.inj hl
        exact ⟨_, _, _, _, R2, .inr rfl⟩
      · cases hl
    obtain ⟨ob, eb, epb, tb, Rb, hrest⟩ := k
    refine wpAny_bind (one Rb ?_)
    refine wpAny_bind (wpAny_forIn_array' _ (fun l r s'' => (∀ e ∈ l, GoodE e) ∧ s'' = s' ∧ r.1 = none) _ ?_ ?_ _ _ ⟨Rb.gd, rfl, rfl⟩)
    · rintro ⟨hh, x⟩ rest r s'' ⟨g, rfl, hr⟩
      obtain ⟨k, tk, h1, _⟩ := g _ List.mem_cons_self
      simp only at h1
      subst h1
      exact wpAny_pure ⟨fun e he => g e (List.mem_cons_of_mem _ he), rfl, rfl⟩
    · rintro ⟨r1, r2⟩ s'' ⟨_, rfl, hr⟩
      simp only at hr
      subst hr
      exact wpAny_pure ⟨.inr hrest, rfl, rfl⟩
  · rintro ⟨r1, r2⟩ s' ⟨_, rfl, hr⟩
    simp only at hr
    subst hr
    exact wpAny_pure h
theorem wk_unseen {Q : Array (Int × Value) → Shared → Prop} (R : SetS w s.heap a o es ep t) (R2 : SetS w s.heap f og ef epf tf) (hne : a ≠ f)
    (hQ : ∀ out d h' og' epf' tf', out.toList.Perm es.toList → Heap.SameBut f s.heap h' → SetS w h' f og' ef epf' tf' → Q out { s with heap := h', drawn := d }) :
    wpAny (model P w) A (setWalkUnseen a [f] (some f)) Q E s := by
  have straight : wpAny (model P w) A (setWalk a) Q E s := wk_walk R fun out d p => hQ out d s.heap og epf tf p (Heap.SameBut.refl f s.heap) R2
  unfold setWalkUnseen
  refine wpAny_bind (wpAny_setState_of R.ob R.da R.ft ?_)
  dsimp only
  refine wpAny_bind (wpAny_byText ?_)
  by_cases c : (w.params.followText "set-order" || (t.led && t.plain) || decide (es.size ≤ 1)) = true
  · exact wp_if_pos c straight
  · refine wp_if_neg c ?_
    try refine wpAny_bind (wpAny_pure ?_)
    refine wpAny_bind (quiet_ints R R2 ?_)
    refine wp_if_neg (by simp) ?_
    try refine wpAny_bind (wpAny_pure ?_)
    refine wpAny_bind (wpAny_rule ?_)
    refine wpAny_bind (m := setState f) (wpAny_setState_of R2.ob R2.da R2.ft ?_)
    dsimp only
    by_cases d : ((tf.led && !t.led) || (tf.plain && !t.plain)) = true
    · refine wp_if_pos d ?_
      refine wpAny_bind (wpAny_storeSet_of R2.ob R2.da ?_ (fits_of_scanBound R2.sb))
      refine wpAny_pure ?_
      refine hQ es s.drawn _ _ _ _ (List.Perm.refl _) (Heap.SameBut.update s.heap f _) ⟨store_at R2.ob R2.da, R2.ex, rfl, R2.gd, R2.nd, R2.sb, R2.ft, R2.ri, ?_⟩
      rcases R2.ld with z | z
      · exact .inl z
      · rcases R.ld with y | y
        · exact .inl y
        · exact .inr (by show (tf.led && t.led) = true; rw [z, y]; rfl)
    · refine wp_if_neg d ?_
      try refine wpAny_bind (wpAny_pure ?_)
      exact wpAny_pure (hQ es s.drawn s.heap _ _ _ (List.Perm.refl _) (Heap.SameBut.refl f s.heap) R2)
end
end Bd
/-! X2: s ^ t of two sets of ints: the copy of the one, the other's members turned. -/
namespace Bd
open PySem L2 PySem.Spec PyProof.Rows

section
variable {P : Program} {w : World} {A : Around} {E : Value → Shared → Prop} {s : Shared} {a f : Addr} {o og : Obj} {es ef : Array (Int × Value)} {ep epf : Nat} {t tf : SetTable}

theorem is_set {Q : Bool → Shared → Prop} (R : SetS w s.heap a o es ep t) (h : Q true s) : wpAny (model P w) A (Builtin.Frozenset.isAnySet (.ref a)) Q E s := by
  unfold Builtin.Frozenset.isAnySet orM
  refine wpAny_bind (wpAny_isInstance R.ty sub_set_self ?_)
  exact wpAny_pure h
theorem at_epoch {Q : Nat → Shared → Prop} (R : SetS w s.heap a o es ep t) (h : Q ep s) : wpAny (model P w) A (setEpoch a) Q E s := by
  unfold setEpoch
  exact wpAny_bind (wpAny_setState_of R.ob R.da R.ft (wpAny_pure h))
theorem no_change {id : String} {Q : Unit → Shared → Prop} (R : SetS w s.heap a o es ep t) (h : Q () s) : wpAny (model P w) A (Builtin.Frozenset.unchanged id a ep) Q E s := by
  unfold Builtin.Frozenset.unchanged
  refine wpAny_bind (at_epoch R ?_)
  refine wp_if_neg (by simp) ?_
  exact wpAny_pure h
/-- the elements in a new order -/
def reord (es : Array (Int × Value)) (laid : Option (SetTable × Array Nat)) : Sem (Array (Int × Value) × SetTable) := do
  let some (t, order) := laid | unsupported "internal:set-table-without-room"
  let es' := order.filterMap (es[·]?)
  if es'.size != es.size then unsupported "internal:set-table-lost-an-element"
  pure (es', t)
theorem reord_ok {m : Nat} (hm : Msk m) (fi mo : Nat) (le pl : Bool) (hn : es.size ≤ m) {Q : Array (Int × Value) × SetTable → Shared → Prop}
    (h : ∀ es' t', es'.toList.Perm es.toList → t'.fits es'.size = true → Ris t'.place.toList → t'.led = le → Q (es', t') s) :
    wpAny (model P w) A (reord es (SetTable.laid m fi mo le pl (es.map (·.1)))) Q E s := by
  obtain ⟨t', order, e, p, r, z, fl, l⟩ := laid_ok hm fi mo le pl (es.map (·.1)) (by rw [Array.size_map]; exact hn)
  rw [Array.size_map] at p z
  have q := pick_all es order p
  have sz : (order.filterMap (es[·]?)).size = es.size := by
    have := q.length_eq
    rw [Array.length_toList, Array.length_toList] at this
    exact this
  unfold reord
  rw [e]
  dsimp only
  refine wp_if_neg (by rw [sz]; simp) ?_
  try refine wpAny_bind (wpAny_pure ?_)
  exact wpAny_pure (h _ t' q (fits_iff.mpr ⟨by rw [z, sz], fl⟩) r l)
theorem perm_facts {es es' : Array (Int × Value)} (p : es'.toList.Perm es.toList) (R : SetS w s.heap a o es ep t) :
    (∀ e ∈ es'.toList, GoodE e) ∧ (es'.toList.map keyOf).Nodup ∧ es'.size < scanBound ∧ ∀ j, mem es' j = mem es j := by
  refine ⟨fun e he => R.gd e (p.mem_iff.mp he), (p.map keyOf).nodup_iff.mpr R.nd, ?_, fun j => ?_⟩
  · have := p.length_eq
    rw [Array.length_toList, Array.length_toList] at this
    rw [this]
    exact R.sb
  · unfold mem
    rw [Bool.eq_iff_iff, decide_eq_true_iff, decide_eq_true_iff, (p.map keyOf).mem_iff]

/-- room in an empty set -/
theorem room_0 {Q : Unit → Shared → Prop} {n : Nat} (hn : n < 128) {led : Bool} (R : SetS w s.heap f og #[] epf (.fresh 0 0 led))
    (hQ : ∀ h' og' epf' tf', Heap.SameBut f s.heap h' → SetS w h' f og' #[] epf' tf' → tf'.fill = 0 → Msk tf'.mask → n ≤ tf'.mask → tf'.led = led → Q () { s with heap := h' }) :
    wpAny (model P w) A (setRoomFor f n) Q E s := by
  unfold setRoomFor
  refine wpAny_bind (wpAny_setState_of R.ob R.da R.ft ?_)
  dsimp only
  by_cases c : (0 + n) * 5 ≥ 7 * 3
  · have e : (SetTable.fresh 0 0 led).roomFor n = some ((0 + n) * 2) := by
      unfold SetTable.roomFor
      exact if_pos c
    rw [e]
    dsimp only
    obtain ⟨m1, m2⟩ := sizeAbove_msk (n := (0 + n) * 2) (by omega)
    unfold setRelay
    refine wpAny_bind (wpAny_setState_of R.ob R.da R.ft ?_)
    dsimp only
    refine wp_if_neg ?_ ?_
    · have : SetTable.sizeAbove ((0 + n) * 2) ≤ 256 := by
        rcases m1 with m1 | m1 | m1 | m1 | m1 | m1 <;> omega
      rw [sizeLine_eq]
      omega
    try refine wpAny_bind (wpAny_pure ?_)
    refine wpAny_bind (m := reord #[] (SetTable.laid (SetTable.sizeAbove ((0 + n) * 2) - 1) 0 ((SetTable.fresh 0 0 led).movedTo (SetTable.sizeAbove ((0 + n) * 2) - 1)) led true ((#[] : Array (Int × Value)).map (·.1)))) ?_
    obtain ⟨t', order, e, p, r, z, fl, l⟩ := laid_ok m1 0 ((SetTable.fresh 0 0 led).movedTo (SetTable.sizeAbove ((0 + n) * 2) - 1)) led true ((#[] : Array (Int × Value)).map (·.1)) (by simp)
    have mk : t'.mask = SetTable.sizeAbove ((0 + n) * 2) - 1 ∧ t'.dummies = #[] := by
      unfold SetTable.laid at e
      cases q : SetTable.layClean (SetTable.sizeAbove ((0 + n) * 2) - 1) ((#[] : Array (Int × Value)).map (·.1)) with
      | none => rw [q] at e; cases e
      | some ow =>
        rw [q] at e
        have e' := (Prod.mk.inj (Option.some.inj e)).1
        rw [← e']
        exact ⟨rfl, rfl⟩
    have or0 : order = #[] := by
      have := p.length_eq
      rw [List.length_range, Array.size_map, Array.length_toList] at this
      exact Array.eq_empty_of_size_eq_zero this
    subst or0
    unfold reord
    rw [e]
    dsimp only
    refine wp_if_neg (by simp) ?_
    try refine wpAny_bind (wpAny_pure ?_)
    refine wpAny_pure ?_
    dsimp only
    have z0 : t'.place.size = 0 := by rw [z]; simp
    refine wpAny_storeSet_of R.ob R.da ?_ (by simp)
    refine hQ _ _ (epf + 1) t' (Heap.SameBut.update s.heap f _) ⟨store_at R.ob R.da, R.ex, by simp, (fun e he => by simp at he), (by simp), (by simp [scanBound]), ?_, r, R.ld.imp id fun z => by rw [l]; exact z⟩ ?_ ?_ ?_ l
    · refine fits_iff.mpr ⟨by rw [z0]; simp, fl⟩
    · show t'.place.size + t'.dummies.size = 0
      rw [z0, mk.2]
      rfl
    · rw [mk.1]
      exact m1
    · rw [mk.1]
      omega
  · have e : (SetTable.fresh 0 0 led).roomFor n = none := by
      unfold SetTable.roomFor
      exact if_neg c
    rw [e]
    exact wpAny_pure (hQ s.heap og epf _ (Heap.SameBut.refl f s.heap) R rfl (.inl rfl) (by show n ≤ 7; omega) rfl)
/-- all of a set into an empty one -/
theorem merge_0 {each : Sem Unit} {Q : Unit → Shared → Prop} (hne : f ≠ a) (R : SetS w s.heap a o es ep t) (h64 : es.size < 128) {led : Bool} (R2 : SetS w s.heap f og #[] epf (.fresh 0 0 led))
    (hQ : ∀ h' og' es' epf' tf', Heap.SameBut f s.heap h' → SetS w h' f og' es' epf' tf' → (∀ j, mem es' j = mem es j) → es'.size = es.size → Q () { s with heap := h' }) :
    wpAny (model P w) A (setMerge f a each) Q E s := by
  have sz {es' : Array (Int × Value)} (p : es'.toList.Perm es.toList) : es'.size = es.size := by
    have := p.length_eq
    rw [Array.length_toList, Array.length_toList] at this
    exact this
  unfold setMerge
  refine wp_if_neg (by simpa using hne) ?_
  try refine wpAny_bind (wpAny_pure ?_)
  refine wpAny_bind (wpAny_setState_of R.ob R.da R.ft ?_)
  dsimp only
  by_cases c : es.isEmpty = true
  · refine wp_if_pos c ?_
    have e0 : es = #[] := Array.isEmpty_iff.mp c
    exact wpAny_pure (hQ s.heap og #[] epf _ (Heap.SameBut.refl f s.heap) R2 (fun j => by rw [e0]) (by rw [e0]))
  · refine wp_if_neg c ?_
    try refine wpAny_bind (wpAny_pure ?_)
    refine wpAny_bind (room_0 h64 R2 fun h1 o1 ep1 t1 sb1 R3 f0 mk le ld => ?_)
    refine wpAny_bind (wpAny_setState_of (s := { s with heap := h1 }) R3.ob R3.da R3.ft ?_)
    dsimp only
    have both : w.params.followText "set-order" = true ∨ (t1.led && t.led) = true := by
      rcases R3.ld with z | z
      · exact .inl z
      · rcases R.ld with y | y
        · exact .inl y
        · exact .inr (by rw [z, y]; rfl)
    cases rd : t1.road t with
    | slotForSlot =>
      dsimp only
      refine wpAny_storeSet_of (s := { s with heap := h1 }) R3.ob R3.da ?_ (fits_of_scanBound R.sb)
      exact hQ _ _ es _ _ (sb1.trans (Heap.SameBut.update _ f _)) ⟨store_at R3.ob R3.da, R3.ex, rfl, R.gd, R.nd, R.sb, R.ft, R.ri, both⟩ (fun _ => rfl) rfl
    | clean =>
      dsimp only
      refine wpAny_bind (m := reord es (SetTable.laid t1.mask t1.finger t1.moves (led := t1.led && t.led) (plain := t1.plain && t.plain) (es.map (·.1)))) ?_
      refine reord_ok mk _ _ _ _ le fun es' t' p ft ri l => ?_
      dsimp only
      obtain ⟨g1, g2, g3, g4⟩ := perm_facts p R
      refine wpAny_storeSet_of (s := { s with heap := h1 }) R3.ob R3.da ?_ (fits_of_scanBound g3)
      exact hQ _ _ es' _ _ (sb1.trans (Heap.SameBut.update _ f _)) ⟨store_at R3.ob R3.da, R3.ex, rfl, g1, g2, g3, ft, ri, both.imp id fun z => by rw [l]; exact z⟩ g4 (sz p)
    | oneByOne =>
      unfold SetTable.road at rd
      rw [f0] at rd
      simp only [bne_self_eq_false, Bool.false_eq_true, if_false] at rd
      split at rd <;> cases rd
/-- the members of the other one, each turned -/
theorem turn_all {id : String} {Q : Unit → Shared → Prop} (hne : f ≠ a) (R : SetS w s.heap a o es ep t) (R2 : SetS w s.heap f og ef epf tf) (hsz : es.size + ef.size < scanBound)
    (hQ : ∀ h' d og' ef' epf' tf', Heap.SameBut f s.heap h' → SetS w h' f og' ef' epf' tf' → (∀ j, mem ef' j = (mem ef j != mem es j)) → ef'.size ≤ ef.size + es.size → Q () { s with heap := h', drawn := d }) :
    wpAny (model P w) A (Builtin.Frozenset.symmetricDifferenceUpdate id f (.ref a)) Q E s := by
  have ne : (Value.type "set" == Value.type "dict") = false := by decide
  have nr : (Value.ref a == Value.ref f) = false := by
    rw [beq_eq_false_iff_ne]
    exact fun z => hne (Value.ref.inj z).symm
  unfold Builtin.Frozenset.symmetricDifferenceUpdate
  refine wp_if_neg (by rw [nr]; simp) ?_
  try refine wpAny_bind (wpAny_pure ?_)
  refine wpAny_bind (wpAny_typeOf R.ty ?_)
  refine wp_if_neg (by rw [ne]; simp) ?_
  try refine wpAny_bind (wpAny_pure ?_)
  refine wpAny_bind (is_set R ?_)
  refine wp_if_pos rfl ?_
  refine wpAny_bind (wpAny_pure ?_)
  refine wpAny_bind (m := Builtin.Frozenset.addrOf (.ref a)) (wpAny_pure ?_)
  refine wpAny_bind (at_epoch R ?_)
  refine wpAny_holding ?_
  refine wpAny_bind (wk_unseen R R2 (fun z => hne z.symm) fun out d h1 o1 ep1 t1 p sb1 R3 => ?_)
  have gd : ∀ e ∈ out.toList, GoodE e := fun e he => R.gd e (p.mem_iff.mp he)
  have nd : (out.toList.map keyOf).Nodup := (p.map keyOf).nodup_iff.mpr R.nd
  refine wpAny_bind (wpAny_forIn_array' _ (fun l (r : PUnit) s' => ∃ h' o' e' ep' t', s' = { s with heap := h', drawn := d } ∧ Heap.SameBut f s.heap h' ∧ SetS w h' f o' e' ep' t' ∧ (∀ e ∈ l, GoodE e) ∧ (l.map keyOf).Nodup ∧
      (∀ j, mem e' j = if j ∈ l.map keyOf then mem ef j else (mem ef j != mem es j)) ∧ (∀ j ∈ l.map keyOf, mem es j = true) ∧ e'.size + l.length ≤ ef.size + es.size) _ ?_ ?_ _ _ ⟨h1, o1, ef, ep1, t1, rfl, sb1, R3, gd, nd, fun j => ?_, fun j hj => ?_, ?_⟩)
  · rintro ⟨hh, x⟩ rest r s' ⟨h2, o2, e2, ep2, t2, rfl, sb2, R4, g, n, m, inn, z⟩
    obtain ⟨k, tk, hx, hk⟩ := g _ List.mem_cons_self
    simp only at hx hk
    subst hx hk
    have kk : keyOf (hashInt k, Value.int k tk) = k := rfl
    rw [List.map_cons, kk] at n m inn
    rw [List.length_cons] at z
    obtain ⟨n1, n2⟩ := List.nodup_cons.mp n
    have Ra : SetS w h2 a o es ep t := R.at (sb2.2 a fun y => hne y.symm)
    have g' : ∀ e ∈ rest, GoodE e := fun e he => g e (List.mem_cons_of_mem _ he)
    have ink : mem es k = true := inn k List.mem_cons_self
    have mk0 : mem e2 k = mem ef k := by rw [m k, if_pos List.mem_cons_self]
    refine wpAny_bind (wpAny_holding (wpAny_bind (setS_discard (s := { s with heap := h2, drawn := d }) R4 fun h3 o3 e3 ep3 t3 sb3 R5 m3 z3 => ?_)))
    by_cases c : mem e2 k = true
    · rw [c]
      refine wp_if_neg (by simp) ?_
      refine wpAny_pure ?_
      refine wpAny_bind (no_change (s := { s with heap := h3, drawn := d }) (Ra.at (s := { s with heap := h2, drawn := d }) (sb3.2 a fun y => hne y.symm)) ?_)
      refine wpAny_pure ⟨h3, o3, e3, ep3, t3, rfl, sb2.trans sb3, R5, g', n2, fun j => ?_, fun j hj => inn j (List.mem_cons_of_mem _ hj), by omega⟩
      rw [m3 j, m j]
      by_cases y : j = k
      · subst y
        rw [if_neg n1, decide_eq_true rfl, ← mk0, c, ink]
        simp
      · rw [decide_eq_false y]
        simp only [List.mem_cons, y, false_or, Bool.not_false, Bool.and_true]
    · have c' : mem e2 k = false := by simpa using c
      rw [c']
      refine wp_if_pos (by simp) ?_
      refine wpAny_bind (setS_add (s := { s with heap := h3, drawn := d }) R5 (by omega) fun b h4 o4 e4 ep4 t4 sb4 R6 m4 z4 => ?_)
      refine wpAny_pure ?_
      refine wpAny_bind (no_change (s := { s with heap := h4, drawn := d }) (Ra.at (s := { s with heap := h2, drawn := d }) ((sb4.2 a fun y => hne y.symm).trans (sb3.2 a fun y => hne y.symm))) ?_)
      refine wpAny_pure ⟨h4, o4, e4, ep4, t4, rfl, (sb2.trans sb3).trans sb4, R6, g', n2, fun j => ?_, fun j hj => inn j (List.mem_cons_of_mem _ hj), by omega⟩
      rw [m4 j, m3 j, m j]
      by_cases y : j = k
      · subst y
        rw [if_neg n1, decide_eq_true rfl, ← mk0, c', ink]
        simp
      · rw [decide_eq_false y]
        simp only [List.mem_cons, y, false_or, Bool.not_false, Bool.and_true, Bool.or_false]
  · rintro r s' ⟨h2, o2, e2, ep2, t2, rfl, sb2, R4, _, _, m, _, z⟩
    exact wpAny_pure (hQ h2 d o2 e2 ep2 t2 sb2 R4 (fun j => by rw [m j]; simp) (by simpa using z))
  · have mj : j ∈ out.toList.map keyOf ↔ mem es j = true := by
      rw [(p.map keyOf).mem_iff]
      exact decide_eq_true_iff.symm
    by_cases c : mem es j = true
    · rw [if_pos (mj.mpr c)]
    · rw [if_neg fun y => c (mj.mp y)]
      have c' : mem es j = false := by simpa using c
      rw [c']
      simp
  · have mj : j ∈ out.toList.map keyOf ↔ mem es j = true := by
      rw [(p.map keyOf).mem_iff]
      exact decide_eq_true_iff.symm
    exact mj.mp hj
  · have := p.length_eq
    rw [Array.length_toList, Array.length_toList] at this
    rw [Array.length_toList, this]
    omega
end
end Bd
/-! X3: sets of ints over the hand layer: set(t), s ^ t. -/
namespace Bd
open PySem L2 PySem.Spec PyProof.Rows

/-- the different ones, ascending -/
def sins (k : Int) : List Int → List Int
  | [] => [k]
  | x :: l => if k < x then k :: x :: l else if k = x then x :: l else x :: sins k l
def sset : List Int → List Int
  | [] => []
  | k :: l => sins k (sset l)
theorem mem_sins {k y : Int} : ∀ {l : List Int}, y ∈ sins k l ↔ y = k ∨ y ∈ l
  | [] => by simp [sins]
  | x :: l => by
    unfold sins
    split
    · simp
    · split
      · rename_i h
        subst h
        simp
      · rw [List.mem_cons, mem_sins, List.mem_cons]
        constructor
        · rintro (h | h | h)
          · exact .inr (.inl h)
          · exact .inl h
          · exact .inr (.inr h)
        · rintro (h | h | h)
          · exact .inr (.inl h)
          · exact .inl h
          · exact .inr (.inr h)
theorem sins_asc {k : Int} : ∀ {l : List Int}, Asc l → Asc (sins k l)
  | [], _ => List.pairwise_singleton _ _
  | x :: l, h => by
    obtain ⟨h1, h2⟩ := List.pairwise_cons.mp h
    unfold sins
    split
    · rename_i c
      refine List.pairwise_cons.mpr ⟨fun y hy => ?_, h⟩
      rcases List.mem_cons.mp hy with e | m
      · omega
      · have := h1 y m
        omega
    · split
      · exact h
      · rename_i c d
        refine List.pairwise_cons.mpr ⟨fun y hy => ?_, sins_asc h2⟩
        rcases mem_sins.mp hy with e | m
        · omega
        · exact h1 y m
theorem sset_asc : ∀ l : List Int, Asc (sset l)
  | [] => .nil
  | _ :: l => sins_asc (sset_asc l)
theorem mem_sset {x : Int} : ∀ {l : List Int}, x ∈ sset l ↔ x ∈ l
  | [] => Iff.rfl
  | k :: l => by
    unfold sset
    rw [mem_sins, mem_sset, List.mem_cons]
theorem sset_of {l : List Int} (h : Asc l) : sset l = l := asc_ext (sset_asc l) h fun _ => mem_sset
theorem sins_len {k : Int} : ∀ {l : List Int}, (sins k l).length ≤ l.length + 1
  | [] => Nat.le_refl _
  | x :: l => by
    unfold sins
    split
    · exact Nat.le_refl _
    · split
      · exact Nat.le_succ _
      · rw [List.length_cons, List.length_cons]
        exact Nat.succ_le_succ sins_len
theorem sset_len : ∀ l : List Int, (sset l).length ≤ l.length
  | [] => Nat.le_refl _
  | k :: l => Nat.le_trans sins_len (Nat.succ_le_succ (sset_len l))
/-- as many as the set has -/
theorem size_of {w : World} {h : Heap} {a : Addr} {S : Int → Bool} {n : Nat} {l : List Int} (R : SetR w h a S n) (hl : Asc l) (m : ∀ k, S k = true ↔ k ∈ l) : n = l.length := by
  obtain ⟨o, es, ep, t, R2, z, m2⟩ := SetS.of R
  have p : (es.toList.map keyOf).Perm l := (List.perm_ext_iff_of_nodup R2.nd hl.nodup).mpr fun k => by
    rw [← m k, m2 k]
    exact decide_eq_true_iff.symm
  rw [← z, ← p.length_eq, List.length_map, Array.length_toList]
/-- the set of the members l, at a -/
def SetL (w : World) (a : Addr) (l : List Int) : HO := SetO w a (fun k => decide (k ∈ l)) l.length
theorem setL_of {w : World} {h : Heap} {a : Addr} {S : Int → Bool} {n : Nat} {l : List Int} (R : SetR w h a S n) (hl : Asc l) (m : ∀ k, S k = true ↔ k ∈ l) : SetR w h a (fun k => decide (k ∈ l)) l.length := by
  have e := size_of R hl m
  subst e
  exact R.congr fun k => by rw [Bool.eq_iff_iff, decide_eq_true_iff, m k]
section
variable {X : Cx}
/-- set(t), t a tuple of ints -/
def rSetI (K : PySem.W.Frag) (w : World) : List V → Hp → VK → Prop := fun vs H Q => ∃ (a : Addr) (ns : List Int), vs = [.ref a] ∧ SqT K H a (ns.map V.int) ∧ ns.length < 4000 ∧ ∀ p, H p = none → Q (.ref p) (upd H p (SetL w p (sset ns)))
theorem cr_setI (hc : X.calm = true) : CallR X (.type "set") (rSetI X.K X.w) := by
  intro pins s σ H vs us Q I r h
  obtain ⟨a, ns, rfl, hq, hz, q⟩ := h
  rw [Vals.ref1 r]
  obtain ⟨its, rr, hl, _⟩ := I.tuple hq
  refine call_set_tupI ns (I.ok.hd hc) hl (by simpa using RZ.intsAre_vals rr) (by unfold scanBound; omega) fun h' tk c R hk kp => ?_
  have R2 := setL_of R (sset_asc ns) fun k => by rw [decide_eq_true_iff, mem_sset]
  exact ⟨.ref _, upd H s.heap.objs.size (SetL X.w s.heap.objs.size (sset ns)), I.laid (t' := tk) kp (Nat.le_refl _) (setO_new R2), rfl, q _ (I.hok.fresh (Nat.le_refl _))⟩
end
end Bd
/-! X4: s ^ t of two sets of ints over the hand layer. -/
namespace Bd
open PySem L2 PySem.Spec PyProof.Rows

theorem entry_sxor : entryFor table "set.__xor__" = some Builtin.«frozenset.__xor__» :=
  entryFor_alias (id' := "frozenset.__xor__") (by kernel_rfl) rfl (by decide +kernel) (by kernel_rfl)
def symOf (id : String) (l : Addr) (r : Value) : Sem Value := do
  let result ← Builtin.Frozenset.newFrom id (← Builtin.Frozenset.baseOf l) r
  holding [result] (Builtin.Frozenset.symmetricDifferenceUpdate id (← Builtin.Frozenset.addrOf result) (.ref l))
  return result
def xorOf (args : Args) : Sem PySem.Fin := do
  let (self, other) ← Builtin.Frozenset.slot1 "__xor__" args
  let (l, r) := if false then (other, self) else (self, other)
  if !(← Builtin.Frozenset.isAnySet l <&&> Builtin.Frozenset.isAnySet r) then
    rule s!"frozenset.{"__xor__"}.declined"
    return ← ret .notImplemented
  ret (← symOf s!"frozenset.{"__xor__"}" (← Builtin.Frozenset.addrOf l) r)
theorem xor_text : Builtin.«frozenset.__xor__» = xorOf := rfl
section
variable {P : Program} {w : World} {A : Around} {E : Value → Shared → Prop} {s : Shared} {a b : Addr} {o og : Obj} {es ef : Array (Int × Value)} {ep epf : Nat} {t tf : SetTable}
theorem fresh_set {h : Heap} : SetS w (h.push { cls := .type "set", dict := none, data := .set #[] 0 (.fresh 0 0 (!w.params.followText "set-order")) }) h.objs.size { cls := .type "set", dict := none, data := .set #[] 0 (.fresh 0 0 (!w.params.followText "set-order")) } #[] 0 (.fresh 0 0 (!w.params.followText "set-order")) where
  ob := Heap.get?_push_size _ rfl
  ex := ⟨rfl, rfl, rfl⟩
  da := rfl
  gd := fun e he => by simp at he
  nd := by simp
  sb := by decide
  ft := rfl
  ri := List.Pairwise.nil
  ld := by
    show _ ∨ (!w.params.followText "set-order") = true
    cases w.params.followText "set-order"
    · exact .inr rfl
    · exact .inl rfl
theorem new_set {Q : Value → Shared → Prop} (h : Q (.ref s.heap.objs.size) { s with heap := s.heap.push { cls := .type "set", dict := none, data := .set #[] 0 (.fresh 0 0 (!w.params.followText "set-order")) } }) :
    wpAny (model P w) A (newSet (.type "set")) Q E s := by
  unfold newSet
  refine wpAny_bind (wpAny_byText ?_)
  simp only [newObj]
  exact wpAny_bind (wpAny_alloc (wpAny_pure h))
theorem sym_ok {id : String} {Q : Value → Shared → Prop} (R : SetS w s.heap a o es ep t) (R2 : SetS w s.heap b og ef epf tf) (h64 : ef.size < 128) (hsz : es.size + ef.size < scanBound)
    (hQ : ∀ h' d o' e' ep' t', (∀ c u, s.heap.get? c = some u → h'.get? c = some u) → SetS w h' s.heap.objs.size o' e' ep' t' → (∀ j, mem e' j = (mem ef j != mem es j)) → Q (.ref s.heap.objs.size) { s with heap := h', drawn := d }) :
    wpAny (model P w) A (symOf id a (.ref b)) Q E s := by
  have na : s.heap.objs.size ≠ a := Nat.ne_of_gt R.lt
  have nb : s.heap.objs.size ≠ b := Nat.ne_of_gt R2.lt
  unfold symOf
  refine wpAny_bind ?_
  unfold Builtin.Frozenset.baseOf
  refine wpAny_bind (wpAny_isInstance R.ty sub_set_self ?_)
  refine wpAny_pure ?_
  refine wpAny_bind ?_
  simp only [if_true]
  unfold Builtin.Frozenset.newFrom
  refine wpAny_bind (new_set ?_)
  have R0 := fresh_set (w := w) (h := s.heap)
  have Rb : SetS w (s.heap.push { cls := .type "set", dict := none, data := .set #[] 0 (.fresh 0 0 (!w.params.followText "set-order")) }) b og ef epf tf := { R2 with ob := Heap.get?_push_of_some _ R2.ob }
  have Ra : SetS w (s.heap.push { cls := .type "set", dict := none, data := .set #[] 0 (.fresh 0 0 (!w.params.followText "set-order")) }) a o es ep t := { R with ob := Heap.get?_push_of_some _ R.ob }
  refine wpAny_bind (m := Builtin.Frozenset.addrOf _) (wpAny_pure ?_)
  refine wpAny_bind (wpAny_holding ?_)
  unfold Builtin.Frozenset.updateFrom
  refine wpAny_bind (is_set (s := { s with heap := _ }) Rb ?_)
  refine wp_if_pos rfl ?_
  refine wpAny_bind (m := Builtin.Frozenset.addrOf _) (wpAny_pure ?_)
  unfold Builtin.Frozenset.merge
  refine wpAny_bind (at_epoch (s := { s with heap := _ }) Rb ?_)
  refine merge_0 (s := { s with heap := _ }) nb Rb h64 R0 fun h1 o1 e1 ep1 t1 sb1 R1 m1 z1 => ?_
  refine wpAny_pure ?_
  refine wpAny_bind (m := Builtin.Frozenset.addrOf _) (wpAny_pure ?_)
  refine wpAny_bind (wpAny_holding ?_)
  have Ra1 : SetS w h1 a o es ep t := { Ra with ob := (sb1.2 a fun z => na z.symm).trans Ra.ob }
  refine turn_all (s := { s with heap := h1 }) na Ra1 R1 (by rw [z1]; exact hsz) fun h2 d o2 e2 ep2 t2 sb2 R3 m2 _ => ?_
  refine wpAny_pure (hQ h2 d o2 e2 ep2 t2 (fun c u e => ?_) R3 fun j => by rw [m2, m1])
  have lt : c ≠ s.heap.objs.size := Nat.ne_of_lt (Heap.lt_size e)
  exact (sb2.2 c lt).trans ((sb1.2 c lt).trans (Heap.get?_push_of_some _ e))
theorem xor_ok {Q : Value → Shared → Prop} (R : SetS w s.heap a o es ep t) (R2 : SetS w s.heap b og ef epf tf) (h64 : ef.size < 128) (hsz : es.size + ef.size < scanBound)
    (hQ : ∀ h' d o' e' ep' t', (∀ c u, s.heap.get? c = some u → h'.get? c = some u) → SetS w h' s.heap.objs.size o' e' ep' t' → (∀ j, mem e' j = (mem ef j != mem es j)) → Q (.ref s.heap.objs.size) { s with heap := h', drawn := d }) :
    wpAny (model P w) A (binaryOp .BitXor (.ref a) (.ref b)) Q E s := by
  refine wpAny_binaryOp_same (op := .BitXor) (T := "set") R.ty R2.ty PySem.F.fills_set_xor PySem.F.slot_set_xor ?_
  refine wpAny_call_entry PySem.F.slot_set_xor R.ty entry_sxor ?_ (PySem.F.args_set_xor_2 _ _)
  rw [xor_text]
  unfold xorOf Builtin.Frozenset.slot1 slotArgs
  refine wpAny_bind (m := pure (Value.ref a, Value.ref b)) (wpAny_pure ?_)
  dsimp only
  refine wpAny_bind (m := andM (Builtin.Frozenset.isAnySet (.ref a)) (Builtin.Frozenset.isAnySet (.ref b))) ?_
  unfold andM
  refine wpAny_bind (is_set R ?_)
  refine is_set R2 ?_
  refine wp_if_neg (by simp) ?_
  try refine wpAny_bind (wpAny_pure ?_)
  refine wpAny_bind (sym_ok R R2 h64 hsz fun h' d o' e' ep' t' k R3 m => ?_)
  exact wpAny_pure ⟨_, rfl, by simp, hQ h' d o' e' ep' t' k R3 m⟩
end
section
variable {X : Cx}
def rSXor (w : World) : R2 := fun x y H Q => ∃ p q a b, x = .ref p ∧ y = .ref q ∧ H p = some (SetL w p a) ∧ H q = some (SetL w q b) ∧ Asc a ∧ Asc b ∧ a.length + b.length < 4000 ∧ b.length < 128 ∧ ∀ z, H z = none → Q (.ref z) (upd H z (SetL w z (sumL a b)))
theorem op_sxor : OpR X (binaryOp .BitXor) (rSXor X.w) := by
  intro pins s σ H x y v u Q I rx ry h
  obtain ⟨p, q, a, b, rfl, rfl, hp, hq, ha, hb, hz, h64, k⟩ := h
  cases rx
  cases ry
  have Rp := setO_get I hp
  have Rq := setO_get I hq
  obtain ⟨o, es, ep, t, R, z1, m1⟩ := SetS.of Rp
  obtain ⟨og, ef, epf, tf, R2, z2, m2⟩ := SetS.of Rq
  refine xor_ok R R2 (by omega) (by unfold scanBound; omega) fun h' d o' e' ep' t' kp R3 m3 => ?_
  have hn : H s.heap.objs.size = none := I.hok.fresh (Nat.le_refl _)
  have mm : ∀ k, mem e' k = true ↔ k ∈ sumL a b := fun k => by
    rw [m3 k, ← m1 k, ← m2 k, mem_sumL]
    by_cases c1 : k ∈ a <;> by_cases c2 : k ∈ b <;> simp [c1, c2]
  have R4 := setL_of (R3.r (s := { s with heap := h' }) (S := mem e') fun _ => rfl) (sumL_asc ha hb) mm
  have J : Inv X pins σ (upd H s.heap.objs.size (SetL X.w s.heap.objs.size (sumL a b))) { s with heap := h', gens := s.gens, drawn := d, toks := s.toks } :=
    I.call (ch := []) (Un.laid kp (Nat.le_refl _) hn) (I.hok.laid kp (Nat.le_refl _) (setO_new R4)) I.bare (fun _ z => nomatch z)
  exact ⟨.ref _, _, J, rfl, k _ hn⟩
end
section
variable {P : Program} {w : World} {A : Around} {E : Value → Shared → Prop} {s : Shared} {a : Addr} {o : Obj} {es : Array (Int × Value)} {ep : Nat} {t : SetTable}
theorem raw_ints : ∀ (l : List Value), (∀ v ∈ l, ∃ k tk, v = Value.int k tk) → IntsAre l (l.map L2.vInt)
  | [], _ => .nil
  | v :: l, h => by
    obtain ⟨k, tk, e⟩ := h v List.mem_cons_self
    subst e
    exact .cons k tk (raw_ints l fun u hu => h u (List.mem_cons_of_mem _ hu))
theorem srt_set {Q : Value → Shared → Prop} (R : SetS w s.heap a o es ep t) (hh : A.handled = none)
    (hQ : ∀ (s' : Shared) (p : Addr) (out : Array Value) (c : Nat) (ns : List Int), (∀ b u, s.heap.get? b = some u → s'.heap.get? b = some u) → s'.gens = s.gens → s'.os = s.os → s.heap.objs.size ≤ p →
      s'.heap.get? p = some (seqObj "list" out c) → IntsAre out.toList ns → ns.Pairwise (· ≤ ·) → ns.Perm (es.toList.map keyOf) → Q (.ref p) s') :
    wpAny (model P w) A (call (.builtin "sorted") [.ref a]) Q E s := by
  refine Calls.call_function_entry kind_sorted plain_sorted entry_sorted (args_sorted1 _) ?_
  unfold Builtin.«sorted»
  refine wpAny_bind (m := checkCount "sorted" 1 1 _) (wpAny_pure (wpAny_bind (collect_set (A := A.in1) hh ⟨o, R.ob, R.ex.1, R.da⟩ R.ft R.sb R.ri R.ld fun s1 vs k1 hz g1 o1 pm => ?_)))
  have hints : IntsAre vs (vs.map L2.vInt) := raw_ints vs fun v hv => by
    obtain ⟨e, he, q⟩ := List.mem_map.mp (pm.mem_iff.mp hv)
    obtain ⟨k, tk, h1, _⟩ := R.gd e he
    exact ⟨k, tk, q.symm.trans h1⟩
  have pk : (vs.map L2.vInt).Perm (es.toList.map keyOf) := by
    have q := pm.map L2.vInt
    rw [List.map_map, show (L2.vInt ∘ fun x : Int × Value => x.2) = keyOf from funext fun e => (key_vInt e).symm] at q
    exact q
  have len : vs.length ≤ sizeLine := by
    rw [pm.length_eq, List.length_map, Array.length_toList]
    exact fits_of_scanBound R.sb
  refine wpAny_bind (wpAny_newList ?_ len)
  have at0 : (s1.heap.push (seqObj "list" vs.toArray 0)).get? s1.heap.objs.size = some (seqObj "list" vs.toArray 0) := Heap.get?_push_size _ rfl
  refine wpAny_bind (wpAny_holding (wpAny_call_entry slot_list_sort ⟨_, at0, rfl⟩ entry_list_sort (SrtO.list_sort_ord SrtO.swo_int at0 len (fun h2 => SrtO.ints_sortable hints h2) fun out h1 h2 => ⟨_, rfl, ?_⟩) (args_list_sort _)))
  obtain ⟨k2, k3, k4⟩ := SrtO.ints_out hints h1 h2
  obtain ⟨c, hc⟩ := sortedHeap_at (vs := vs) (out := out.toArray) at0
  refine wpAny_pure ⟨_, rfl, hQ _ s1.heap.objs.size out.toArray c (out.map SrtO.iv) (fun b u e => ?_) g1 o1 hz hc k2 k4 (k3.trans pk)⟩
  have old := k1 b u e
  have lt := Heap.lt_size old
  show (sortedHeap (s1.heap.push (seqObj "list" vs.toArray 0)) s1.heap.objs.size vs out.toArray).get? b = some u
  rw [sortedHeap_old (Nat.ne_of_lt lt) (by rw [size_push']; exact Nat.lt_succ_of_lt lt), Heap.get?_push_of_some _ old]
end
section
variable {X : Cx}
/-- sorted(set) -/
def rSortL (w : World) : List V → Hp → VK → Prop := fun vs H Q => ∃ p a, vs = [V.ref p] ∧ H p = some (SetL w p a) ∧ Asc a ∧ a.length ≤ 4000 ∧ ∀ z, H z = none → Q (.ref z) (upd H z (.lst (a.map V.int)))
theorem cr_sortL (hc : X.calm = true) : CallR X (.builtin "sorted") (rSortL X.w) := by
  intro pins s σ H vs us Q I r h
  obtain ⟨p, a, rfl, hp, ha, hz, k⟩ := h
  have Rp := setO_get I hp
  obtain ⟨o, es, ep, t, R, z1, m1⟩ := SetS.of Rp
  rw [Vals.ref1 r]
  refine srt_set R (I.ok.hd hc) fun s' z out c ns kp g os lz hg hi le pm => ?_
  have e : ns = a := by
    have nd : ns.Nodup := pm.nodup_iff.mpr R.nd
    refine asc_ext ((le.and nd).imp fun h => by omega) ha fun x => ?_
    rw [pm.mem_iff, ← decide_eq_true_iff (p := x ∈ a), m1 x]
    exact decide_eq_true_iff.symm
  subst e
  have hn : H z = none := I.hok.fresh lz
  have hlen : (ns.map V.int).length ≤ sizeLine := by rw [List.length_map, sizeLine_eq]; omega
  exact ⟨.ref z, upd H z (.lst (ns.map V.int)), I.call' (ch := []) os (Un.laid kp lz hn) (I.hok.laid kp lz ⟨hlen, out.toList, c, vals_of_ints hi, hg⟩) (by rw [g]; exact I.bare) (fun _ z => nomatch z), rfl, k z hn⟩
end
end Bd
/-! D21: sorted(set(a) ^ set(b)), sorted(set(a)), by data. -/
namespace Bd
open PySem L2

section
variable {X : Cx} {W : WX} {a b : Expr} {Fa Fb : Nv → R D} {pos q1 q2 q3 p p1 p2 : Pos}
/-- a set: its members, ascending -/
def rSs (w : World) : Rl := fun H H' A v d => ∃ z l, v = .ref z ∧ d = .list (l.map PyData.int) ∧ Asc l ∧ H z = none ∧ H' z = some (SetL w z l)
theorem back_Ss {w : World} : Back (rSs w) := fun _ _ _ _ _ _ s ⟨z, l, h1, h2, h3, h4, h5⟩ => ⟨z, l, h1, h2, h3, s.free h4, h5⟩
theorem ints?_eq : ∀ {ds : List D} {l : List Int}, ints? ds = some l → ds = l.map PyData.int
  | [], l, h => by
    cases (show some [] = some l from h)
    rfl
  | d :: ds, l, h => by
    cases d with
    | int i =>
      have h' : (ints? ds).map (i :: ·) = some l := h
      cases c : ints? ds with
      | none => rw [c] at h'; cases h'
      | some r =>
        rw [c] at h'
        cases h'
        rw [ints?_eq c]
        rfl
    | _ => cases (show none = some l from h)
theorem vals_ints {K : PySem.W.Frag} {H : Hp} : ∀ {vs : List V} {l : List Int}, DpAll K H vs (l.map PyData.int) → vs = l.map V.int
  | [], [], _ => rfl
  | _ :: _, [], h => by cases h
  | [], _ :: _, h => by cases h
  | v :: vs, k :: l, h => by
    cases h with
    | cons h1 h2 =>
      cases h1
      rw [vals_ints h2]
      rfl
def setV : List D → Option D
  | [.tuple ds] => (ints? ds).bind fun l => if l.length < 4000 then some (.list ((sset l).map PyData.int)) else none
  | _ => none
theorem o_setI : OpN X (rSs X.w) (rSetI X.K X.w) setV := fun H A vs ds d Q hA h e k => by
  unfold setV at e
  split at e
  · rename_i xs
    cases c : ints? xs with
    | none => rw [c] at e; cases e
    | some l =>
      rw [c] at e
      have e : (if l.length < 4000 then some (PyData.list ((sset l).map PyData.int)) else none) = some d := e
      split at e
      · rename_i hz
        have e := Option.some.inj e
        subst e
        match vs, h with
        | [v], ⟨hv, _⟩ =>
          obtain ⟨t, us, rfl, h1, _, h2⟩ := rO_tup hv
          rw [ints?_eq c] at h2
          rw [vals_ints h2] at h1
          exact ⟨t, l, rfl, h1, hz, fun z hn => k _ _ (same_new hn) ⟨z, sset l, rfl, rfl, sset_asc l, hn, upd_same⟩⟩
      · cases e
  · cases e
theorem t_set (hm : X.mg "set" = none) {Fs : Nv → R (List D)} (ha : TAs X W (vO X.K) [a] Fs) (hc : X.calm = true := by rfl) (hg : Gl X "set" := by rfl) (he : starEach [a] X.env = (false, eval a X.env) :: starEach [] X.env := by rfl) (hpl : (backTo pos (starEach [] X.env)).any (·.1) = false := by rfl) :
    PE X (.Call (.Name "set" p) [a] [] pos) (tR X.K X.mg W (rSs X.w) (eN setV Fs)) := t_callTy back_Ss (cr_setI hc) o_setI hg hm (by decide +kernel) ha (he := he) (hpl := hpl)
def ascB : List Int → Bool
  | x :: y :: l => decide (x < y) && ascB (y :: l)
  | _ => true
theorem ascB_of : ∀ {l : List Int}, Asc l → ascB l = true
  | [], _ => rfl
  | [_], _ => rfl
  | x :: y :: l, h => by
    obtain ⟨h1, h2⟩ := List.pairwise_cons.mp h
    unfold ascB
    rw [decide_eq_true (h1 y List.mem_cons_self), ascB_of h2]
    rfl
/-- of two sets' members -/
def symV : D → D → Option D
  | .list xs, .list ys => (ints? xs).bind fun a => (ints? ys).bind fun b => if a.length + b.length < 4000 ∧ b.length < 128 then some (.list ((sumL a b).map PyData.int)) else none
  | _, _ => none
theorem same_upd {H : Hp} {z : Addr} {o : HO} (h : H z = none) : Same H (upd H z o) := same_new h
theorem t_sxor {e f : Expr} {Fe Ff : Nv → R D} (he : PE X e (tR X.K X.mg W (rSs X.w) Fe)) (hf : PE X f (tR X.K X.mg W (rSs X.w) Ff)) :
    PE X (.BinOp e .BitXor f pos) (tR X.K X.mg W (rSs X.w) (e2 symV Fe Ff)) := peW (pe_op op_sxor he hf) fun σ H Q h => by
  obtain ⟨η, A, E, p0⟩ := h
  have p : Post X.K X.mg W (rSs X.w) σ A H ((Fe η).bind fun x => (Ff η).bind fun y => .of (symV x y)) Q := p0
  refine ⟨η, A, E, ?_⟩
  cases e1 : Fe η with
  | ex c w q => rw [e1] at p; exact p
  | no => rw [e1] at p; exact p
  | ok d1 =>
    rw [e1] at p
    rintro v1 H1 s1 ⟨z1, l1, rfl, rfl, a1, n1, g1⟩
    refine ⟨η, A, E.same s1, ?_⟩
    have p : Post X.K X.mg W (rSs X.w) σ A H ((Ff η).bind fun y => .of (symV (.list (l1.map PyData.int)) y)) Q := p
    cases e2 : Ff η with
    | ex c w q => rw [e2] at p; exact fun cls dd H' s q' => p cls dd H' (s1.trans s) q'
    | no => rw [e2] at p; exact p
    | ok d2 =>
      rw [e2] at p
      rintro v2 H2 s2 ⟨z2, l2, rfl, rfl, a2, n2, g2⟩
      have p : Post X.K X.mg W (rSs X.w) σ A H (.of (symV (.list (l1.map PyData.int)) (.list (l2.map PyData.int)))) Q := p
      have u : symV (.list (l1.map PyData.int)) (.list (l2.map PyData.int)) = if l1.length + l2.length < 4000 ∧ l2.length < 128 then some (.list ((sumL l1 l2).map PyData.int)) else none := by
        show (ints? (l1.map PyData.int)).bind (fun a => (ints? (l2.map PyData.int)).bind fun b => _) = _
        rw [ints?_map]
        show (ints? (l2.map PyData.int)).bind _ = _
        rw [ints?_map]
        rfl
      rw [u] at p
      split at p
      · rename_i hz
        exact ⟨z1, z2, l1, l2, rfl, rfl, s2 _ _ g1, g2, a1, a2, hz.1, hz.2, fun z hn => p _ _ ((s1.trans s2).trans (same_new hn)) ⟨z, _, rfl, rfl, sumL_asc a1 a2, (s1.trans s2).free hn, upd_same⟩⟩
      · exact False.elim p
def sortSV : D → Option D
  | .list xs => if xs.length ≤ 4000 then some (.list xs) else none
  | _ => none
theorem t_sortS {e : Expr} {Fe : Nv → R D} (hm : X.mg "sorted" = none) (he : PE X e (tR X.K X.mg W (rSs X.w) Fe)) (hc : X.calm = true := by rfl) (hg : Gl X "sorted" := by rfl) (hs : starEach [e] X.env = (false, eval e X.env) :: starEach [] X.env := by rfl) (hpl : (backTo pos (starEach [] X.env)).any (·.1) = false := by rfl) :
    TF X W (.Call (.Name "sorted" p) [e] [] pos) (e1 sortSV Fe) := peW (pe_callB (cr_sortL hc) hg hm (by decide +kernel) (pa_cons he pa_nil hs) (he := hs) (hpl := hpl)) fun σ H Q h => by
  obtain ⟨η, A, E, p0⟩ := h
  have p : Post X.K X.mg W (rF X.K) σ A H ((Fe η).bind fun x => .of (sortSV x)) Q := p0
  refine ⟨η, A, E, ?_⟩
  cases e1 : Fe η with
  | ex c w q => rw [e1] at p; exact p
  | no => rw [e1] at p; exact p
  | ok d1 =>
    rw [e1] at p
    rintro v1 H1 s1 ⟨z1, l1, rfl, rfl, a1, n1, g1⟩
    have p : Post X.K X.mg W (rF X.K) σ A H (.of (if (l1.map PyData.int).length ≤ 4000 then some (PyData.list (l1.map PyData.int)) else none)) Q := p
    split at p
    · rename_i hz
      rw [List.length_map] at hz
      refine ⟨z1, l1, rfl, g1, a1, hz, fun z hn => p _ _ (s1.trans (same_new hn)) ?_⟩
      exact back_F _ _ _ _ _ _ s1 (dp_new_list (E.same s1).tr hn (dpI l1))
    · exact False.elim p
where dpI {K : PySem.W.Frag} {H : Hp} : ∀ l : List Int, DpAll K H (l.map V.int) (l.map PyData.int)
  | [] => .nil
  | n :: ns => .cons (.int n) (dpI ns)
/-! ### reckoned -/
theorem setV_tup {l : List Int} (h : l.length < 4000) : setV [tupI l] = some (.list ((sset l).map PyData.int)) := by
  show (ints? (l.map PyData.int)).bind _ = _
  rw [ints?_map]
  exact if_pos h
theorem symV_ints {a b : List Int} (h : a.length + b.length < 4000 ∧ b.length < 128) : symV (.list (a.map PyData.int)) (.list (b.map PyData.int)) = some (.list ((sumL a b).map PyData.int)) := by
  show (ints? (a.map PyData.int)).bind _ = _
  rw [ints?_map]
  show (ints? (b.map PyData.int)).bind _ = _
  rw [ints?_map]
  exact if_pos h
theorem sortSV_ints {a : List Int} (h : a.length ≤ 4000) : sortSV (.list (a.map PyData.int)) = some (.list (a.map PyData.int)) := if_pos (by rw [List.length_map]; exact h)
end
end Bd
/-! D22: a def called with a list of the caller's own: what it answers holds no list, so it can't be that one. -/
namespace Bd
open PySem L2

mutual
/-- no list within -/
def flatT : D → Bool
  | .none => true
  | .bool _ => true
  | .int _ => true
  | .str _ => true
  | .list _ => false
  | .tuple ds => flatTs ds
  | .dict _ => false
def flatTs : List D → Bool
  | [] => true
  | d :: ds => flatT d && flatTs ds
end
section
variable {K : PySem.W.Frag} {H : Hp} {A B : List Addr}
theorem rd_hide {a : Addr} {xs : List V} (hl : ∀ b ∈ A, b ∉ B → ∃ ys, H b = some (.lst ys)) (h : SqT K (hid B H) a xs) : SqT K (hid A H) a xs := by
  have key : ∀ o, (∀ ys, o ≠ HO.lst ys) → hid B H a = some o → hid A H a = some o := fun o no e => by
    obtain ⟨n, e⟩ := hid_some e
    rw [hid_out fun m => ?_]
    · exact e
    · obtain ⟨ys, z⟩ := hl a m n
      rw [e] at z
      exact no ys (Option.some.inj z)
  rcases h with (h | ⟨o, h⟩) | h
  · exact .inl (.inl (key _ (fun ys z => nomatch z) h))
  · exact .inl (.inr ⟨o, key _ (fun ys z => nomatch z) h⟩)
  · exact .inr h
mutual
theorem dp_hide (hl : ∀ b ∈ A, b ∉ B → ∃ ys, H b = some (.lst ys)) : ∀ (d : D) (v : V), flatT d = true → Dp K (hid B H) v d → Dp K (hid A H) v d
  | .none, _, _, h => by cases h; exact .non
  | .bool b, _, _, h => by cases h; exact .bl b
  | .int i, _, _, h => by cases h; exact .int i
  | .str x, _, _, h => by cases h; exact .str x
  | .list ds, _, f, _ => by simp [flatT] at f
  | .tuple ds, _, f, h => by
    cases h with
    | tup h1 h2 => exact .tup (rd_hide hl h1) (dps_hide hl ds _ (by simpa [flatT] using f) h2)
  | .dict _, _, f, _ => by simp [flatT] at f
theorem dps_hide (hl : ∀ b ∈ A, b ∉ B → ∃ ys, H b = some (.lst ys)) : ∀ (ds : List D) (vs : List V), flatTs ds = true → DpAll K (hid B H) vs ds → DpAll K (hid A H) vs ds
  | [], _, _, h => by cases h; exact .nil
  | d :: ds, _, f, h => by
    cases h with
    | cons h1 h2 =>
      rw [flatTs, Bool.and_eq_true] at f
      exact .cons (dp_hide hl d _ f.1 h1) (dps_hide hl ds _ f.2 h2)
end
end
/-- the answer holds no list -/
def flatR : R D → R D
  | .ok d => if flatT d = true then .ok d else .no
  | _ => .no
/-- the answer is a list that holds none -/
def flatL : R D → R D
  | .ok (.list ds) => if flatTs ds = true then .ok (.list ds) else .no
  | _ => .no
def callO (Fn : List D → R D) (Fs : Nv → R (List D)) : Nv → R D := fun η => (Fs η).bind fun ds => flatR (Fn ds)
def callL (Fn : List D → R D) (Fs : Nv → R (List D)) : Nv → R D := fun η => (Fs η).bind fun ds => flatL (Fn ds)
section
variable {X : Cx} {W : WX} {rl : Rl} {e : Expr} {es : List Expr} {x : Str} {p pos : Pos} {f : Addr} {fd : FuncData} {ps : List Str} {k n : Nat} {Fn : List D → R D} {Fs : Nv → R (List D)}
def lstB : Option HO → Bool
  | some (.lst _) => true
  | _ => false
theorem lstB_of {o : Option HO} (h : lstB o = true) : ∃ ys, o = some (.lst ys) := by
  unfold lstB at h
  split at h
  · exact ⟨_, rfl⟩
  · cases h
/-- what is hidden and no list -/
def hard (A : List Addr) (H : Hp) : List Addr := A.filter fun a => !lstB (H a)
theorem hard_sub {A : List Addr} {H : Hp} : ∀ b ∈ hard A H, b ∈ A := fun b h => (List.mem_filter.mp h).1
theorem hard_out {A : List Addr} {H : Hp} : ∀ b ∈ A, b ∉ hard A H → ∃ ys, H b = some (.lst ys) := fun b h n => by
  cases c : lstB (H b) with
  | true => exact lstB_of c
  | false => exact absurd (List.mem_filter.mpr ⟨h, by rw [c]; rfl⟩) n
theorem vO_hard {K : PySem.W.Frag} {H : Hp} {A : List Addr} : ∀ {vs : List V} {ds : List D}, AllV (vO K) H A vs ds → DpAll K (hid (hard A H) H) vs ds
  | [], [], _ => .nil
  | v :: vs, d :: ds, h => by
    refine .cons ?_ (vO_hard h.2)
    rcases h.1 with h | ⟨a, us, ys, rfl, rfl, e, q⟩
    · exact Dp_mono h (hid_mono hard_sub)
    · refine .lst (SqL.of ?_) (DpAll_mono q (hid_mono hard_sub))
      rw [hid_out]
      · exact e
      · intro m
        have z := (List.mem_filter.mp m).2
        rw [e] at z
        cases z
  | [], _ :: _, h => h.elim
  | _ :: _, [], h => h.elim
theorem callO_core {g : R D → R D} (F : FnG X.prog X.w X.K X.mg X.base k f fd ps (spD X.K X.mg rl n Fn)) (hr : Room k X.A) (hgd : X.A.guards = some []) (hg : Gl X x) (hm : X.mg x = some (.ref f)) (hk : PySem.W.keepIn X.K (.ref f) = true) (hb : Binds X.K fd ps [])
    (hG : ∀ (σ : L2.St) (A B : List Addr) (H : Hp) (r : R D) (Q : VK), (∀ b ∈ A, b ∉ B → ∃ ys, H b = some (.lst ys)) → (∀ b ∈ B, b ∈ A) → Post X.K X.mg W rl σ A H (g r) Q → ∃ d, r = .ok d ∧ ∀ v H', Same H H' → rl H H' B v d → Q v H')
    (hb' : Back rl) (ha : TAs X W (vO X.K) (e :: es) Fs) (hn : es.length + 1 = n) (hfs : ∀ η ds, Fs η = .ok ds → ds.length = n) (hdb : (x == ("__debug__" : Str)) = false) (he : starEach (e :: es) X.env = (false, eval e X.env) :: starEach es X.env) (hpl : (backTo pos (starEach es X.env)).any (·.1) = false) :
    PE X (.Call (.Name x p) (e :: es) [] pos) (tR X.K X.mg W rl fun η => (Fs η).bind fun ds => g (Fn ds)) := by
  refine ⟨fun pins s σ H Q I h => wpAny_Call_Name_kw (ld_glob I hg hm ?_ hdb)⟩
  obtain ⟨η, A, E, q0⟩ := h
  have q : Post X.K X.mg W rl σ A H ((Fs η).bind fun ds => g (Fn ds)) Q := q0
  refine PySem.W.callWith_K (h₀ := X.base) I.ok.mod.kin hk (thn (ha.run pos pins s σ H (fun vs H1 => spD X.K X.mg rl n Fn vs H1 Q fun _ _ _ => False) I ⟨η, A, E, ?_⟩) fun us s1 ⟨vs, H1, I1, r1, q1⟩ => ⟨I1.kIn, run_g F hr hgd hb (fun pins H s e s' I c => by
      obtain ⟨_, _, _, _, _, _, _, _, _, _, _, _, z⟩ := c
      exact z.elim) I1 r1 q1⟩) he hpl
  cases e1 : Fs η with
  | ex c w z => rw [e1] at q; exact q
  | no => rw [e1] at q; exact q
  | ok ds =>
    rw [e1] at q
    intro vs H1 s1 qv
    obtain ⟨d, ed, kk⟩ := hG σ A (hard A H1) H1 (Fn ds) Q hard_out hard_sub (Post.same hb' s1 q)
    refine ⟨ds, hard A H1, hfs η ds e1, fun b m => (E.same s1).tr b (hard_sub b m), vO_hard qv, ?_⟩
    rw [ed]
    exact kk
theorem t_callO {j : Nat} (d : Df X.prog X.w X.K X.mg X.base j x n (rD X.K) Fn) (hr : Room k X.A) (hgd : X.A.guards = some []) (ha : TAs X W (vO X.K) (e :: es) Fs) (hfs : ∀ η ds, Fs η = .ok ds → ds.length = n) (hj : j ≤ k := by decide) (hg : Gl X x := by rfl)
    (hn : es.length + 1 = n := by rfl) (hdb : (x == ("__debug__" : Str)) = false := by decide) (he : starEach (e :: es) X.env = (false, eval e X.env) :: starEach es X.env := by rfl) (hpl : (backTo pos (starEach es X.env)).any (·.1) = false := by rfl) :
    TD X W (.Call (.Name x p) (e :: es) [] pos) (callO Fn Fs) := by
  obtain ⟨f, fd, ps, F, b, m, kp⟩ := d
  refine callO_core (g := flatR) F (hr.mono hj) hgd hg m kp b (fun σ A B H r Q hl hs q => ?_) back_D ha hn hfs hdb he hpl
  cases r with
  | ex c w z => exact False.elim q
  | no => exact False.elim q
  | ok d =>
    have q : Post X.K X.mg W (rD X.K) σ A H (if flatT d = true then .ok d else .no) Q := q
    split at q
    · rename_i hf
      refine ⟨d, rfl, fun v H' s z => q v H' s (dp_hide (fun b m n => ?_) d v hf z)⟩
      obtain ⟨ys, y⟩ := hl b m n
      exact ⟨ys, s _ _ y⟩
    · exact False.elim q
theorem t_callL {j : Nat} (d : Df X.prog X.w X.K X.mg X.base j x n (rF X.K) Fn) (hr : Room k X.A) (hgd : X.A.guards = some []) (ha : TAs X W (vO X.K) (e :: es) Fs) (hfs : ∀ η ds, Fs η = .ok ds → ds.length = n) (hj : j ≤ k := by decide) (hg : Gl X x := by rfl)
    (hn : es.length + 1 = n := by rfl) (hdb : (x == ("__debug__" : Str)) = false := by decide) (he : starEach (e :: es) X.env = (false, eval e X.env) :: starEach es X.env := by rfl) (hpl : (backTo pos (starEach es X.env)).any (·.1) = false := by rfl) :
    TF X W (.Call (.Name x p) (e :: es) [] pos) (callL Fn Fs) := by
  obtain ⟨f, fd, ps, F, b, m, kp⟩ := d
  refine callO_core (g := flatL) F (hr.mono hj) hgd hg m kp b (fun σ A B H r Q hl hs q => ?_) back_F ha hn hfs hdb he hpl
  cases r with
  | ex c w z => exact False.elim q
  | no => exact False.elim q
  | ok d =>
    cases d with
    | list ds =>
      have q : Post X.K X.mg W (rF X.K) σ A H (if flatTs ds = true then .ok (.list ds) else .no) Q := q
      split at q
      · rename_i hf
        refine ⟨_, rfl, ?_⟩
        rintro v H' s ⟨pp, vs, es2, rfl, h2, h3, h4, h5⟩
        cases h2
        refine q _ H' s ⟨pp, vs, ds, rfl, rfl, h3, h4, dps_hide (fun b m n => ?_) ds vs hf h5⟩
        rcases List.mem_cons.mp m with rfl | m
        · exact ⟨vs, h4⟩
        · obtain ⟨ys, y⟩ := hl b m fun z => n (List.mem_cons_of_mem _ z)
          exact ⟨ys, s _ _ y⟩
      · exact False.elim q
    | _ => exact False.elim q
end
end Bd
/-! M5: what the program's sums tell. -/
namespace Bd
open PySem L2
namespace Pg
def G_added : Nv → Rs :=
    (seqS (retS (eN tupleV (aC (e1 sortSV (e2 symV (eN setV (aC (gv 0) a0)) (eN setV (aC (gv 1) a0)))) a0)))
    .nx)
def F_added : List D → R D := runD 2 (.ok .none) G_added
theorem len_sum {a b : List Int} : (sumL a b).length ≤ a.length + b.length := by
  unfold sumL
  rw [(isort_perm _).length_eq, List.length_append]
  have l1 := List.length_filter_le (notIn b) a
  have l2 := List.length_filter_le (notIn a) b
  omega
theorem added_ok {a b : List Int} (ha : Asc a) (hb : Asc b) (la : a.length < 1000) (lb : b.length < 128) : F_added [tupI a, tupI b] = .ok (tupI (sumL a b)) := by
  refine runD_ex [.d (tupI a), .d (tupI b)] rfl ⟨[.d (tupI a), .d (tupI b)], ?_⟩
  have s1 := setV_tup (l := a) (by omega)
  have s2 := setV_tup (l := b) (by omega)
  rw [sset_of ha] at s1
  rw [sset_of hb] at s2
  have l := len_sum (a := a) (b := b)
  unfold G_added
  simp only [seqS_def, retS_def, eN_def, e1_def, e2_def, aC_def, gv_zero, gv_succ, a0_def, R.ok_bind, s1, s2, of_some, symV_ints (a := a) (b := b) ⟨by omega, lb⟩, sortSV_ints (a := sumL a b) (by omega), tupleV_list]
  rfl
def G_last_of : Nv → Rs :=
    (seqS (retS (ifV (tb (gv 0)) (e2 ixV (gv 0) (e1 negV (k0 (.int 1)))) (k0 .none)))
    .nx)
def F_last_of : List D → R D := runD 1 (.ok .none) G_last_of
/-- the last one, or None -/
def lastD (c : List Int) : D := match c.getLast? with
  | some k => .int k
  | none => .none
theorem atD_last {c : List Int} {k : Int} (h : c.getLast? = some k) : atD (c.map PyData.int) (-1) = some (.int k) := by
  have hn : 0 < c.length := by
    cases c with
    | nil => cases h
    | cons x l => exact Nat.succ_pos _
  have e : ixN c.length (-1) = some (c.length - 1) := by
    unfold ixN
    simp only [Int.reduceNeg, Int.neg_nonneg, Int.reduceLE, ↓reduceIte]
    split <;> (try omega) <;> (try (congr 1; omega))
  unfold atD
  rw [List.length_map, e]
  show (c.map PyData.int)[c.length - 1]? = _
  rw [List.getElem?_map, ← List.getLast?_eq_getElem?, h]
  rfl
theorem last_ok (c : List Int) : F_last_of [tupI c] = .ok (lastD c) := by
  refine runD_ex [.d (tupI c)] rfl ⟨[.d (tupI c)], ?_⟩
  unfold G_last_of
  cases h : c.getLast? with
  | none =>
    have e : c = [] := List.getLast?_eq_none_iff.mp h
    subst e
    rfl
  | some k =>
    have a := atD_last h
    have ne : (c.map PyData.int).isEmpty = false := by
      cases c with
      | nil => cases h
      | cons x l => rfl
    have t : tru (tupI c) = .ok true := by
      show R.ok (!(c.map PyData.int).isEmpty) = _
      rw [ne]
      rfl
    simp only [seqS_def, retS_def, ifV_def, tb_def, e2_def, e1_def, gv_zero, k0_def, R.ok_bind, t, ↓reduceIte, negV_int, of_some]
    rw [show ixV (tupI c) (.int (-1)) = some (.int k) from a]
    unfold lastD
    rw [h]
    rfl
end Pg
end Bd
/-! M6: what is wanted of an answer, part by part. -/
namespace Bd
open PySem L2

/-- the answer is there and Q holds of it -/
@[irreducible] def Wn {α : Type} (r : R α) (Q : α → Prop) : Prop := match r with
  | .ok a => Q a
  | _ => False
/-- a statement's end: N behind it, T where it returns, B where it breaks off, C where it goes on -/
@[irreducible] def Sn (r : Rs) (N : Nv → Prop) (T : D → Nv → Prop) (B C : Nv → Prop) : Prop := match r with
  | .nx η => N η
  | .rt d η => T d η
  | .bk η => B η
  | .ct η => C η
  | _ => False
theorem Wn.get {α : Type} {r : R α} {Q : α → Prop} (h : Wn r Q) : ∃ a, r = .ok a ∧ Q a := by
  unfold Wn at h
  cases r with
  | ok a => exact ⟨a, rfl, h⟩
  | ex c w p => exact h.elim
  | no => exact h.elim
theorem Wn.mk {α : Type} {r : R α} {Q : α → Prop} {a : α} (e : r = .ok a) (h : Q a) : Wn r Q := by
  rw [e]
  unfold Wn
  exact h
theorem Wn.imp {α : Type} {r : R α} {P Q : α → Prop} (h : Wn r P) (k : ∀ a, P a → Q a) : Wn r Q := by
  obtain ⟨a, e, p⟩ := h.get
  exact .mk e (k a p)
theorem Sn.imp {r : Rs} {N N' B B' C C' : Nv → Prop} {T T' : D → Nv → Prop} (h : Sn r N T B C) (kN : ∀ η, N η → N' η) (kT : ∀ d η, T d η → T' d η) (kB : ∀ η, B η → B' η) (kC : ∀ η, C η → C' η) : Sn r N' T' B' C' := by
  unfold Sn at h ⊢
  cases r with
  | nx η => exact kN η h
  | rt d η => exact kT d η h
  | bk η => exact kB η h
  | ct η => exact kC η h
  | ex c w p => exact h.elim
  | no => exact h.elim
section
variable {α β : Type} {Q : α → Prop} {QD : D → Prop} {QX : D × Nv → Prop} {QB : Bool → Prop} {QY : Bool × Nv → Prop} {QL : List D → Prop} {QM : List D × Nv → Prop} {η : Nv} {N B C : Nv → Prop} {T : D → Nv → Prop}
theorem wn_ok {a : α} : Wn (.ok a) Q ↔ Q a := by first | (unfold Wn; exact Iff.rfl) | (unfold Sn; exact Iff.rfl)
theorem wn_no : Wn (R.no : R α) Q ↔ False := by unfold Wn; exact Iff.rfl
theorem sn_no : Sn .no N T B C ↔ False := by unfold Sn; exact Iff.rfl
theorem sn_nx' : Sn (.nx η) N T B C ↔ N η := by unfold Sn; exact Iff.rfl
theorem wn_bind {r : R β} {f : β → R α} : Wn (r.bind f) Q ↔ Wn r fun b => Wn (f b) Q := by first | (unfold Wn; cases r <;> exact Iff.rfl) | (unfold Sn Wn; cases r <;> exact Iff.rfl)
theorem wn_bindN {r : R β} {f : β → R α} : Wn (r.bindN f) Q ↔ Wn r fun b => Wn (f b) Q := by first | (unfold Wn; cases r <;> exact Iff.rfl) | (unfold Sn Wn; cases r <;> exact Iff.rfl)
theorem wn_some {d : D} : Wn (.of (some d)) QD ↔ QD d := by first | (unfold Wn; exact Iff.rfl) | (unfold Sn; exact Iff.rfl)
theorem wn_of {o : Option D} : Wn (.of o) QD ↔ ∃ d, o = some d ∧ QD d := by
  cases o with
  | none => exact ⟨fun h => (wn_no.mp h).elim, fun ⟨_, h, _⟩ => nomatch h⟩
  | some d => exact ⟨fun h => ⟨d, rfl, wn_some.mp h⟩, fun ⟨_, h, q⟩ => by cases h; exact wn_some.mpr q⟩
theorem wn_only {r : R α} : Wn (only r) Q ↔ Wn r Q := by first | (unfold Wn; cases r <;> exact Iff.rfl) | (unfold Sn Wn; cases r <;> exact Iff.rfl)
theorem wn_noex {r : R D} : Wn (noex r) QD ↔ Wn r QD := by first | (unfold Wn; cases r <;> exact Iff.rfl) | (unfold Sn Wn; cases r <;> exact Iff.rfl)
/-! expressions that change nothing -/
theorem wn_e2 {f : D → D → Option D} {Fa Fb : Nv → R D} : Wn (e2 f Fa Fb η) QD ↔ Wn (Fa η) fun a => Wn (Fb η) fun b => Wn (.of (f a b)) QD := by
  rw [e2_def, wn_bind]
  simp only [wn_bind]
theorem wn_e1 {f : D → Option D} {Fa : Nv → R D} : Wn (e1 f Fa η) QD ↔ Wn (Fa η) fun a => Wn (.of (f a)) QD := wn_bind
theorem wn_eN {f : List D → Option D} {Fs : Nv → R (List D)} : Wn (eN f Fs η) QD ↔ Wn (Fs η) fun a => Wn (.of (f a)) QD := wn_bind
theorem wn_a0 : Wn (a0 η) QL ↔ QL [] := by first | (unfold Wn; exact Iff.rfl) | (unfold Sn; exact Iff.rfl)
theorem wn_aC {Fa : Nv → R D} {Fs : Nv → R (List D)} : Wn (aC Fa Fs η) QL ↔ Wn (Fa η) fun a => Wn (Fs η) fun as => QL (a :: as) := by
  rw [aC_def, wn_bind]
  simp only [wn_bind, wn_ok]
theorem wn_call {Fn : List D → R D} {Fs : Nv → R (List D)} : Wn (callV Fn Fs η) QD ↔ Wn (Fs η) fun ds => Wn (Fn ds) QD := by
  rw [callV_def, wn_bind]
  simp only [wn_noex]
theorem wn_tb {F : Nv → R D} : Wn (tb F η) QB ↔ Wn (F η) fun d => Wn (tru d) QB := wn_bind
theorem wn_tup {Fs : Nv → R (List D)} : Wn (tupV Fs η) QD ↔ Wn (Fs η) fun ds => ds.length ≤ lineN ∧ QD (.tuple ds) := by
  rw [tupV_def, wn_bind]
  simp only [wn_of]
  constructor <;> refine fun h => h.imp fun ds h => ?_
  · obtain ⟨d, e, q⟩ := h
    split at e
    · rename_i z
      cases e
      exact ⟨z, q⟩
    · cases e
  · exact ⟨_, if_pos h.1, h.2⟩
theorem wn_lst {Fs : Nv → R (List D)} : Wn (lstV Fs η) QD ↔ Wn (Fs η) fun ds => ds.length ≤ lineN ∧ QD (.list ds) := by
  rw [lstV_def, wn_bind]
  simp only [wn_of]
  constructor <;> refine fun h => h.imp fun ds h => ?_
  · obtain ⟨d, e, q⟩ := h
    split at e
    · rename_i z
      cases e
      exact ⟨z, q⟩
    · cases e
  · exact ⟨_, if_pos h.1, h.2⟩
theorem wn_ite {c : Prop} [Decidable c] {a b : R α} : Wn (if c then a else b) Q ↔ if c then Wn a Q else Wn b Q := by
  split <;> exact Iff.rfl
theorem wn_andB {Ga Gb : Nv → R Bool} : Wn (andB Ga Gb η) QB ↔ Wn (Ga η) fun k => if k = true then Wn (Gb η) QB else QB false := by
  rw [andB_def, wn_bind]
  simp only [wn_ite, wn_ok]
theorem wn_orB {Ga Gb : Nv → R Bool} : Wn (orB Ga Gb η) QB ↔ Wn (Ga η) fun k => if k = true then QB true else Wn (Gb η) QB := by
  rw [orB_def, wn_bind]
  simp only [wn_ite, wn_ok]
theorem wn_notB {Ga : Nv → R Bool} : Wn (notB Ga η) QB ↔ Wn (Ga η) fun k => QB !k := by
  rw [notB_def, wn_bind]
  simp only [wn_ok]
theorem wn_andV {Fa Fb : Nv → R D} : Wn (andV Fa Fb η) QD ↔ Wn (Fa η) fun x => Wn (tru x) fun k => if k = true then Wn (Fb η) QD else QD x := by
  rw [andV_def, wn_bind]
  simp only [wn_bind, wn_ite, wn_ok]
theorem wn_orV {Fa Fb : Nv → R D} : Wn (orV Fa Fb η) QD ↔ Wn (Fa η) fun x => Wn (tru x) fun k => if k = true then QD x else Wn (Fb η) QD := by
  rw [orV_def, wn_bind]
  simp only [wn_bind, wn_ite, wn_ok]
theorem wn_notV {Fa : Nv → R D} : Wn (notV Fa η) QD ↔ Wn (Fa η) fun x => Wn (tru x) fun k => QD (.bool !k) := by
  rw [notV_def, wn_bind]
  simp only [wn_bind, wn_ok]
theorem wn_ifV {G : Nv → R Bool} {Fa Fb : Nv → R D} : Wn (ifV G Fa Fb η) QD ↔ Wn (G η) fun k => if k = true then Wn (Fa η) QD else Wn (Fb η) QD := by
  rw [ifV_def, wn_bind]
  simp only [wn_ite]
theorem wn_iA {F : Nv → R D} : Wn (iA F η) QL ↔ Wn (F η) fun d => Wn (asSeq d) QL := wn_bind
theorem wn_iR1 {Fs : Nv → R (List D)} : Wn (iR1 Fs η) QL ↔ Wn (Fs η) fun d => Wn (rng1 d) QL := wn_bind
theorem wn_iR2 {Fs : Nv → R (List D)} : Wn (iR2 Fs η) QL ↔ Wn (Fs η) fun d => Wn (rng2 d) QL := wn_bind
theorem wn_iZ {Fs : Nv → R (List D)} : Wn (iZ Fs η) QL ↔ Wn (Fs η) fun d => Wn (zip2 d) QL := wn_bind
theorem wn_iEn {Fs : Nv → R (List D)} : Wn (iEn Fs η) QL ↔ Wn (Fs η) fun d => Wn (enum1 d) QL := wn_bind
theorem wn_iRR {F : Nv → R D} : Wn (iRR F η) QL ↔ Wn (F η) fun d => Wn (rr1 d) QL := wn_bind
theorem wn_sl {sl : Option Int → Option Int → D → Option D} {F : Nv → R D} {Lo Hi : Nv → R (Option Int)} : Wn (slE sl F Lo Hi η) QD ↔ Wn (F η) fun x => Wn (Lo η) fun l => Wn (Hi η) fun h => Wn (.of (sl l h x)) QD := by
  rw [slE_def, wn_bind]
  simp only [wn_bind]
theorem wn_p0 {Q : Option Int → Prop} : Wn (p0 η) Q ↔ Q none := by first | (unfold Wn; exact Iff.rfl) | (unfold Sn; exact Iff.rfl)
theorem wn_p1 {F : Nv → R D} {Q : Option Int → Prop} : Wn (p1 F η) Q ↔ Wn (F η) fun d => Wn (asInt d) Q := wn_bind
theorem wn_rng1 {n : Int} (h0 : 0 ≤ n) (h : n < 1000000) : Wn (rng1 [.int n]) QL ↔ QL (rangeD 0 n.toNat) := by
  rw [rng1_ok h0 h]
  all_goals first | exact Iff.rfl | (unfold Sn; exact Iff.rfl) | (unfold Wn; exact Iff.rfl)
/-! expressions that change lists -/
theorem wn_up {F : Nv → R D} : Wn (up F η) QX ↔ Wn (F η) fun d => QX (d, η) := by
  unfold up
  first | (unfold Wn; cases F η <;> exact Iff.rfl) | (unfold Sn; cases F η <;> exact Iff.rfl)
theorem wn_upB {G : Nv → R Bool} : Wn (upB G η) QY ↔ Wn (G η) fun d => QY (d, η) := by
  unfold upB
  first | (unfold Wn; cases G η <;> exact Iff.rfl) | (unfold Sn; cases G η <;> exact Iff.rfl)
theorem wn_upI {F : Nv → R (List D)} : Wn (upI F η) QM ↔ Wn (F η) fun d => QM (d, η) := by
  unfold upI
  first | (unfold Wn; cases F η <;> exact Iff.rfl) | (unfold Sn; cases F η <;> exact Iff.rfl)
theorem wn_x2 {f : D → D → Option D} {Fa Fb : Nv → R (D × Nv)} : Wn (x2 f Fa Fb η) QX ↔ Wn (Fa η) fun p => Wn (Fb p.2) fun q => Wn (.of (f p.1 q.1)) fun d => QX (d, q.2) := by
  unfold x2
  rw [wn_bind]
  simp only [wn_bind, wn_ok]
theorem wn_x0 : Wn (x0 η) QM ↔ QM ([], η) := by first | (unfold Wn; exact Iff.rfl) | (unfold Sn; exact Iff.rfl)
theorem wn_xC {Fa : Nv → R (D × Nv)} {Fs : Nv → R (List D × Nv)} : Wn (xC Fa Fs η) QM ↔ Wn (Fa η) fun p => Wn (Fs p.2) fun q => QM (p.1 :: q.1, q.2) := by
  unfold xC
  rw [wn_bind]
  simp only [wn_bind, wn_ok]
theorem wn_xN {f : List D → Option D} {Fs : Nv → R (List D × Nv)} : Wn (xN f Fs η) QX ↔ Wn (Fs η) fun p => Wn (.of (f p.1)) fun d => QX (d, p.2) := by
  unfold xN
  rw [wn_bind]
  simp only [wn_bind, wn_ok]
theorem wn_xb {F : Nv → R (D × Nv)} : Wn (xb F η) QY ↔ Wn (F η) fun p => Wn (tru p.1) fun k => QY (k, p.2) := by
  unfold xb
  rw [wn_bind]
  simp only [wn_bind, wn_ok]
theorem wn_xAnd {Ga Gb : Nv → R (Bool × Nv)} : Wn (xAnd Ga Gb η) QY ↔ Wn (Ga η) fun p => if p.1 = true then Wn (Gb p.2) QY else QY (false, p.2) := by
  unfold xAnd
  rw [wn_bind]
  simp only [wn_ite, wn_ok]
theorem wn_xOr {Ga Gb : Nv → R (Bool × Nv)} : Wn (xOr Ga Gb η) QY ↔ Wn (Ga η) fun p => if p.1 = true then QY (true, p.2) else Wn (Gb p.2) QY := by
  unfold xOr
  rw [wn_bind]
  simp only [wn_ite, wn_ok]
theorem wn_xNot {Ga : Nv → R (Bool × Nv)} : Wn (xNot Ga η) QY ↔ Wn (Ga η) fun p => QY (!p.1, p.2) := by
  unfold xNot
  rw [wn_bind]
  simp only [wn_ok]
theorem wn_xIf {G : Nv → R (Bool × Nv)} {Fa Fb : Nv → R (D × Nv)} : Wn (xIf G Fa Fb η) QX ↔ Wn (G η) fun p => if p.1 = true then Wn (Fa p.2) QX else Wn (Fb p.2) QX := by
  unfold xIf
  rw [wn_bind]
  simp only [wn_ite]
theorem wn_xCall {Fn : List D → R D} {Fs : Nv → R (List D × Nv)} : Wn (xCall Fn Fs η) QX ↔ Wn (Fs η) fun p => Wn (Fn p.1) fun d => QX (d, p.2) := by
  unfold xCall
  rw [wn_bind]
  simp only [wn_bind, wn_noex, wn_ok]
theorem wn_xR1 {Fs : Nv → R (List D × Nv)} : Wn (xR1 Fs η) QM ↔ Wn (Fs η) fun p => Wn (rng1 p.1) fun d => QM (d, p.2) := by
  unfold xR1
  rw [wn_bind]
  simp only [wn_bind, wn_ok]
theorem wn_xR2 {Fs : Nv → R (List D × Nv)} : Wn (xR2 Fs η) QM ↔ Wn (Fs η) fun p => Wn (rng2 p.1) fun d => QM (d, p.2) := by
  unfold xR2
  rw [wn_bind]
  simp only [wn_bind, wn_ok]
/-- a def that changes its first list: the list there, and what it does -/
theorem wn_callK {i : Nat} {Fk : List D → List D → R (D × List D)} {Fs : Nv → R (List D × Nv)} {o : OL} (h0 : η[i]? = some (.own o)) (h : Wn (Fs η) fun p => ∃ xs, p.2[i]? = some (.own xs) ∧ Wn (Fk xs.l p.1) fun r => QX (r.1, p.2.set i (.own ⟨xs.b, r.2⟩))) : Wn (xCallK i Fk Fs η) QX := by
  unfold xCallK
  rw [h0]
  show Wn ((Fs η).bind (xPut i Fk)) QX
  rw [wn_bind]
  refine h.imp fun p ⟨xs, e, q⟩ => ?_
  unfold xPut
  rw [e]
  show Wn ((Fk xs.l p.1).bind _) QX
  simp only [wn_bind, wn_ok]
  exact q
/-! statements -/
theorem sn_nx : Sn (.nx η) N T B C ↔ N η := by first | (unfold Wn; exact Iff.rfl) | (unfold Sn; exact Iff.rfl)
theorem sn_rt {d : D} : Sn (.rt d η) N T B C ↔ T d η := by first | (unfold Wn; exact Iff.rfl) | (unfold Sn; exact Iff.rfl)
theorem sn_bk : Sn (.bk η) N T B C ↔ B η := by first | (unfold Wn; exact Iff.rfl) | (unfold Sn; exact Iff.rfl)
theorem sn_ct : Sn (.ct η) N T B C ↔ C η := by first | (unfold Wn; exact Iff.rfl) | (unfold Sn; exact Iff.rfl)
theorem sn_seq {Gs Gt : Nv → Rs} : Sn (seqS Gs Gt η) N T B C ↔ Sn (Gs η) (fun η1 => Sn (Gt η1) N T B C) T B C := by
  rw [seqS_def]
  first | (unfold Wn; cases Gs η <;> exact Iff.rfl) | (unfold Sn; cases Gs η <;> exact Iff.rfl)
theorem sn_toS {r : R α} {f : α → Rs} : Sn (r.toS f) N T B C ↔ Wn r fun a => Sn (f a) N T B C := by first | (unfold Wn; cases r <;> exact Iff.rfl) | (unfold Sn Wn; cases r <;> exact Iff.rfl)
theorem sn_ite {c : Prop} [Decidable c] {a b : Rs} : Sn (if c then a else b) N T B C ↔ if c then Sn a N T B C else Sn b N T B C := by
  split <;> exact Iff.rfl
theorem sn_set {i : Nat} {F : Nv → R D} : Sn (setS i F η) N T B C ↔ Wn (F η) fun d => N (η.set i (.d d)) := by
  rw [setS_def, sn_toS]
  all_goals first | exact Iff.rfl | (unfold Sn; exact Iff.rfl) | (unfold Wn; exact Iff.rfl)
theorem sn_ret {F : Nv → R D} : Sn (retS F η) N T B C ↔ Wn (F η) fun d => T d η := by
  rw [retS_def, sn_toS]
  all_goals first | exact Iff.rfl | (unfold Sn; exact Iff.rfl) | (unfold Wn; exact Iff.rfl)
theorem sn_expr {F : Nv → R D} : Sn (exprS F η) N T B C ↔ Wn (F η) fun _ => N η := by
  rw [exprS_def, sn_toS]
  all_goals first | exact Iff.rfl | (unfold Sn; exact Iff.rfl) | (unfold Wn; exact Iff.rfl)
theorem sn_if {G : Nv → R Bool} {Gs Gt : Nv → Rs} : Sn (ifS G Gs Gt η) N T B C ↔ Wn (G η) fun k => if k = true then Sn (Gs η) N T B C else Sn (Gt η) N T B C := by
  rw [ifS_def, sn_toS]
  simp only [sn_ite]
theorem sn_for {Fi : Nv → R (List D)} {Tg : Tgt} {Gb : Nv → Rs} : Sn (forS Fi Tg Gb η) N T B C ↔ Wn (Fi η) fun xs => Sn (loopG Tg Gb xs η) N T B C := by
  rw [forS_def, sn_toS]
theorem sn_xSet {i : Nat} {F : Nv → R (D × Nv)} : Sn (xSet i F η) N T B C ↔ Wn (F η) fun p => N (p.2.set i (.d p.1)) := by
  unfold xSet
  rw [sn_toS, wn_only]
  all_goals first | exact Iff.rfl | (unfold Sn; exact Iff.rfl) | (unfold Wn; exact Iff.rfl)
theorem sn_xRet {F : Nv → R (D × Nv)} : Sn (xRet F η) N T B C ↔ Wn (F η) fun p => T p.1 p.2 := by
  unfold xRet
  rw [sn_toS, wn_only]
  all_goals first | exact Iff.rfl | (unfold Sn; exact Iff.rfl) | (unfold Wn; exact Iff.rfl)
theorem sn_xExpr {F : Nv → R (D × Nv)} : Sn (xExpr F η) N T B C ↔ Wn (F η) fun p => N p.2 := by
  unfold xExpr
  rw [sn_toS, wn_only]
  all_goals first | exact Iff.rfl | (unfold Sn; exact Iff.rfl) | (unfold Wn; exact Iff.rfl)
theorem sn_xIf {G : Nv → R (Bool × Nv)} {Gs Gt : Nv → Rs} : Sn (xIfS G Gs Gt η) N T B C ↔ Wn (G η) fun p => if p.1 = true then Sn (Gs p.2) N T B C else Sn (Gt p.2) N T B C := by
  unfold xIfS
  rw [sn_toS, wn_only]
  simp only [sn_ite]
theorem sn_xFor {Fi : Nv → R (List D × Nv)} {Tg : Tgt} {Gb : Nv → Rs} : Sn (xFor Fi Tg Gb η) N T B C ↔ Wn (Fi η) fun p => Sn (loopG Tg Gb p.1 p.2) N T B C := by
  unfold xFor
  rw [sn_toS, wn_only]
theorem sn_asg {Tg : Tgt} {F : Nv → R D} : Sn (asgS Tg F η) N T B C ↔ Wn (F η) fun d => ∃ η1, Tg d η = some η1 ∧ N η1 := by
  unfold asgS
  rw [sn_toS]
  constructor <;> refine fun h => h.imp fun d h => ?_
  · split at h
    · rename_i e
      exact ⟨_, e, sn_nx'.mp h⟩
    · exact (sn_no.mp h).elim
  · obtain ⟨η1, e, h⟩ := h
    rw [e]
    exact sn_nx'.mpr h
theorem sn_xAsg {Tg : Tgt} {F : Nv → R (D × Nv)} : Sn (xAsg Tg F η) N T B C ↔ Wn (F η) fun p => ∃ η1, Tg p.1 p.2 = some η1 ∧ N η1 := by
  unfold xAsg
  rw [sn_toS, wn_only]
  constructor <;> refine fun h => h.imp fun d h => ?_
  · split at h
    · rename_i e
      exact ⟨_, e, sn_nx'.mp h⟩
    · exact (sn_no.mp h).elim
  · obtain ⟨η1, e, h⟩ := h
    rw [e]
    exact sn_nx'.mpr h
theorem sn_own {i : Nat} {F : Nv → R D} : Sn (ownS i F η) N T B C ↔ Wn (F η) fun d => ∃ xs, d = .list xs ∧ N (η.set i (.own ⟨true, xs⟩)) := by
  unfold ownS
  rw [sn_toS]
  constructor <;> refine fun h => h.imp fun d h => ?_
  · split at h
    · exact ⟨_, rfl, sn_nx'.mp h⟩
    · exact (sn_no.mp h).elim
  · obtain ⟨xs, rfl, h⟩ := h
    exact sn_nx'.mpr h
theorem sn_xOwn {i : Nat} {F : Nv → R (D × Nv)} : Sn (xOwn i F η) N T B C ↔ Wn (F η) fun p => ∃ xs, p.1 = .list xs ∧ N (p.2.set i (.own ⟨true, xs⟩)) := by
  unfold xOwn
  rw [sn_toS, wn_only]
  constructor <;> refine fun h => h.imp fun p h => ?_
  · split at h
    · rename_i e
      exact ⟨_, e, sn_nx'.mp h⟩
    · exact (sn_no.mp h).elim
  · obtain ⟨xs, e, h⟩ := h
    rw [e]
    exact sn_nx'.mpr h
theorem sn_app {i : Nat} {F : Nv → R D} {xs : OL} (h0 : η[i]? = some (.own xs)) (h : Wn (F η) fun y => xs.l.length < lineN ∧ N (η.set i (.own ⟨xs.b, xs.l ++ [y]⟩))) : Sn (appS i F η) N T B C := by
  obtain ⟨y, e, hl, q⟩ := h.get
  rw [appS_own i F η xs y h0 e hl]
  exact sn_nx'.mpr q
theorem sn_xApp {i : Nat} {F : Nv → R (D × Nv)} {o : OL} (h0 : η[i]? = some (.own o)) (h : Wn (F η) fun p => ∃ xs, p.2[i]? = some (.own xs) ∧ xs.l.length < lineN ∧ N (p.2.set i (.own ⟨xs.b, xs.l ++ [p.1]⟩))) : Sn (xApp i F η) N T B C := by
  unfold xApp
  rw [h0]
  show Sn ((only (F η)).toS (appX i)) N T B C
  rw [sn_toS, wn_only]
  refine h.imp fun p ⟨xs, e, hl, q⟩ => ?_
  unfold appX
  rw [e]
  show Sn (if xs.l.length < lineN then _ else _) N T B C
  rw [if_pos hl]
  exact sn_nx'.mpr q
theorem sn_frz {i : Nat} {xs : List D} (h0 : η[i]? = some (.own ⟨true, xs⟩)) (h : N (η.set i (.d (.list xs)))) : Sn (frzS i η) N T B C := by
  rw [frz_ok h0]
  exact sn_nx'.mpr h
theorem sn_retO {i : Nat} {xs : List D} (h0 : η[i]? = some (.own ⟨true, xs⟩)) (h : T (.list xs) η) : Sn (retO i η) N T B C := by
  rw [retO_own i η xs h0]
  exact sn_rt.mpr h
/-- THE LOOP: I of what is left -/
theorem sn_loop {Tg : Tgt} {Gb : Nv → Rs} (I : List D → Nv → Prop) (step : ∀ x rest η, I (x :: rest) η → ∃ η1, Tg x η = some η1 ∧ Sn (Gb η1) (I rest) T N (I rest)) (fin : ∀ η, I [] η → N η) : ∀ (xs : List D) (η : Nv), I xs η → Sn (loopG Tg Gb xs η) N T B C
  | [], η, h => sn_nx'.mpr (fin η h)
  | x :: xs, η, h => by
    obtain ⟨η1, e, k⟩ := step x xs η h
    rw [loopG_cons (η1 := η1) (h := e)]
    cases q : Gb η1 with
    | nx η2 => rw [q] at k; exact sn_loop I step fin xs η2 (sn_nx'.mp k)
    | ct η2 => rw [q] at k; exact sn_loop I step fin xs η2 (sn_ct.mp k)
    | bk η2 => rw [q] at k; exact sn_nx'.mpr (sn_bk.mp k)
    | rt d η2 => rw [q] at k; exact sn_rt.mpr (sn_rt.mp k)
    | ex c w p => rw [q] at k; unfold Sn at k; exact k.elim
    | no => rw [q] at k; exact (sn_no.mp k).elim
/-- a comprehension that changes lists: I of what is left and of what is there -/
theorem wn_compX {Tg : Tgt} {Cn : Nv → R (Bool × Nv)} {El : Nv → R (D × Nv)} {vs : List Nat} (I : List D → List D → Nv → Prop)
    (step : ∀ x rest acc η, I (x :: rest) acc η → ∃ η1, Tg x η = some η1 ∧ Wn (Cn η1) fun b => if b.1 = true then Wn (El b.2) fun y => I rest (acc ++ [y.1]) (wipeE y.2 vs) else I rest acc (wipeE b.2 vs))
    (fin : ∀ acc η, I [] acc η → QM (acc, η)) : ∀ (xs acc : List D) (η : Nv), I xs acc η → Wn (compX Tg Cn El vs xs η) fun p => QM (acc ++ p.1, p.2)
  | [], acc, η, h => by
    refine wn_ok.mpr ?_
    show QM (acc ++ [], η)
    rw [List.append_nil]
    exact fin acc η h
  | x :: xs, acc, η, h => by
    obtain ⟨η1, e, k⟩ := step x xs acc η h
    unfold compX
    rw [e]
    show Wn ((Cn η1).bindN _) _
    rw [wn_bindN]
    refine k.imp fun b k => ?_
    cases hb : b.1 with
    | true =>
      rw [hb] at k
      simp only [↓reduceIte] at k ⊢
      rw [wn_bindN]
      refine k.imp fun y k => ?_
      rw [wn_bindN]
      refine (wn_compX I step fin xs (acc ++ [y.1]) _ k).imp fun q k => ?_
      rw [List.append_assoc] at k
      exact wn_ok.mpr k
    | false =>
      rw [hb] at k
      simp only [Bool.false_eq_true, ↓reduceIte] at k ⊢
      exact wn_compX I step fin xs acc _ k
theorem wn_xComp {Fi : Nv → R (List D × Nv)} {Tg : Tgt} {Cn : Nv → R (Bool × Nv)} {El : Nv → R (D × Nv)} {vs : List Nat} (I : List D → List D → Nv → Prop)
    (h : Wn (Fi η) fun p => I p.1 [] (wipeE p.2 vs))
    (step : ∀ x rest acc η, I (x :: rest) acc η → ∃ η1, Tg x η = some η1 ∧ Wn (Cn η1) fun b => if b.1 = true then Wn (El b.2) fun y => I rest (acc ++ [y.1]) (wipeE y.2 vs) else I rest acc (wipeE b.2 vs))
    (fin : ∀ acc η, I [] acc η → acc.length ≤ lineN ∧ QX (.list acc, η)) : Wn (xComp Fi Tg Cn El vs η) QX := by
  unfold xComp
  rw [wn_bindN]
  refine h.imp fun p h => ?_
  rw [wn_bindN]
  refine (wn_compX (QM := fun q => q.1.length ≤ lineN ∧ QX (.list q.1, q.2)) I step fin _ [] _ h).imp fun q k => ?_
  rw [List.nil_append] at k
  rw [if_pos k.1]
  exact wn_ok.mpr k.2
/-- a comprehension that changes nothing: what is picked, what is told of it -/
theorem wn_comp {Fi : Nv → R (List D)} {Tg : Tgt} {Cn : Nv → R Bool} {El : Nv → R D} {vs : List Nat} {xs : List D} (c : D → Bool) (g : D → D) (hi : Wn (Fi η) (· = xs))
    (step : ∀ x ∈ xs, ∃ η1, Tg x (wipeE η vs) = some η1 ∧ Wn (Cn η1) fun b => b = c x ∧ (b = true → Wn (El η1) (· = g x))) (hz : xs.length ≤ lineN) (q : QD (.list ((xs.filter c).map g))) : Wn (compE Fi Tg Cn El vs η) QD := by
  obtain ⟨ys, e, rfl⟩ := hi.get
  refine Wn.mk (compE_ok e (compD_filter (c := c) (g := g) ys fun x m => ?_) ?_) q
  · obtain ⟨η1, e1, k⟩ := step x m
    obtain ⟨b, e2, rfl, k⟩ := k.get
    refine ⟨η1, e1, e2, fun hb => ?_⟩
    obtain ⟨y, e3, rfl⟩ := (k hb).get
    exact e3
  · rw [List.length_map]
    exact Nat.le_trans (List.length_filter_le _ _) hz
/-! defs -/
theorem wn_runD {m : Nat} {fall : R D} {G : Nv → Rs} {ds : List D} (h : Sn (G (initD m ds)) (fun _ => False) (fun d _ => QD d) (fun _ => False) (fun _ => False)) : Wn (runD m fall G ds) QD := by
  unfold runD
  unfold Sn at h
  cases e : G (initD m ds) with
  | rt d η => rw [e] at h; exact wn_ok.mpr h
  | nx η => rw [e] at h; exact h.elim
  | bk η => rw [e] at h; exact h.elim
  | ct η => rw [e] at h; exact h.elim
  | ex c w p => rw [e] at h; exact h.elim
  | no => rw [e] at h; exact h.elim
theorem wn_runK {m : Nat} {G : Nv → Rs} {kx ds : List D} {QK : D × List D → Prop} (h : Sn (G (initK m kx ds)) (fun _ => False) (fun d η => ∃ kx', η[(0 : Nat)]? = some (.own ⟨false, kx'⟩) ∧ QK (d, kx')) (fun _ => False) (fun _ => False)) : Wn (runK m G kx ds) QK := by
  unfold runK
  unfold Sn at h
  cases e : G (initK m kx ds) with
  | rt d η =>
    rw [e] at h
    obtain ⟨kx', h1, h2⟩ := h
    show Wn (outK d η) QK
    unfold outK
    rw [h1]
    exact wn_ok.mpr h2
  | nx η => rw [e] at h; exact h.elim
  | bk η => rw [e] at h; exact h.elim
  | ct η => rw [e] at h; exact h.elim
  | ex c w p => rw [e] at h; exact h.elim
  | no => rw [e] at h; exact h.elim
/-- a draw -/
theorem wn_draw {kx : List D} {b : Int} {QK : D × List D → Prop} (hk : Dk.Deck kx) (hb : 0 < b ∧ b < 1073741824) (k : ∀ i kx', Dk.Deck kx' → 0 ≤ i → i < b → QK (.int i, kx')) : Wn (Dk.F_draw kx [.int b]) QK := by
  obtain ⟨i, kx', h1, h2, h3, h4⟩ := Dk.draw_ok hk hb
  exact Wn.mk h4 (k i kx' h1 h2 h3)
theorem wn_deck {ns : List Int} (k : ∀ kx, Dk.Deck kx → QD (.list kx)) : Wn (Dk.F_deck [.list (ns.map PyData.int)]) QD := by
  obtain ⟨kx, h1, h2⟩ := Dk.deck_ok ns
  exact Wn.mk h2 (k kx h1)
end

end Bd
/-! M7: more of how the parts are reckoned. -/
namespace Bd
open PySem L2

theorem gT2 {i j : Nat} {a b : D} {η : Nv} : gT 2 (gsC (gN i) (gsC (gN j) gs0)) (.tuple [a, b]) η = some ((η.set i (.d a)).set j (.d b)) := rfl
theorem gT3 {i j k : Nat} {a b c : D} {η : Nv} : gT 3 (gsC (gN i) (gsC (gN j) (gsC (gN k) gs0))) (.tuple [a, b, c]) η = some (((η.set i (.d a)).set j (.d b)).set k (.d c)) := rfl
theorem eqv_ints : ∀ a b : List Int, PyData.eqvAll (a.map PyData.int) (b.map PyData.int) = decide (a = b)
  | [], [] => rfl
  | [], y :: b => rfl
  | x :: a, [] => rfl
  | x :: a, y :: b => by
    show (PyData.eqv (.int x) (.int y) && PyData.eqvAll (a.map PyData.int) (b.map PyData.int)) = _
    rw [eqv_ints a b]
    have e : PyData.eqv (.int x) (.int y) = decide (x = y) := by
      unfold PyData.eqv
      rw [Bool.eq_iff_iff]
      simp
    rw [e, Bool.eq_iff_iff]
    simp
theorem eqv_tup (a b : List Int) : PyData.eqv (tupI a) (tupI b) = decide (a = b) := by
  show PyData.eqvAll (a.map PyData.int) (b.map PyData.int) = _
  exact eqv_ints a b
theorem eqV_tup (a b : List Int) : eqV' (tupI a) (tupI b) = some (.bool (decide (a = b))) := by
  unfold eqV'
  split
  · rename_i h1 h2
    cases h1
  · rw [if_pos ⟨shaped_tup a, shaped_tup b⟩, eqv_tup]
theorem neV_tup (a b : List Int) : neV' (tupI a) (tupI b) = some (.bool (!decide (a = b))) := by
  unfold neV'
  split
  · rename_i h1 h2
    cases h1
  · rw [if_pos ⟨shaped_tup a, shaped_tup b⟩, eqv_tup]
theorem any_mem (a : Int) (l : List Int) : l.any (· == a) = decide (a ∈ l) := by
  rw [Bool.eq_iff_iff, List.any_eq_true, decide_eq_true_iff]
  constructor
  · rintro ⟨x, m, e⟩
    rw [← eq_of_beq e]
    exact m
  · exact fun m => ⟨a, m, beq_self_eq_true a⟩
theorem in_tup (a : Int) (l : List Int) : inV' (.int a) (tupI l) = some (.bool (decide (a ∈ l))) := by
  show (if flatD (.int a) = true ∧ (l.map PyData.int).all flatD = true then some ((l.map PyData.int).any fun z => PyData.eqv z (.int a)) else none).map PyData.bool = _
  rw [if_pos ⟨rfl, ints_flat l⟩, any_ints, any_mem]
  rfl
theorem notin_tup' (a : Int) (l : List Int) : ninV' (.int a) (tupI l) = some (.bool (!decide (a ∈ l))) := by
  rw [notin_tup, notIn, any_mem]
theorem tup_nil : PyData.tuple [] = tupI [] := rfl
theorem tru_tup (l : List Int) : tru (tupI l) = .ok !l.isEmpty := by
  show R.ok (!(l.map PyData.int).isEmpty) = _
  cases l <;> rfl
/-- within a line of numbers -/
structure InU (U : List Int) (l : List Int) : Prop where
  asc : Asc l
  sub : ∀ x ∈ l, x ∈ U
theorem InU.nil {U : List Int} : InU U [] := ⟨.nil, fun _ m => absurd m List.not_mem_nil⟩
theorem InU.sum {U a b : List Int} (ha : InU U a) (hb : InU U b) : InU U (sumL a b) := ⟨sumL_asc ha.asc hb.asc, fun x m => by
  rcases mem_sumL.mp m with ⟨m, _⟩ | ⟨m, _⟩
  · exact ha.sub x m
  · exact hb.sub x m⟩
theorem asc_le : ∀ {a b : List Int}, Asc a → Asc b → (∀ x ∈ a, x ∈ b) → a.length ≤ b.length
  | [], _, _, _, _ => Nat.zero_le _
  | x :: a, [], _, _, h => absurd (h x List.mem_cons_self) List.not_mem_nil
  | x :: a, y :: b, ha, hb, h => by
    obtain ⟨ha1, ha2⟩ := List.pairwise_cons.mp ha
    obtain ⟨hb1, hb2⟩ := List.pairwise_cons.mp hb
    rw [List.length_cons, List.length_cons]
    refine Nat.succ_le_succ (asc_le ha2 hb2 fun z m => ?_)
    have lt := ha1 z m
    rcases List.mem_cons.mp (h z (List.mem_cons_of_mem _ m)) with e | m'
    · subst e
      rcases List.mem_cons.mp (h x List.mem_cons_self) with e | m2
      · omega
      · have := hb1 x m2
        omega
    · exact m'
theorem InU.len {U a : List Int} (h : InU U a) (hU : Asc U) : a.length ≤ U.length := asc_le h.asc hU h.sub
theorem Wn.eq {α : Type} {r : R α} {a : α} (h : Wn r (· = a)) : r = .ok a := by
  obtain ⟨b, e, rfl⟩ := h.get
  exact e
theorem wn_xCompO {i : Nat} {Tg : Tgt} {Cn : Nv → R (Bool × Nv)} {El : Nv → R (D × Nv)} {vs : List Nat} {η : Nv} {QX : D × Nv → Prop} {o : OL} (I : List D → List D → Nv → Prop) (h0 : η[i]? = some (.own o))
    (h : I o.l [] (wipeE η vs))
    (step : ∀ x rest acc η, I (x :: rest) acc η → ∃ η1, Tg x η = some η1 ∧ Wn (Cn η1) fun b => if b.1 = true then Wn (El b.2) fun y => I rest (acc ++ [y.1]) (wipeE y.2 vs) else I rest acc (wipeE b.2 vs))
    (fin : ∀ acc η, I [] acc η → acc.length ≤ lineN ∧ QX (.list acc, η)) : Wn (xCompO i Tg Cn El vs η) QX := by
  unfold xCompO
  rw [h0]
  show Wn ((compX Tg Cn El vs o.l (wipeE η vs)).bindN _) QX
  rw [wn_bindN]
  refine (wn_compX (QM := fun q => q.1.length ≤ lineN ∧ QX (.list q.1, q.2)) I step fin _ [] _ h).imp fun q k => ?_
  rw [List.nil_append] at k
  rw [if_pos k.1]
  exact wn_ok.mpr k.2
/-- a draw from the deck at s -/
theorem wn_drw {s : Nat} {b : Int} {η : Nv} {o : OL} {QX : D × Nv → Prop} (h0 : η[s]? = some (.own o)) (hk : Dk.Deck o.l) (hb : 0 < b ∧ b < 1073741824) (k : ∀ i kx', Dk.Deck kx' → 0 ≤ i → i < b → QX (.int i, η.set s (.own ⟨o.b, kx'⟩))) :
    Wn (xCallK s Dk.F_draw (xC (up (k0 (.int b))) x0) η) QX := by
  refine wn_callK h0 ?_
  rw [wn_xC, wn_up, k0_def, wn_ok, wn_x0]
  show ∃ xs, η[s]? = some (.own xs) ∧ Wn (Dk.F_draw xs.l [.int b]) _
  exact ⟨o, h0, wn_draw hk hb k⟩
theorem sn_xIns {i : Nat} {Fs : Nv → R (List D × Nv)} {o : OL} {η : Nv} {N B C : Nv → Prop} {T : D → Nv → Prop} (h0 : η[i]? = some (.own o)) (h : Wn (Fs η) fun p => ∃ xs j y, p.1 = [.int j, y] ∧ p.2[i]? = some (.own xs) ∧ 0 ≤ j ∧ j < 2 ^ 63 ∧ xs.l.length < lineN ∧ N (p.2.set i (.own ⟨xs.b, xs.l.take j.toNat ++ [y] ++ xs.l.drop j.toNat⟩))) :
    Sn (xIns i Fs η) N T B C := by
  unfold xIns
  rw [h0]
  show Sn ((only (Fs η)).toS (insAt i)) N T B C
  rw [sn_toS, wn_only]
  refine h.imp fun p ⟨xs, j, y, e1, e2, h1, h2, h3, q⟩ => ?_
  unfold insAt
  rw [e1, e2]
  show Sn (if _ then _ else _) N T B C
  rw [if_pos ⟨h1, h2, h3⟩]
  exact sn_nx'.mpr q
theorem neV_int (i j : Int) : neV' (.int i) (.int j) = some (.bool (!(i == j))) := by
  unfold neV'
  split
  · rename_i h1 h2
    cases h1
  · rw [if_pos ⟨shaped_int i, shaped_int j⟩]
    rfl
theorem fine_row {U l : List Int} (h : InU U l) (hU : Asc U) (lU : U.length < 128) (b : ∀ x ∈ U, -1000000000000 < x ∧ x < 1000000000000) : Fine 1 6000 (tupI l) := by
  have f := fine_tuple (k := 0) (n := 41) (xs := l.map PyData.int) fun d m => by
    obtain ⟨x, mx, rfl⟩ := List.mem_map.mp m
    exact fine_int (b x (h.sub x mx)).1 (b x (h.sub x mx)).2
  have z := h.len hU
  refine f.mono (Nat.le_refl _) ?_
  rw [List.length_map]
  omega
theorem fine_rows {U : List Int} {rows : List (List Int)} (h : ∀ r ∈ rows, InU U r) (hU : Asc U) (lU : U.length < 128) (b : ∀ x ∈ U, -1000000000000 < x ∧ x < 1000000000000) (hl : rows.length ≤ 100) : Fine 2 700000 (.list (rows.map tupI)) := by
  have f := fine_list (k := 1) (n := 6000) (xs := rows.map tupI) fun d m => by
    obtain ⟨r, mr, rfl⟩ := List.mem_map.mp m
    exact fine_row (h r mr) hU lU b
  refine f.mono (Nat.le_refl _) ?_
  rw [List.length_map]
  omega
end Bd
/-! X5: set(xs), xs a list of ints, with its table. -/
namespace Bd
open PySem PySem.Spec PyProof.Rows L2

/-- a set just made -/
def set0 (w : World) : Obj := { cls := .type "set", dict := none, data := .set #[] 0 (.fresh 0 0 (!w.params.followText "set-order")) }
section
variable {P : Program} {w : World} {A : Around} {E : Value → Shared → Prop} {s : Shared}
/-- the walk that fills the set at z from the list at l -/
theorem fill_listI {z l : Addr} {its : Array Value} (ns : List Int) {R : Result → Shared → Prop} (hh : A.in1.handled = none) (hz : s.heap.get? z = some (set0 w)) (hl : s.heap.IsList l its) (hi : IntsAre its.toList ns) (hb : ns.length + 1 < scanBound) (ne : l ≠ z)
    (k : ∀ (h' : Heap) (tk c : Nat), SetR w h' z (fun j => decide (j ∈ ns)) c → c ≤ ns.length → (∀ b o, b ≠ z → s.heap.get? b = some o → h'.get? b = some o) → R (.ok (.ret .none)) { s with heap := h', toks := tk }) :
    codeAny (model P w) A (.builtin "set.update.loop" ⟨[.ref z, .ref s.heap.objs.size], []⟩) R { s with heap := s.heap.push { cls := .type "list_iterator", data := .fields #[.ref l, .int 0 0] } } := by
  have zlt : z < s.heap.objs.size := Heap.lt_size hz
  obtain ⟨ol, hol, -⟩ := id hl
  have llt : l < s.heap.objs.size := Heap.lt_size hol
  have n0 : its.size = ns.length := by
    have q := IntsAre.length hi
    rwa [Array.length_toList] at q
  have vals : ∀ (i : Nat) (v : Value), its[i]? = some v → ∃ k t, ns[i]? = some k ∧ v = .int k t := fun i v hv => by
    have lt : i < ns.length := n0 ▸ (Array.getElem?_eq_some_iff.mp hv).1
    obtain ⟨t, e⟩ := IntsAre.int_at hi i v (by rw [Array.getElem?_toList]; exact hv)
    have g := List.getElem?_eq_getElem lt
    refine ⟨ns[i], t, g, ?_⟩
    rw [e, List.getD_eq_getElem?_getD, g]
    rfl
  have nz : z ∉ [s.heap.objs.size, l] := fun m => by
    rcases List.mem_cons.mp m with e | m
    · exact Nat.ne_of_lt zlt e
    · exact ne (List.mem_singleton.mp m).symm
  have old : ∀ b o, s.heap.get? b = some o → (s.heap.push { cls := .type "list_iterator", data := .fields #[.ref l, .int 0 0] }).get? b = some o := fun b o e => Heap.get?_push_of_some _ e
  refine set_update_ints (P := P) (w := w) (A := A) ((Walks.list hh s.heap.objs.size l (Nat.ne_of_lt llt) its).toS) z nz ns n0 hb vals its.size 0 _ (by omega) (Nat.zero_le _) ⟨⟨_, Heap.get?_push_size _ rfl, rfl, rfl⟩, hl.push _⟩ ⟨0, Nat.le_refl 0, setR_new_at (old _ _ hz)⟩ ?_
  rintro ⟨h', g', d', tk', os'⟩ c mv hc hs
  have e1 : g' = s.gens := mv.gens
  have e2 : d' = s.drawn := mv.drawn
  have e3 : os' = s.os := mv.os
  rw [e1, e2, e3]
  refine k h' tk' c hs (n0 ▸ hc) fun b o hbz e => mv.heap b o (fun m => ?_) (old b o e)
  rcases List.mem_cons.mp m with m | m
  · exact hbz m
  · exact Nat.ne_of_lt (Heap.lt_size e) (List.mem_singleton.mp m)
set_option maxRecDepth 100000 in
set_option maxHeartbeats 3200000 in
/-- set.__init__ of a set just made, from a list of ints -/
theorem init_listI {z l : Addr} {its : Array Value} (ns : List Int) {R : Result → Shared → Prop} {Z : Code → Shared → Prop} (hh : A.handled = none) (hz : s.heap.get? z = some (set0 w)) (hl : s.heap.IsList l its) (hi : IntsAre its.toList ns) (hb : ns.length + 1 < scanBound) (ne : l ≠ z)
    (k : ∀ (h' : Heap) (tk c : Nat), SetR w h' z (fun j => decide (j ∈ ns)) c → c ≤ ns.length → (∀ b o, b ≠ z → s.heap.get? b = some o → h'.get? b = some o) → R (.ok (.ret .none)) { s with heap := h', toks := tk }) :
    wpAny (model P w) A (Builtin.«set.__init__» ⟨[.ref z, .ref l], []⟩) (fun fin s' => match fin with | .done f => R (.ok f) s' | .again c' => Z c' s') (fun e s' => R (.error e) s') s := by
  obtain ⟨⟨oc, od, oda, os⟩, hol, hc, n, hd⟩ := id hl
  have hc : oc = .type "list" := hc
  have hd : oda = .seq its n := hd
  subst hc hd
  have f1 := F.sub_list_set
  have f2 := F.sub_list_frozenset
  have f3 : (Value.type "list" == Value.type "dict") = false := by decide
  have hz' : s.heap.get? z = some { cls := .type "set", dict := none, data := .set #[] 0 (.fresh 0 0 (!w.params.followText "set-order")) } := hz
  unfold Builtin.«set.__init__»
  unfold Builtin.Frozenset.updateFrom noKeywords
  generalize hPI : pyIter = PI
  wp_walk
  subst hPI
  refine wpAny_pyIter_list hl ?_
  refine wpAny_bind (wpAny_runValue ?_)
  refine fill_listI ns (by simp [hh]) hz hl hi hb ne fun h' tk c q1 q2 q3 => ?_
  refine wpAny_pure ?_
  exact wpAny_pure (k h' tk c q1 q2 q3)
theorem set_listI {l : Addr} {its : Array Value} (ns : List Int) {Q : Value → Shared → Prop} (hh : A.handled = none) (hl : s.heap.IsList l its) (hi : IntsAre its.toList ns) (hb : ns.length + 1 < scanBound)
    (k : ∀ (h' : Heap) (tk c : Nat), SetR w h' s.heap.objs.size (fun j => decide (j ∈ ns)) c → c ≤ ns.length → (∀ b o, s.heap.get? b = some o → h'.get? b = some o) → Q (.ref s.heap.objs.size) { s with heap := h', toks := tk }) :
    wpAny (model P w) A (call (.type "set") [.ref l]) Q E s := by
  have tc := F.called_set
  obtain ⟨mc, mt, hm⟩ := tc.mro
  have t1 := tc.made
  have t2 := tc.sub
  have t3 := tc.notType
  have t4 := tc.canCreate
  have t5 := F.typeCall_set_1 (.ref l)
  have live : ∀ b o, s.heap.get? b = some o → (s.heap.push (set0 w)).get? b = some o := fun b o e => Heap.get?_push_of_some _ e
  have born : (s.heap.push (set0 w)).get? s.heap.objs.size = some (set0 w) := Heap.get?_push_size _ rfl
  refine wpAny_call (codeAny_of_tree (show wpAny _ _ (callAny (.type "set") _) _ _ _ from wpAny_pure ⟨Code.quiet_builtin _ (by decide +kernel), codeAny_builtin F.entry_type_call ?_⟩))
  have t8 := weight_type_call_type "set" [.ref l] []
  rw [Around.under_plain t8 rfl]
  repeat (any_goals (first | assumption | wp_step))
  refine codeAny_mono (code_set_led1 (P := P) (w := w) (A := A.in1) (s := s) (.ref l) (E := E) (Q₁ := fun v s1 => v = .ref s.heap.objs.size ∧ s1 = { s with heap := s.heap.push (set0 w) }) ⟨rfl, rfl⟩) ?_
  rintro (e | (v | v | _ | _)) s1 hr
  all_goals first | exact hr | exact hr.elim | skip
  obtain ⟨rfl, rfl⟩ := hr
  have kind : Shared.TypeIs { s with heap := s.heap.push (set0 w) } (.ref s.heap.objs.size) "set" := ⟨_, born, rfl⟩
  have t6 := tc.init.lookup
  have t7 := tc.init.bind (.ref s.heap.objs.size)
  repeat (any_goals (first | assumption | wp_step))
  refine codeAny_mono (codeAny_call_builtin (R := (fun r s2 => ∃ (h' : Heap) (tk c : Nat), r = .ok (.ret .none) ∧ s2 = { s with heap := h', toks := tk } ∧ SetR w h' s.heap.objs.size (fun j => decide (j ∈ ns)) c ∧ c ≤ ns.length ∧ ∀ b o, s.heap.get? b = some o → h'.get? b = some o)) tc.init.plain F.entry_set_init (check_set_init_1 kind ?_)) ?_
  · obtain ⟨ol, hol, -⟩ := id hl
    have hA : A.in1.in1.handled = none := by simp [hh]
    exact init_listI (P := P) (w := w) (A := A.in1.in1) (s := { s with heap := s.heap.push (set0 w) }) ns (R := (fun r s2 => ∃ (h' : Heap) (tk c : Nat), r = .ok (.ret .none) ∧ s2 = { s with heap := h', toks := tk } ∧ SetR w h' s.heap.objs.size (fun j => decide (j ∈ ns)) c ∧ c ≤ ns.length ∧ ∀ b o, s.heap.get? b = some o → h'.get? b = some o)) hA born (hl.push _) hi hb (Nat.ne_of_lt (Heap.lt_size hol)) fun h' tk c q1 q2 q3 => ⟨h', tk, c, rfl, rfl, q1, q2, fun b o e => q3 b o (Nat.ne_of_lt (Heap.lt_size e)) (live b o e)⟩
  · rintro r s2 ⟨h', tk, c, rfl, rfl, q1, q2, q3⟩
    repeat (any_goals (first | assumption | wp_step))
    exact k h' tk c q1 q2 q3
end
end Bd
/-! D24: set(xs), xs a list or a tuple of ints, by data. -/
namespace Bd
open PySem L2

section
variable {X : Cx} {W : WX} {a : Expr} {pos p : Pos}
def rSetL (K : PySem.W.Frag) (w : World) : List V → Hp → VK → Prop := fun vs H Q => ∃ (a : Addr) (ns : List Int), vs = [.ref a] ∧ SqL K H a (ns.map V.int) ∧ ns.length < 4000 ∧ ∀ p, H p = none → Q (.ref p) (upd H p (SetL w p (sset ns)))
theorem cr_setLI (hc : X.calm = true) : CallR X (.type "set") (rSetL X.K X.w) := by
  intro pins s σ H vs us Q I r h
  obtain ⟨a, ns, rfl, hq, hz, q⟩ := h
  rw [Vals.ref1 r]
  obtain ⟨its, rr, hl, _⟩ := I.list hq
  refine set_listI (its := its.toArray) ns (I.ok.hd hc) hl.isList (by simpa using RZ.intsAre_vals rr) (by unfold scanBound; omega) fun h' tk c R hk kp => ?_
  have R2 := setL_of R (sset_asc ns) fun k => by rw [decide_eq_true_iff, mem_sset]
  exact ⟨.ref _, upd H s.heap.objs.size (SetL X.w s.heap.objs.size (sset ns)), I.laid (t' := tk) kp (Nat.le_refl _) (setO_new R2), rfl, q _ (I.hok.fresh (Nat.le_refl _))⟩
def setLV : List D → Option D
  | [.list ds] => (ints? ds).bind fun l => if l.length < 4000 then some (.list ((sset l).map PyData.int)) else none
  | _ => none
theorem o_setLI : OpN X (rSs X.w) (rSetL X.K X.w) setLV := fun H A vs ds d Q hA h e k => by
  unfold setLV at e
  split at e
  · rename_i xs
    cases c : ints? xs with
    | none => rw [c] at e; cases e
    | some l =>
      rw [c] at e
      have e : (if l.length < 4000 then some (PyData.list ((sset l).map PyData.int)) else none) = some d := e
      split at e
      · rename_i hz
        have e := Option.some.inj e
        subst e
        obtain ⟨v, rfl, q⟩ := all1 h
        obtain ⟨t, us, rfl, h1, h2⟩ := rO_list q
        rw [ints?_eq c] at h2
        rw [vals_ints h2] at h1
        exact ⟨t, l, rfl, h1, hz, fun z hn => k _ _ (same_new hn) ⟨z, sset l, rfl, rfl, sset_asc l, hn, upd_same⟩⟩
      · cases e
  · cases e
def setAV (ds : List D) : Option D := match setV ds with
  | some d => some d
  | none => setLV ds
def rSetA (K : PySem.W.Frag) (w : World) : List V → Hp → VK → Prop := fun vs H Q => rSetI K w vs H Q ∨ rSetL K w vs H Q
theorem cr_setA (hc : X.calm = true) : CallR X (.type "set") (rSetA X.K X.w) := fun pins s σ H vs us Q I r h => h.elim (cr_setI hc pins s σ H vs us Q I r) (cr_setLI hc pins s σ H vs us Q I r)
theorem o_setA : OpN X (rSs X.w) (rSetA X.K X.w) setAV := fun H A vs ds d Q hA h e k => by
  unfold setAV at e
  split at e
  · rename_i d0 e0
    have e := Option.some.inj e
    subst e
    exact .inl (o_setI H A vs ds _ Q hA h e0 k)
  · exact .inr (o_setLI H A vs ds d Q hA h e k)
theorem t_setA (hm : X.mg "set" = none) {Fs : Nv → R (List D)} (ha : TAs X W (vO X.K) [a] Fs) (hc : X.calm = true := by rfl) (hg : Gl X "set" := by rfl) (he : starEach [a] X.env = (false, eval a X.env) :: starEach [] X.env := by rfl) (hpl : (backTo pos (starEach [] X.env)).any (·.1) = false := by rfl) :
    PE X (.Call (.Name "set" p) [a] [] pos) (tR X.K X.mg W (rSs X.w) (eN setAV Fs)) := t_callTy back_Ss (cr_setA hc) o_setA hg hm (by decide +kernel) ha (he := he) (hpl := hpl)
theorem setAV_list {l : List Int} (h : l.length < 4000) : setAV [.list (l.map PyData.int)] = some (.list ((sset l).map PyData.int)) := by
  show setLV [.list (l.map PyData.int)] = _
  show (ints? (l.map PyData.int)).bind _ = _
  rw [ints?_map]
  exact if_pos h
end
end Bd
/-! D23: rows of three ints and a thing sorted, when the ints tell the thing. -/
namespace Bd
open PySem L2

def key3 : D → Int × Int × Int
  | .tuple [.int a, .int b, .int c, _] => (a, b, c)
  | _ => (0, 0, 0)
def lt3 (p q : Int × Int × Int) : Bool := if p.1 = q.1 then (if p.2.1 = q.2.1 then decide (p.2.2 < q.2.2) else decide (p.2.1 < q.2.1)) else decide (p.1 < q.1)
theorem lt3_iff {p q : Int × Int × Int} : lt3 p q = true ↔ p.1 < q.1 ∨ (p.1 = q.1 ∧ (p.2.1 < q.2.1 ∨ (p.2.1 = q.2.1 ∧ p.2.2 < q.2.2))) := by
  unfold lt3
  by_cases e : p.1 = q.1
  · rw [if_pos e]
    by_cases e' : p.2.1 = q.2.1
    · rw [if_pos e', decide_eq_true_eq]
      omega
    · rw [if_neg e', decide_eq_true_eq]
      omega
  · rw [if_neg e, decide_eq_true_eq]
    omega
theorem lt3_no {p q : Int × Int × Int} : lt3 p q = false ↔ ¬ (p.1 < q.1 ∨ (p.1 = q.1 ∧ (p.2.1 < q.2.1 ∨ (p.2.1 = q.2.1 ∧ p.2.2 < q.2.2)))) := by
  rw [← lt3_iff]
  cases lt3 p q <;> simp
theorem lt3_anti {p q : Int × Int × Int} (h1 : lt3 p q = false) (h2 : lt3 q p = false) : p = q := by
  have a := lt3_no.mp h1
  have b := lt3_no.mp h2
  obtain ⟨x, y, z⟩ := p
  obtain ⟨x', y', z'⟩ := q
  dsimp only at a b
  have e1 : x = x' := by omega
  have e2 : y = y' := by omega
  have e3 : z = z' := by omega
  rw [e1, e2, e3]
theorem swo3 {α : Type} (k : α → Int × Int × Int) : SrtO.Swo fun v u => lt3 (k v) (k u) := by
  refine ⟨fun x y h => ?_, fun x y z h1 h2 => ?_⟩
  · have a := lt3_iff.mp h
    refine lt3_no.mpr ?_
    omega
  · have a := lt3_no.mp h1
    have b := lt3_no.mp h2
    refine lt3_no.mpr ?_
    omega
def le3 (x y : D) : Bool := !lt3 (key3 y) (key3 x)
def sort3 (xs : List D) : List D := xs.mergeSort le3
def Ok3 (d : D) : Prop := ∃ a b c e, d = .tuple [.int a, .int b, .int c, e] ∧ e.canLay0 = true ∧ e.depth ≤ 60
def intO : Option Value → Int
  | some (.int n _) => n
  | _ => 0
def kyV (h : Heap) : Value → Int × Int × Int
  | .ref a => match h.get? a with
    | some o => match o.data with
      | .seq xs _ => (intO xs[0]?, intO xs[1]?, intO xs[2]?)
      | _ => (0, 0, 0)
    | none => (0, 0, 0)
  | _ => (0, 0, 0)
theorem read_int {h : Heap} {v : Value} {a : Int} {as : List Addr} (r : Reads h v (.int a) as) : ∃ t, v = .int a t := by
  cases r
  exact ⟨_, rfl⟩
theorem read_row {h : Heap} {v : Value} {a b c : Int} {e : D} {as : List Addr} (r : Reads h v (.tuple [.int a, .int b, .int c, e]) as) : ∃ p o t u z y n bs, v = .ref p ∧ h.get? p = some o ∧ o.cls = .type "tuple" ∧ o.data = .seq #[.int a t, .int b u, .int c z, y] n ∧ Reads h y e bs := by
  cases r with
  | @tuple p o vs n _ _ h1 h2 h3 h4 =>
    obtain ⟨l⟩ := vs
    cases h4 with
    | cons r1 q1 => cases q1 with
      | cons r2 q2 => cases q2 with
        | cons r3 q3 => cases q3 with
          | cons r4 q4 =>
            cases q4
            obtain ⟨t, rfl⟩ := read_int r1
            obtain ⟨u, rfl⟩ := read_int r2
            obtain ⟨z, rfl⟩ := read_int r3
            exact ⟨p, o, t, u, z, _, n, _, rfl, h1, h2, h3, r4⟩
theorem kyV_row {h : Heap} {v : Value} {d : D} {as : List Addr} (k : Ok3 d) (r : Reads h v d as) : kyV h v = key3 d := by
  obtain ⟨a, b, c, e, rfl, -, -⟩ := k
  obtain ⟨p, o, t, u, z, y, n, bs, rfl, h1, h2, h3, h4⟩ := read_row r
  unfold kyV
  simp only [h1, h3]
  rfl
section
variable {prog : Program} {w : World} {A : Around} {s : Shared}
theorem row_cmp {ds : List D} {vs : List Value} {k : Value → Int × Int × Int} (hu : A.units + 61 < cLine) (hds : ∀ d ∈ ds, Ok3 d) (hdd : ∀ d ∈ ds, ∀ e ∈ ds, key3 d = key3 e → d = e)
    (hp : ∀ v ∈ vs, ∃ d ∈ ds, (∃ as, Reads s.heap v d as) ∧ k v = key3 d) : SrtO.Cmp prog w A s (PyProof.Rows.tuples' true) (fun p => p.1 ∈ vs) (SrtO.lt2 fun v u => lt3 (k v) (k u)) := by
  intro p q hm hm'
  obtain ⟨d, md, ⟨as, r1⟩, k1⟩ := hp _ hm
  obtain ⟨d', md', ⟨as', r2⟩, k2⟩ := hp _ hm'
  show wpAny (model prog w) A (PyProof.Rows.keyLt' (PyProof.Rows.tuples' true) p.1 q.1) (fun r s' => s' = s ∧ r = lt3 (k p.1) (k q.1)) (fun _ _ => False) s
  rw [k1, k2]
  have same := hdd d md d' md'
  obtain ⟨a, b, c, e, rfl, g1, g2⟩ := hds d md
  obtain ⟨a', b', c', e', rfl, g1', g2'⟩ := hds d' md'
  obtain ⟨x, o, t, u, z, y, n, bs, ev, ho, hc, hd, hr⟩ := read_row r1
  obtain ⟨x', o', t', u', z', y', n', bs', ev', ho', hc', hd', hr'⟩ := read_row r2
  rw [ev, ev']
  refine PySem.W.kat_lt ho hd ho' hd' ?_
  show PySem.W.KatLex prog w A true (decide (4 < 4)) _ [(.int a t, .int a' t'), (.int b u, .int b' u'), (.int c z, .int c' z'), (y, y')] 0 s
  have key : lt3 (key3 (.tuple [.int a, .int b, .int c, e])) (key3 (.tuple [.int a', .int b', .int c', e'])) = if a = a' then (if b = b' then decide (c < c') else decide (b < b')) else decide (a < a') := rfl
  rw [key]
  refine PySem.W.kat_cons (SeqAt.EqAt.int_int a t a' t' prog w _ _ ?_)
  refine PySem.W.kat_go (fun e1 => ?_) (fun e1 => ?_)
  · have ea : a = a' := by simpa using e1
    rw [if_pos ea]
    refine PySem.W.kat_yes (PySem.W.kat_cons (SeqAt.EqAt.int_int b u b' u' prog w _ _ ?_))
    refine PySem.W.kat_go (fun e2 => ?_) (fun e2 => ?_)
    · have eb : b = b' := by simpa using e2
      rw [if_pos eb]
      refine PySem.W.kat_yes (PySem.W.kat_cons (SeqAt.EqAt.int_int c z c' z' prog w _ _ ?_))
      refine PySem.W.kat_go (fun e3 => ?_) (fun e3 => ?_)
      · have ec : c = c' := by simpa using e3
        have ee : e = e' := by
          have := same (by rw [ea, eb, ec]; rfl)
          injection this with this
          injection this with _ this
          injection this with _ this
          injection this with _ this
          injection this with this _
        subst ee
        refine PySem.W.kat_yes (PySem.W.kat_cons (SeqAt.eqAt_reads e e A s y y' bs bs' hr hr' g1 g1 (by rw [Nat.min_self]; omega) prog w _ _ ?_))
        rw [SeqAt.eqv_refl e g1]
        refine PySem.W.kat_yes (PySem.W.kat_nil ⟨rfl, ?_⟩)
        rw [ec]
        exact (decide_eq_false (Int.lt_irrefl _)).symm
      · exact PySem.W.kat_no (PySem.W.kat_one _ _ (PyProof.Rows.lt_int ⟨rfl, rfl⟩))
    · have eb : ¬ b = b' := by simpa using e2
      rw [if_neg eb]
      exact PySem.W.kat_no (PySem.W.kat_one _ _ (PyProof.Rows.lt_int ⟨rfl, rfl⟩))
  · have ea : ¬ a = a' := by simpa using e1
    rw [if_neg ea]
    exact PySem.W.kat_no (PyProof.Rows.oneLt_int ⟨rfl, rfl⟩)
theorem row_firsts {h : Heap} {ds : List D} (hds : ∀ d ∈ ds, Ok3 d) : ∀ {vs : List Value}, (∀ v ∈ vs, ∃ d ∈ ds, ∃ as, Reads h v d as) → ∃ fs : List Value, PySem.W.KatTups h vs fs ∧ fs.length = vs.length ∧ ∀ f ∈ fs, ∃ x t, f = Value.int x t
  | [], _ => ⟨[], PySem.W.KatTups.nil, rfl, fun _ hm => by simp at hm⟩
  | v :: vs, hp => by
    obtain ⟨fs, h1, h2, h3⟩ := row_firsts hds (vs := vs) fun v' hm => hp v' (List.mem_cons_of_mem _ hm)
    obtain ⟨d, md, as, r⟩ := hp v List.mem_cons_self
    obtain ⟨a, b, c, e, rfl, g1, g2⟩ := hds d md
    obtain ⟨p, o, t, u, z, y, n, bs, rfl, ho, hc, hd, hr⟩ := read_row r
    refine ⟨.int a t :: fs, PySem.W.KatTups.cons ho hc hd rfl h1, by rw [List.length_cons, List.length_cons, h2], fun f hm => ?_⟩
    rcases List.mem_cons.mp hm with rfl | hm
    · exact ⟨a, t, rfl⟩
    · exact h3 f hm
end
theorem each_perm {R : Value → V × D → Prop} {vs out : List Value} (p : out.Perm vs) : ∀ {zs : List (V × D)}, PySem.W.EachIs R vs zs → ∃ zs', zs'.Perm zs ∧ PySem.W.EachIs R out zs' := by
  induction p with
  | nil => exact fun e => ⟨_, .refl _, e⟩
  | cons x _ ih =>
    intro zs e
    cases e with
    | cons a t =>
      obtain ⟨zs', p', e'⟩ := ih t
      exact ⟨_, p'.cons _, .cons a e'⟩
  | swap x y l =>
    intro zs e
    cases e with
    | cons a t => cases t with
      | cons b t => exact ⟨_, .swap _ _ _, .cons b (.cons a t)⟩
  | trans _ _ ih1 ih2 =>
    intro zs e
    obtain ⟨z1, p1, e1⟩ := ih2 e
    obtain ⟨z2, p2, e2⟩ := ih1 e1
    exact ⟨z2, p2.trans p1, e2⟩
theorem each_pairwise {R : Value → V × D → Prop} {P : Value → Value → Prop} {P' : D → D → Prop} (h : ∀ v u z y, R v z → R u y → P v u → P' z.2 y.2) : ∀ {out : List Value} {zs : List (V × D)}, PySem.W.EachIs R out zs → out.Pairwise P → (zs.map (·.2)).Pairwise P'
  | _, _, .nil, _ => .nil
  | _, _, .cons a t, q => by
    rw [List.pairwise_cons] at q
    rw [List.map_cons, List.pairwise_cons]
    refine ⟨?_, each_pairwise h t q.2⟩
    intro d md
    obtain ⟨y, my, rfl⟩ := List.mem_map.mp md
    obtain ⟨u, mu, ru⟩ := each_at t my
    exact h _ _ _ _ a ru (q.1 u mu)
where each_at {R : Value → V × D → Prop} : ∀ {out : List Value} {zs : List (V × D)}, PySem.W.EachIs R out zs → ∀ {y : V × D}, y ∈ zs → ∃ u ∈ out, R u y
  | _, _, .nil, _, m => absurd m List.not_mem_nil
  | _, _, .cons a t, y, m => by
    rcases List.mem_cons.mp m with rfl | m
    · exact ⟨_, List.mem_cons_self, a⟩
    · obtain ⟨u, mu, r⟩ := each_at t m
      exact ⟨u, List.mem_cons_of_mem _ mu, r⟩
theorem le3_trans (a b c : D) (h1 : le3 a b = true) (h2 : le3 b c = true) : le3 a c = true := by
  unfold le3 at *
  simp only [Bool.not_eq_true'] at *
  exact (swo3 key3).tr a b c h1 h2
theorem le3_total (a b : D) : (le3 a b || le3 b a) = true := by
  unfold le3
  cases h : lt3 (key3 b) (key3 a) with
  | false => rfl
  | true => rw [(swo3 key3).asym b a h]; rfl
theorem sort3_unique {l xs : List D} (hdd : ∀ d ∈ xs, ∀ e ∈ xs, key3 d = key3 e → d = e) (p : l.Perm xs) (s : l.Pairwise fun x y => lt3 (key3 y) (key3 x) = false) : l = sort3 xs := by
  have p2 : (sort3 xs).Perm xs := List.mergeSort_perm xs le3
  refine List.Perm.eq_of_pairwise (le := fun x y => lt3 (key3 y) (key3 x) = false) (fun a b ma mb h1 h2 => hdd a (p.mem_iff.mp ma) b (p2.mem_iff.mp mb) (lt3_anti h2 h1)) s ?_ (p.trans p2.symm)
  have q := List.pairwise_mergeSort (le := le3) le3_trans le3_total xs
  refine q.imp fun {a b} h => ?_
  unfold le3 at h
  simpa using h
section
variable {X : Cx}
def rSort3 (K : PySem.W.Frag) : List V → Hp → VK → Prop := fun vs H Q => ∃ (a : Addr) (zs : List (V × D)), vs = [.ref a] ∧ SqL K H a (zs.map (·.1)) ∧ (∀ z ∈ zs, Dp K H z.1 z.2) ∧ (∀ d ∈ zs.map (·.2), Ok3 d) ∧ (∀ d ∈ zs.map (·.2), ∀ e ∈ zs.map (·.2), key3 d = key3 e → d = e) ∧
  ∀ (p : Addr) (zs' : List (V × D)), H p = none → (∀ z ∈ zs', z ∈ zs) → zs'.map (·.2) = sort3 (zs.map (·.2)) → Q (.ref p) (upd H p (.lst (zs'.map (·.1))))
theorem cr_sort3 (hu : X.A.units + 64 < cLine) : CallR X (.builtin "sorted") (rSort3 X.K) := by
  intro pins s σ H vs us Q I r h
  obtain ⟨a, zs, rfl, hs, hd, hok, hdd, q⟩ := h
  obtain ⟨its, rv, hl, hz⟩ := I.list hs
  obtain ⟨u, rfl, ru⟩ := vals1 r
  obtain rfl : u = Value.ref a := ru
  have e0 := each_of (zs0 := zs) (R := fun u z => RelV z.1 u ∧ z ∈ zs ∧ ∃ as, Reads s.heap u z.2 as) (fun u z rz m => ⟨rz, m, Dp.reads I z.2 z.1 u (hd z m) rz⟩) zs its (fun z m => m) rv
  have hall : ∀ v ∈ its, ∃ d ∈ zs.map (·.2), (∃ as, Reads s.heap v d as) ∧ kyV s.heap v = key3 d := fun v m => by
    obtain ⟨z, mz, r1, r2, as, r3⟩ := at_each e0 m
    exact ⟨z.2, List.mem_map.mpr ⟨z, mz, rfl⟩, ⟨as, r3⟩, kyV_row (hok _ (List.mem_map.mpr ⟨z, mz, rfl⟩)) r3⟩
  refine SrtO.sorted_ord (swo3 (kyV s.heap)) hl.isList (by
      have := rv.length
      rw [List.length_map] at this
      rw [List.length_map] at hz
      first | exact hz | omega) (fun h2 h₁ b hb kk => ?_) fun out ho hst => ?_
  · intro h' keep
    have kp : ∀ b' o, s.heap.get? b' = some o → h'.get? b' = some o := fun b' o e => keep b' o (kk b' o e).1 (kk b' o e).2
    have hall' : ∀ v ∈ its, ∃ d ∈ zs.map (·.2), (∃ as, Reads h' v d as) ∧ kyV s.heap v = key3 d := fun v m => by
      obtain ⟨d, md, ⟨as, r1⟩, k1⟩ := hall v m
      exact ⟨d, md, ⟨as, PyProof.Rows.Reads.keeps kp r1⟩, k1⟩
    obtain ⟨fs, f1, f2, f3⟩ := row_firsts (h := h') hok (vs := its) fun v m => by
      obtain ⟨d, md, r1, -⟩ := hall' v m
      exact ⟨d, md, r1⟩
    refine ⟨PyProof.Rows.tuples' true, fun Q E hq => ?_, row_cmp (s := { s with heap := h' }) (by
      show X.A.units + 2 + 61 < cLine
      omega) hok hdd hall'⟩
    refine PySem.W.kat_kind (T := .type "int") f1 (by omega) (fun f hm => ?_) (by rfl) ?_
    · obtain ⟨x, t, rfl⟩ := f3 f hm
      exact PySem.W.Looks.now
    · have e : (Value.type "int" != Value.type "tuple") = true := by first | decide +kernel | rfl | decide
      rw [e]
      exact hq
  · obtain ⟨zs', pz, ez⟩ := each_perm hst.perm e0
    obtain ⟨c, hc⟩ := PyProof.Rows.sortedAll_at s.heap its out.toArray
    have kp : ∀ b o, s.heap.get? b = some o → (PyProof.Rows.sortedAll s.heap its out.toArray).get? b = some o := fun b o => PyProof.Rows.sortedAll_old
    have hd' : s.heap.objs.size ≤ s.heap.objs.size + 1 := Nat.le_succ _
    have vo := vals_each (fun _ _ h => h.1) ez
    have sr : (zs'.map (·.2)).Pairwise fun x y => lt3 (key3 y) (key3 x) = false := each_pairwise (P := fun x y => lt3 (kyV s.heap y) (kyV s.heap x) = false) (fun v u z y r1 r2 h => by
      obtain ⟨-, mz, as, q1⟩ := r1
      obtain ⟨-, my, bs, q2⟩ := r2
      rw [kyV_row (hok _ (List.mem_map.mpr ⟨z, mz, rfl⟩)) q1, kyV_row (hok _ (List.mem_map.mpr ⟨y, my, rfl⟩)) q2] at h
      exact h) ez ho
    have un := sort3_unique hdd (pz.map (·.2)) sr
    refine ⟨.ref (s.heap.objs.size + 1), upd H (s.heap.objs.size + 1) (.lst (zs'.map (·.1))), I.laid (t' := s.toks) kp hd' ⟨?_, out, c, vo, hc⟩, rfl, q _ zs' (I.hok.fresh hd') (fun z m => pz.mem_iff.mp m) un⟩
    rw [List.length_map] at hz ⊢
    rw [pz.length_eq]
    exact hz
where at_each {R : Value → V × D → Prop} : ∀ {out : List Value} {zs : List (V × D)}, PySem.W.EachIs R out zs → ∀ {v : Value}, v ∈ out → ∃ z ∈ zs, R v z
  | _, _, .nil, _, m => absurd m List.not_mem_nil
  | _, _, .cons a t, y, m => by
    rcases List.mem_cons.mp m with rfl | m
    · exact ⟨_, List.mem_cons_self, a⟩
    · obtain ⟨u, mu, r⟩ := at_each t m
      exact ⟨u, List.mem_cons_of_mem _ mu, r⟩
end
end Bd
namespace Bd
open PySem L2
def at0 : D → D → Bool
  | .none, .none => true
  | .int a, .int b => decide (a = b)
  | _, _ => false
def at1 : List D → List D → Bool
  | [], [] => true
  | x :: xs, y :: ys => at0 x y && at1 xs ys
  | _, _ => false
def at2 : D → D → Bool
  | .tuple xs, .tuple ys => at1 xs ys
  | _, _ => false
def at3 : D → D → Bool
  | .tuple [.int a, .int b, .int c, x], .tuple [.int a', .int b', .int c', y] => decide (a = a') && decide (b = b') && decide (c = c') && at2 x y
  | _, _ => false
theorem at0_eq {x y : D} (h : at0 x y = true) : x = y := by
  unfold at0 at h
  split at h
  · rfl
  · rw [of_decide_eq_true h]
  · cases h
theorem at1_eq : ∀ {xs ys : List D}, at1 xs ys = true → xs = ys
  | [], [], _ => rfl
  | [], _ :: _, h => by cases h
  | _ :: _, [], h => by cases h
  | x :: xs, y :: ys, h => by
    unfold at1 at h
    simp only [Bool.and_eq_true] at h
    rw [at0_eq h.1, at1_eq h.2]
theorem at2_eq {x y : D} (h : at2 x y = true) : x = y := by
  unfold at2 at h
  split at h
  · rw [at1_eq h]
  · cases h
theorem at3_eq {x y : D} (h : at3 x y = true) : x = y := by
  unfold at3 at h
  split at h
  · simp only [Bool.and_eq_true, decide_eq_true_eq] at h
    rw [h.1.1.1, h.1.1.2, h.1.2, at2_eq h.2]
  · cases h
def ok3B : D → Bool
  | .tuple [.int _, .int _, .int _, x] => x.canLay0 && decide (x.depth ≤ 60)
  | _ => false
theorem ok3B_ok {d : D} (h : ok3B d = true) : Ok3 d := by
  unfold ok3B at h
  split at h
  · simp only [Bool.and_eq_true, decide_eq_true_eq] at h
    exact ⟨_, _, _, _, rfl, h.1, h.2⟩
  · cases h
def det3 (xs : List D) : Bool := xs.all ok3B && xs.all fun d => xs.all fun e => if key3 d = key3 e then at3 d e else true
def sort3V : List D → Option D
  | [.list xs] => if det3 xs = true then some (.list (sort3 xs)) else none
  | _ => none
section
variable {X : Cx} {W : WX} {e : Expr} {pos p : Pos}
theorem o_sort3 : OpN X (rF X.K) (rSort3 X.K) sort3V := fun H A vs ds d Q hA h e k => by
  unfold sort3V at e
  split at e
  · split at e
    · rename_i xs hb
      have e := Option.some.inj e
      subst e
      obtain ⟨v, rfl, q⟩ := all1 h
      obtain ⟨l, ws, rfl, h1, q1⟩ := rO_list q
      obtain ⟨z1, z2, z3⟩ := zip_fst q1
      unfold det3 at hb
      simp only [Bool.and_eq_true, List.all_eq_true] at hb
      refine ⟨l, ws.zip xs, rfl, by rw [z1]; exact h1, fun z m => Dp_mono (z3 z m) (hid_le A H), by rw [z2]; exact fun d m => ok3B_ok (hb.1 d m), by
        rw [z2]
        intro d m e m' ek
        have y := hb.2 d m e m'
        rw [if_pos ek] at y
        exact at3_eq y, fun p zs' hp hm hs => ?_⟩
      refine k _ _ (same_new hp) (dp_new_list hA hp ?_)
      have y := dpAll_zip (K := X.K) (H := hid A H) (zs := zs') fun z m => z3 z (hm z m)
      rw [hs, z2] at y
      exact y
    · cases e
  · cases e
theorem t_sort3 {Fs : Nv → R (List D)} (hu : X.A.units + 64 < cLine) (hm : X.mg "sorted" = none) (ha : TAs X W (vO X.K) [e] Fs) (hgl : Gl X "sorted" := by rfl) (he : starEach [e] X.env = (false, eval e X.env) :: starEach [] X.env := by rfl) (hpl : (backTo pos (starEach [] X.env)).any (·.1) = false := by rfl) :
    TF X W (.Call (.Name "sorted" p) [e] [] pos) (eN sort3V Fs) := t_callB back_F (cr_sort3 hu) o_sort3 hgl hm (by decide +kernel) ha (he := he) (hpl := hpl)
theorem x_sort3 {Fs : Nv → R (List D × Nv)} (hu : X.A.units + 64 < cLine) (hm : X.mg "sorted" = none) (ha : TXA X [e] Fs) (hgl : Gl X "sorted" := by rfl) (he : starEach [e] X.env = (false, eval e X.env) :: starEach [] X.env := by rfl) (hpl : (backTo pos (starEach [] X.env)).any (·.1) = false := by rfl) :
    TX X (rD X.K) (.Call (.Name "sorted" p) [e] [] pos) (xN sort3V Fs) := x_callB back2_D (cr_sort3 hu) (fun H A vs ds d Q hA h e k => o_sort3 H A vs ds d Q hA h e fun v H' s q => k v H' s (rF_D (fun z hz m => hA z m hz) q)) hgl hm (by decide +kernel) ha (he := he) (hpl := hpl)
theorem mem_sort3 {xs : List D} {d : D} : d ∈ sort3 xs ↔ d ∈ xs := List.mem_mergeSort
end
end Bd
/-! P1: the bars that the laws draw. -/
namespace Bd
open PySem L2
namespace Br
def G__law_last : Nv → Rs :=
    (seqS (retS (ifV (tb (e2 isV (e2 ixV (gv 0) (k0 (.int 2))) (k0 .none))) (e2 powV (k0 (.int 10)) (k0 (.int 6))) (e2 ixV (gv 0) (k0 (.int 2)))))
    .nx)
def F__law_last : List D → R D := runD 1 (.ok .none) G__law_last
def G__law_sorted : Nv → Rs :=
    (seqS (retS (compE (iA (eN sort3V (aC (compE (iA (gv 0)) (gN 2) (fun _ => .ok true) (tupV (aC (e2 ixV (gv 2) (k0 (.int 0))) (aC (e2 ixV (gv 2) (k0 (.int 1))) (aC (callV F__law_last (aC (gv 2) a0)) (aC (gv 2) a0))))) [2]) a0))) (gN 1) (fun _ => .ok true) (e2 ixV (gv 1) (k0 (.int 3))) [1]))
    .nx)
def F__law_sorted : List D → R D := runD 3 .no G__law_sorted
def tC : Nv → Rs :=
    (seqS (xApp 2 (xN (fun ds => if ds.length ≤ lineN then some (.tuple ds) else none) (xC (xCallK 0 Dk.F_draw (xC (up (k0 (.int 3))) x0)) (xC (up (gv 4)) (xC (up (gv 5)) x0)))))
    (seqS (xIfS (xb (x2 eqV' (xCallK 0 Dk.F_draw (xC (up (k0 (.int 5))) x0)) (up (k0 (.int 0))))) (seqS (appS 2 (e2 ixV (go 2) (k0 (.int 0))))
    .nx) .nx)
    .nx))
def tB : Nv → Rs :=
    (seqS (xIfS (xb (x2 eqV' (xCallK 0 Dk.F_draw (xC (up (k0 (.int 4))) x0)) (up (k0 (.int 0))))) (seqS (setS 5 (k0 .none))
    .nx) .nx)
    tC)
def G__law_bars : Nv → Rs :=
    (seqS (ownS 2 (lstV a0))
    (seqS (xFor (xR1 (xC (xCallK 0 Dk.F_draw (xC (up (e2 addV (gv 1) (k0 (.int 1)))) x0)) x0)) (gN 3) (seqS (xSet 4 (x2 subV (xCallK 0 Dk.F_draw (xC (up (k0 (.int 25))) x0)) (up (k0 (.int 12)))))
    (seqS (xSet 5 (x2 addV (up (e2 addV (gv 4) (k0 (.int 1)))) (xCallK 0 Dk.F_draw (xC (up (k0 (.int 9))) x0))))
    (seqS (xIfS (xb (x2 eqV' (xCallK 0 Dk.F_draw (xC (up (k0 (.int 10))) x0)) (up (k0 (.int 0))))) (seqS (xAsg (gT 2 (gsC (gN 4) (gsC (gN 5) gs0))) (x2 ixV (up (lstV (aC (tupV (aC (e1 negV (k0 (.int 1000))) (aC (k0 (.int 1000)) a0))) (aC (tupV (aC (k0 (.int 999)) (aC (k0 (.int 1000)) a0))) (aC (tupV (aC (e1 negV (k0 (.int 1000))) (aC (e1 negV (k0 (.int 999))) a0))) (aC (tupV (aC (k0 (.int 0)) (aC (k0 (.int 1000)) a0))) a0)))))) (xCallK 0 Dk.F_draw (xC (up (k0 (.int 4))) x0))))
    .nx) .nx)
    tB))))
    (seqS (frzS 2)
    (seqS (retS (callV F__law_sorted (aC (gv 2) a0)))
    .nx))))
def F__law_bars : List D → List D → R (D × List D) := runK 6 G__law_bars
structure Bar where
  d : Int
  b : Int
  e : Option Int
def endD : Option Int → D
  | none => .none
  | some x => .int x
def bD (x : Bar) : D := .tuple [.int x.d, .int x.b, endD x.e]
def endI : Option Int → Int
  | none => 1000000
  | some x => x
structure Good (x : Bar) : Prop where
  d0 : 0 ≤ x.d
  d1 : x.d < 3
  b0 : -1000 ≤ x.b
  b1 : x.b ≤ 1000
  e : ∀ y, x.e = some y → x.b < y ∧ y ≤ 1000
theorem isV_none (e : Option Int) : isV (endD e) .none = some (.bool e.isNone) := by
  cases e <;> rfl
theorem last_ok (x : Bar) : F__law_last [bD x] = .ok (.int (endI x.e)) := by
  refine Wn.eq (wn_runD ?_)
  show Sn (G__law_last [.d (bD x)]) _ _ _ _
  unfold G__law_last bD
  simp only [wn_ok, wn_some, wn_only, wn_noex, wn_e2, wn_e1, wn_eN, wn_a0, wn_aC, wn_call, wn_tb, wn_tup, wn_lst, wn_andB, wn_orB, wn_notB, wn_andV, wn_orV, wn_notV, wn_ifV, wn_iA, wn_iR1, wn_iR2, wn_iZ, wn_iEn, wn_iRR, wn_sl, wn_p0, wn_p1, wn_up, wn_upB, wn_upI, wn_x2, wn_x0, wn_xC, wn_xN, wn_xb, wn_xAnd, wn_xOr, wn_xNot, wn_xIf, wn_xCall, wn_xR1, wn_xR2, sn_nx, sn_rt, sn_bk, sn_ct, sn_seq, sn_set, sn_ret, sn_expr, sn_if, sn_for, sn_xSet, sn_xRet, sn_xExpr, sn_xIf, sn_xFor, sn_asg, sn_xAsg, sn_own, sn_xOwn, gv_zero, gv_succ, go_own, go_dat, go_succ, k0_def, gN_def, tru_bool, tru_none, tru_int, tru_list, asSeq_list, asSeq_tup, addV_int, subV_int, ltA_i, leA_i, gtA_i, geA_i, negV_int, intV_int, lenV_list, lenV_tup, ixV_list, ixV_tup, asInt_int, slV_list, slV_tup, slL_list, revV_tup, revV_list, tupleV_list, listV_list, listV_tup, eqV_str, neV_str, eqV_int, List.set_cons_zero, List.set_cons_succ, List.getElem?_cons_zero, List.getElem?_cons_succ, List.length_cons, List.length_nil, ↓reduceIte, Bool.false_eq_true, Bool.not_true, Bool.not_false, wn_ite, gT2, gT3, neV_tup, eqV_tup, in_tup, notin_tup', lineN_eq, Nat.reduceAdd, Nat.reduceLeDiff, Nat.zero_le, true_and, and_true, List.map_nil, List.map_cons, exists_eq_left', Option.some.injEq, PyData.list.injEq, exists_eq_left, PyData.int.injEq, R.ok.injEq, Sl.own.injEq, show atD [.int x.d, .int x.b, endD x.e] 2 = some (endD x.e) from rfl, isV_none, powV_int (i := 10) (j := 6) ⟨by decide, by decide, by decide⟩]
  cases x.e <;> rfl
def rowD (x : Bar) : D := .tuple [.int x.d, .int x.b, .int (endI x.e), bD x]
def rowF : D → D
  | .tuple [.int d, .int b, .int e] => .tuple [.int d, .int b, .int e, .tuple [.int d, .int b, .int e]]
  | .tuple [.int d, .int b, .none] => .tuple [.int d, .int b, .int 1000000, .tuple [.int d, .int b, .none]]
  | _ => .none
theorem rowF_bD (x : Bar) : rowF (bD x) = rowD x := by
  obtain ⟨d, b, e⟩ := x
  cases e <;> rfl
def barF : D → D
  | .tuple [_, _, _, b] => b
  | _ => .none
theorem barF_row (x : Bar) : barF (rowD x) = bD x := rfl
theorem ok3_row (x : Bar) : ok3B (rowD x) = true := by
  obtain ⟨d, b, e⟩ := x
  cases e with
  | none =>
    show ((PyData.tuple [.int d, .int b, .none]).canLay0 && decide ((PyData.tuple [.int d, .int b, .none]).depth ≤ 60)) = true
    simp [PyData.canLay0, PyData.depth, PyData.canLayAll0, PyData.depthAll]
  | some y =>
    show ((PyData.tuple [.int d, .int b, .int y]).canLay0 && decide ((PyData.tuple [.int d, .int b, .int y]).depth ≤ 60)) = true
    simp [PyData.canLay0, PyData.depth, PyData.canLayAll0, PyData.depthAll]
theorem at3_row {x y : Bar} (hx : Good x) (hy : Good y) (h : key3 (rowD x) = key3 (rowD y)) : at3 (rowD x) (rowD y) = true := by
  obtain ⟨d, b, e⟩ := x
  obtain ⟨d', b', e'⟩ := y
  have h' : (d, b, endI e) = (d', b', endI e') := h
  injection h' with h1 h2
  injection h2 with h2 h3
  subst h1 h2
  have ee : e = e' := by
    cases e with
    | none => cases e' with
      | none => rfl
      | some z =>
        have := hy.e z rfl
        have h3 : (1000000 : Int) = z := h3
        omega
    | some z => cases e' with
      | none =>
        have := hx.e z rfl
        have h3 : z = (1000000 : Int) := h3
        omega
      | some z' =>
        have h3 : z = z' := h3
        rw [h3]
  subst ee
  cases e <;> simp [rowD, bD, endD, endI, at3, at2, at1, at0]
theorem det_rows {bs : List Bar} (h : ∀ x ∈ bs, Good x) : det3 (bs.map rowD) = true := by
  unfold det3
  rw [Bool.and_eq_true, List.all_eq_true, List.all_eq_true]
  refine ⟨fun d m => ?_, fun d m => ?_⟩
  · obtain ⟨x, _, rfl⟩ := List.mem_map.mp m
    exact ok3_row x
  · rw [List.all_eq_true]
    intro e m'
    obtain ⟨x, mx, rfl⟩ := List.mem_map.mp m
    obtain ⟨y, my, rfl⟩ := List.mem_map.mp m'
    split
    · rename_i ek
      exact at3_row (h x mx) (h y my) ek
    · rfl
theorem perm_map {α β : Type} {f : α → β} {l m : List β} (p : l.Perm m) : ∀ {bs : List α}, m = bs.map f → ∃ cs : List α, cs.Perm bs ∧ l = cs.map f := by
  induction p with
  | nil =>
    intro bs e
    cases bs with
    | nil => exact ⟨[], .nil, rfl⟩
    | cons _ _ => cases e
  | cons x _ ih =>
    intro bs e
    cases bs with
    | nil => cases e
    | cons y bs =>
      injection e with e1 e2
      obtain ⟨cs, p, rfl⟩ := ih e2
      exact ⟨y :: cs, p.cons y, by rw [e1]; rfl⟩
  | swap x y l =>
    intro bs e
    match bs, e with
    | a :: c :: bs, e =>
      injection e with e1 e2
      injection e2 with e2 e3
      exact ⟨c :: a :: bs, .swap _ _ _, by rw [e1, e2, e3]; rfl⟩
  | trans _ _ ih1 ih2 =>
    intro bs e
    obtain ⟨cs, p1, rfl⟩ := ih2 e
    obtain ⟨cs2, p2, rfl⟩ := ih1 rfl
    exact ⟨cs2, p2.trans p1, rfl⟩
theorem sorted_w {bs : List Bar} {QD : D → Prop} (h : ∀ x ∈ bs, Good x) (hl : bs.length ≤ 1000) (k : ∀ cs : List Bar, cs.Perm bs → QD (.list (cs.map bD))) : Wn (F__law_sorted [.list (bs.map bD)]) QD := by
  refine wn_runD ?_
  show Sn (G__law_sorted [.d (.list (bs.map bD)), .no, .no]) _ _ _ _
  unfold G__law_sorted
  simp only [wn_ok, wn_some, wn_only, wn_noex, wn_e2, wn_e1, wn_eN, wn_a0, wn_aC, wn_call, wn_tb, wn_tup, wn_lst, wn_andB, wn_orB, wn_notB, wn_andV, wn_orV, wn_notV, wn_ifV, wn_iA, wn_iR1, wn_iR2, wn_iZ, wn_iEn, wn_iRR, wn_sl, wn_p0, wn_p1, wn_up, wn_upB, wn_upI, wn_x2, wn_x0, wn_xC, wn_xN, wn_xb, wn_xAnd, wn_xOr, wn_xNot, wn_xIf, wn_xCall, wn_xR1, wn_xR2, sn_nx, sn_rt, sn_bk, sn_ct, sn_seq, sn_set, sn_ret, sn_expr, sn_if, sn_for, sn_xSet, sn_xRet, sn_xExpr, sn_xIf, sn_xFor, sn_asg, sn_xAsg, sn_own, sn_xOwn, gv_zero, gv_succ, go_own, go_dat, go_succ, k0_def, gN_def, tru_bool, tru_none, tru_int, tru_list, asSeq_list, asSeq_tup, addV_int, subV_int, ltA_i, leA_i, gtA_i, geA_i, negV_int, intV_int, lenV_list, lenV_tup, ixV_list, ixV_tup, asInt_int, slV_list, slV_tup, slL_list, revV_tup, revV_list, tupleV_list, listV_list, listV_tup, eqV_str, neV_str, eqV_int, List.set_cons_zero, List.set_cons_succ, List.getElem?_cons_zero, List.getElem?_cons_succ, List.length_cons, List.length_nil, ↓reduceIte, Bool.false_eq_true, Bool.not_true, Bool.not_false, wn_ite, gT2, gT3, neV_tup, eqV_tup, in_tup, notin_tup', lineN_eq, Nat.reduceAdd, Nat.reduceLeDiff, Nat.zero_le, true_and, and_true, List.map_nil, List.map_cons, exists_eq_left', Option.some.injEq, PyData.list.injEq, exists_eq_left, PyData.int.injEq, R.ok.injEq, Sl.own.injEq]
  obtain ⟨cs, pc, ec⟩ := perm_map (f := rowD) (l := sort3 (bs.map rowD)) (List.mergeSort_perm _ _) rfl
  have lc := pc.length_eq
  refine wn_comp (xs := cs.map rowD) (fun _ => true) barF ?_ ?_ ?_ ?_
  · simp only [wn_ok, wn_some, wn_only, wn_noex, wn_e2, wn_e1, wn_eN, wn_a0, wn_aC, wn_call, wn_tb, wn_tup, wn_lst, wn_andB, wn_orB, wn_notB, wn_andV, wn_orV, wn_notV, wn_ifV, wn_iA, wn_iR1, wn_iR2, wn_iZ, wn_iEn, wn_iRR, wn_sl, wn_p0, wn_p1, wn_up, wn_upB, wn_upI, wn_x2, wn_x0, wn_xC, wn_xN, wn_xb, wn_xAnd, wn_xOr, wn_xNot, wn_xIf, wn_xCall, wn_xR1, wn_xR2, sn_nx, sn_rt, sn_bk, sn_ct, sn_seq, sn_set, sn_ret, sn_expr, sn_if, sn_for, sn_xSet, sn_xRet, sn_xExpr, sn_xIf, sn_xFor, sn_asg, sn_xAsg, sn_own, sn_xOwn, gv_zero, gv_succ, go_own, go_dat, go_succ, k0_def, gN_def, tru_bool, tru_none, tru_int, tru_list, asSeq_list, asSeq_tup, addV_int, subV_int, ltA_i, leA_i, gtA_i, geA_i, negV_int, intV_int, lenV_list, lenV_tup, ixV_list, ixV_tup, asInt_int, slV_list, slV_tup, slL_list, revV_tup, revV_list, tupleV_list, listV_list, listV_tup, eqV_str, neV_str, eqV_int, List.set_cons_zero, List.set_cons_succ, List.getElem?_cons_zero, List.getElem?_cons_succ, List.length_cons, List.length_nil, ↓reduceIte, Bool.false_eq_true, Bool.not_true, Bool.not_false, wn_ite, gT2, gT3, neV_tup, eqV_tup, in_tup, notin_tup', lineN_eq, Nat.reduceAdd, Nat.reduceLeDiff, Nat.zero_le, true_and, and_true, List.map_nil, List.map_cons, exists_eq_left', Option.some.injEq, PyData.list.injEq, exists_eq_left, PyData.int.injEq, R.ok.injEq, Sl.own.injEq]
    refine wn_comp (xs := bs.map bD) (fun _ => true) rowF ?_ ?_ ?_ ?_
    · simp only [wn_ok, wn_some, wn_only, wn_noex, wn_e2, wn_e1, wn_eN, wn_a0, wn_aC, wn_call, wn_tb, wn_tup, wn_lst, wn_andB, wn_orB, wn_notB, wn_andV, wn_orV, wn_notV, wn_ifV, wn_iA, wn_iR1, wn_iR2, wn_iZ, wn_iEn, wn_iRR, wn_sl, wn_p0, wn_p1, wn_up, wn_upB, wn_upI, wn_x2, wn_x0, wn_xC, wn_xN, wn_xb, wn_xAnd, wn_xOr, wn_xNot, wn_xIf, wn_xCall, wn_xR1, wn_xR2, sn_nx, sn_rt, sn_bk, sn_ct, sn_seq, sn_set, sn_ret, sn_expr, sn_if, sn_for, sn_xSet, sn_xRet, sn_xExpr, sn_xIf, sn_xFor, sn_asg, sn_xAsg, sn_own, sn_xOwn, gv_zero, gv_succ, go_own, go_dat, go_succ, k0_def, gN_def, tru_bool, tru_none, tru_int, tru_list, asSeq_list, asSeq_tup, addV_int, subV_int, ltA_i, leA_i, gtA_i, geA_i, negV_int, intV_int, lenV_list, lenV_tup, ixV_list, ixV_tup, asInt_int, slV_list, slV_tup, slL_list, revV_tup, revV_list, tupleV_list, listV_list, listV_tup, eqV_str, neV_str, eqV_int, List.set_cons_zero, List.set_cons_succ, List.getElem?_cons_zero, List.getElem?_cons_succ, List.length_cons, List.length_nil, ↓reduceIte, Bool.false_eq_true, Bool.not_true, Bool.not_false, wn_ite, gT2, gT3, neV_tup, eqV_tup, in_tup, notin_tup', lineN_eq, Nat.reduceAdd, Nat.reduceLeDiff, Nat.zero_le, true_and, and_true, List.map_nil, List.map_cons, exists_eq_left', Option.some.injEq, PyData.list.injEq, exists_eq_left, PyData.int.injEq, R.ok.injEq, Sl.own.injEq]
    · intro x m
      obtain ⟨b, mb, rfl⟩ := List.mem_map.mp m
      refine ⟨[.d (.list (bs.map bD)), .no, .d (bD b)], rfl, wn_ok.mpr ⟨rfl, fun _ => ?_⟩⟩
      simp only [wn_ok, wn_some, wn_only, wn_noex, wn_e2, wn_e1, wn_eN, wn_a0, wn_aC, wn_call, wn_tb, wn_tup, wn_lst, wn_andB, wn_orB, wn_notB, wn_andV, wn_orV, wn_notV, wn_ifV, wn_iA, wn_iR1, wn_iR2, wn_iZ, wn_iEn, wn_iRR, wn_sl, wn_p0, wn_p1, wn_up, wn_upB, wn_upI, wn_x2, wn_x0, wn_xC, wn_xN, wn_xb, wn_xAnd, wn_xOr, wn_xNot, wn_xIf, wn_xCall, wn_xR1, wn_xR2, sn_nx, sn_rt, sn_bk, sn_ct, sn_seq, sn_set, sn_ret, sn_expr, sn_if, sn_for, sn_xSet, sn_xRet, sn_xExpr, sn_xIf, sn_xFor, sn_asg, sn_xAsg, sn_own, sn_xOwn, gv_zero, gv_succ, go_own, go_dat, go_succ, k0_def, gN_def, tru_bool, tru_none, tru_int, tru_list, asSeq_list, asSeq_tup, addV_int, subV_int, ltA_i, leA_i, gtA_i, geA_i, negV_int, intV_int, lenV_list, lenV_tup, ixV_list, ixV_tup, asInt_int, slV_list, slV_tup, slL_list, revV_tup, revV_list, tupleV_list, listV_list, listV_tup, eqV_str, neV_str, eqV_int, List.set_cons_zero, List.set_cons_succ, List.getElem?_cons_zero, List.getElem?_cons_succ, List.length_cons, List.length_nil, ↓reduceIte, Bool.false_eq_true, Bool.not_true, Bool.not_false, wn_ite, gT2, gT3, neV_tup, eqV_tup, in_tup, notin_tup', lineN_eq, Nat.reduceAdd, Nat.reduceLeDiff, Nat.zero_le, true_and, and_true, List.map_nil, List.map_cons, exists_eq_left', Option.some.injEq, PyData.list.injEq, exists_eq_left, PyData.int.injEq, R.ok.injEq, Sl.own.injEq, last_ok, show ixV (bD b) (.int 0) = some (.int b.d) from rfl, show ixV (bD b) (.int 1) = some (.int b.b) from rfl]
      rw [rowF_bD]
      rfl
    · rw [List.length_map, lineN_eq]
      omega
    · have e1 : ((bs.map bD).filter fun _ => true).map rowF = bs.map rowD := by
        rw [List.filter_eq_self.mpr fun _ _ => rfl, List.map_map]
        exact List.map_congr_left fun x _ => rowF_bD x
      rw [e1]
      simp only [wn_ok, wn_some, wn_only, wn_noex, wn_e2, wn_e1, wn_eN, wn_a0, wn_aC, wn_call, wn_tb, wn_tup, wn_lst, wn_andB, wn_orB, wn_notB, wn_andV, wn_orV, wn_notV, wn_ifV, wn_iA, wn_iR1, wn_iR2, wn_iZ, wn_iEn, wn_iRR, wn_sl, wn_p0, wn_p1, wn_up, wn_upB, wn_upI, wn_x2, wn_x0, wn_xC, wn_xN, wn_xb, wn_xAnd, wn_xOr, wn_xNot, wn_xIf, wn_xCall, wn_xR1, wn_xR2, sn_nx, sn_rt, sn_bk, sn_ct, sn_seq, sn_set, sn_ret, sn_expr, sn_if, sn_for, sn_xSet, sn_xRet, sn_xExpr, sn_xIf, sn_xFor, sn_asg, sn_xAsg, sn_own, sn_xOwn, gv_zero, gv_succ, go_own, go_dat, go_succ, k0_def, gN_def, tru_bool, tru_none, tru_int, tru_list, asSeq_list, asSeq_tup, addV_int, subV_int, ltA_i, leA_i, gtA_i, geA_i, negV_int, intV_int, lenV_list, lenV_tup, ixV_list, ixV_tup, asInt_int, slV_list, slV_tup, slL_list, revV_tup, revV_list, tupleV_list, listV_list, listV_tup, eqV_str, neV_str, eqV_int, List.set_cons_zero, List.set_cons_succ, List.getElem?_cons_zero, List.getElem?_cons_succ, List.length_cons, List.length_nil, ↓reduceIte, Bool.false_eq_true, Bool.not_true, Bool.not_false, wn_ite, gT2, gT3, neV_tup, eqV_tup, in_tup, notin_tup', lineN_eq, Nat.reduceAdd, Nat.reduceLeDiff, Nat.zero_le, true_and, and_true, List.map_nil, List.map_cons, exists_eq_left', Option.some.injEq, PyData.list.injEq, exists_eq_left, PyData.int.injEq, R.ok.injEq, Sl.own.injEq, show sort3V [.list (bs.map rowD)] = some (.list (sort3 (bs.map rowD))) from if_pos (det_rows h)]
      rw [ec]
  · intro x m
    obtain ⟨b, mb, rfl⟩ := List.mem_map.mp m
    refine ⟨[.d (.list (bs.map bD)), .d (rowD b), .no], rfl, wn_ok.mpr ⟨rfl, fun _ => ?_⟩⟩
    simp only [wn_ok, wn_some, wn_only, wn_noex, wn_e2, wn_e1, wn_eN, wn_a0, wn_aC, wn_call, wn_tb, wn_tup, wn_lst, wn_andB, wn_orB, wn_notB, wn_andV, wn_orV, wn_notV, wn_ifV, wn_iA, wn_iR1, wn_iR2, wn_iZ, wn_iEn, wn_iRR, wn_sl, wn_p0, wn_p1, wn_up, wn_upB, wn_upI, wn_x2, wn_x0, wn_xC, wn_xN, wn_xb, wn_xAnd, wn_xOr, wn_xNot, wn_xIf, wn_xCall, wn_xR1, wn_xR2, sn_nx, sn_rt, sn_bk, sn_ct, sn_seq, sn_set, sn_ret, sn_expr, sn_if, sn_for, sn_xSet, sn_xRet, sn_xExpr, sn_xIf, sn_xFor, sn_asg, sn_xAsg, sn_own, sn_xOwn, gv_zero, gv_succ, go_own, go_dat, go_succ, k0_def, gN_def, tru_bool, tru_none, tru_int, tru_list, asSeq_list, asSeq_tup, addV_int, subV_int, ltA_i, leA_i, gtA_i, geA_i, negV_int, intV_int, lenV_list, lenV_tup, ixV_list, ixV_tup, asInt_int, slV_list, slV_tup, slL_list, revV_tup, revV_list, tupleV_list, listV_list, listV_tup, eqV_str, neV_str, eqV_int, List.set_cons_zero, List.set_cons_succ, List.getElem?_cons_zero, List.getElem?_cons_succ, List.length_cons, List.length_nil, ↓reduceIte, Bool.false_eq_true, Bool.not_true, Bool.not_false, wn_ite, gT2, gT3, neV_tup, eqV_tup, in_tup, notin_tup', lineN_eq, Nat.reduceAdd, Nat.reduceLeDiff, Nat.zero_le, true_and, and_true, List.map_nil, List.map_cons, exists_eq_left', Option.some.injEq, PyData.list.injEq, exists_eq_left, PyData.int.injEq, R.ok.injEq, Sl.own.injEq, show ixV (rowD b) (.int 3) = some (bD b) from rfl]
    rfl
  · rw [List.length_map, lineN_eq]
    omega
  · have e1 : ((cs.map rowD).filter fun _ => true).map barF = cs.map bD := by
      rw [List.filter_eq_self.mpr fun _ _ => rfl, List.map_map]
      exact List.map_congr_left fun x _ => barF_row x
    rw [e1]
    exact k cs pc
theorem bD_cons (x : Bar) (xs : List Bar) : bD x :: xs.map bD = (x :: xs).map bD := rfl
section
variable {kx : List D} {bs : List Bar} {most k b : Int} {e : Option Int} {s3 : Sl} {N B C : Nv → Prop} {T : D → Nv → Prop}
theorem at_zero {x : D} {xs : List D} : atD (x :: xs) 0 = some x := atD_nat (Int.le_refl _) rfl
theorem tC_ok (hk : Dk.Deck kx) (h0 : -1000 ≤ b) (h1 : b ≤ 1000) (he : ∀ y, e = some y → b < y ∧ y ≤ 1000) (hg : ∀ y ∈ bs, Good y) (hl : bs.length ≤ 1000) (kk : ∀ (kx' : List D) (bs' : List Bar) (s3 s4 s5 : Sl), Dk.Deck kx' → (∀ y ∈ bs', Good y) → bs'.length ≤ bs.length + 2 → N [.own ⟨false, kx'⟩, .d (.int most), .own ⟨true, bs'.map bD⟩, s3, s4, s5]) :
    Sn (tC [.own ⟨false, kx⟩, .d (.int most), .own ⟨true, bs.map bD⟩, s3, .d (.int b), .d (endD e)]) N T B C := by
  unfold tC
  simp only [wn_ok, wn_some, wn_only, wn_noex, wn_e2, wn_e1, wn_eN, wn_a0, wn_aC, wn_call, wn_tb, wn_tup, wn_lst, wn_andB, wn_orB, wn_notB, wn_andV, wn_orV, wn_notV, wn_ifV, wn_iA, wn_iR1, wn_iR2, wn_iZ, wn_iEn, wn_iRR, wn_sl, wn_p0, wn_p1, wn_up, wn_upB, wn_upI, wn_x2, wn_x0, wn_xC, wn_xN, wn_xb, wn_xAnd, wn_xOr, wn_xNot, wn_xIf, wn_xCall, wn_xR1, wn_xR2, sn_nx, sn_rt, sn_bk, sn_ct, sn_seq, sn_set, sn_ret, sn_expr, sn_if, sn_for, sn_xSet, sn_xRet, sn_xExpr, sn_xIf, sn_xFor, sn_asg, sn_xAsg, sn_own, sn_xOwn, gv_zero, gv_succ, go_own, go_dat, go_succ, k0_def, gN_def, tru_bool, tru_none, tru_int, tru_list, asSeq_list, asSeq_tup, addV_int, subV_int, ltA_i, leA_i, gtA_i, geA_i, negV_int, intV_int, lenV_list, lenV_tup, ixV_list, ixV_tup, asInt_int, slV_list, slV_tup, slL_list, revV_tup, revV_list, tupleV_list, listV_list, listV_tup, eqV_str, neV_str, eqV_int, List.set_cons_zero, List.set_cons_succ, List.getElem?_cons_zero, List.getElem?_cons_succ, List.length_cons, List.length_nil, ↓reduceIte, Bool.false_eq_true, Bool.not_true, Bool.not_false, wn_ite, gT2, gT3, neV_tup, eqV_tup, in_tup, notin_tup', lineN_eq, Nat.reduceAdd, Nat.reduceLeDiff, Nat.zero_le, true_and, and_true, List.map_nil, List.map_cons, exists_eq_left', Option.some.injEq, PyData.list.injEq, exists_eq_left, PyData.int.injEq, R.ok.injEq, Sl.own.injEq]
  refine sn_xApp rfl ?_
  simp only [wn_ok, wn_some, wn_only, wn_noex, wn_e2, wn_e1, wn_eN, wn_a0, wn_aC, wn_call, wn_tb, wn_tup, wn_lst, wn_andB, wn_orB, wn_notB, wn_andV, wn_orV, wn_notV, wn_ifV, wn_iA, wn_iR1, wn_iR2, wn_iZ, wn_iEn, wn_iRR, wn_sl, wn_p0, wn_p1, wn_up, wn_upB, wn_upI, wn_x2, wn_x0, wn_xC, wn_xN, wn_xb, wn_xAnd, wn_xOr, wn_xNot, wn_xIf, wn_xCall, wn_xR1, wn_xR2, sn_nx, sn_rt, sn_bk, sn_ct, sn_seq, sn_set, sn_ret, sn_expr, sn_if, sn_for, sn_xSet, sn_xRet, sn_xExpr, sn_xIf, sn_xFor, sn_asg, sn_xAsg, sn_own, sn_xOwn, gv_zero, gv_succ, go_own, go_dat, go_succ, k0_def, gN_def, tru_bool, tru_none, tru_int, tru_list, asSeq_list, asSeq_tup, addV_int, subV_int, ltA_i, leA_i, gtA_i, geA_i, negV_int, intV_int, lenV_list, lenV_tup, ixV_list, ixV_tup, asInt_int, slV_list, slV_tup, slL_list, revV_tup, revV_list, tupleV_list, listV_list, listV_tup, eqV_str, neV_str, eqV_int, List.set_cons_zero, List.set_cons_succ, List.getElem?_cons_zero, List.getElem?_cons_succ, List.length_cons, List.length_nil, ↓reduceIte, Bool.false_eq_true, Bool.not_true, Bool.not_false, wn_ite, gT2, gT3, neV_tup, eqV_tup, in_tup, notin_tup', lineN_eq, Nat.reduceAdd, Nat.reduceLeDiff, Nat.zero_le, true_and, and_true, List.map_nil, List.map_cons, exists_eq_left', Option.some.injEq, PyData.list.injEq, exists_eq_left, PyData.int.injEq, R.ok.injEq, Sl.own.injEq]
  refine wn_drw (b := 3) rfl hk (by decide) fun d kx1 hk1 d0 d1 => ?_
  simp only [wn_ok, wn_some, wn_only, wn_noex, wn_e2, wn_e1, wn_eN, wn_a0, wn_aC, wn_call, wn_tb, wn_tup, wn_lst, wn_andB, wn_orB, wn_notB, wn_andV, wn_orV, wn_notV, wn_ifV, wn_iA, wn_iR1, wn_iR2, wn_iZ, wn_iEn, wn_iRR, wn_sl, wn_p0, wn_p1, wn_up, wn_upB, wn_upI, wn_x2, wn_x0, wn_xC, wn_xN, wn_xb, wn_xAnd, wn_xOr, wn_xNot, wn_xIf, wn_xCall, wn_xR1, wn_xR2, sn_nx, sn_rt, sn_bk, sn_ct, sn_seq, sn_set, sn_ret, sn_expr, sn_if, sn_for, sn_xSet, sn_xRet, sn_xExpr, sn_xIf, sn_xFor, sn_asg, sn_xAsg, sn_own, sn_xOwn, gv_zero, gv_succ, go_own, go_dat, go_succ, k0_def, gN_def, tru_bool, tru_none, tru_int, tru_list, asSeq_list, asSeq_tup, addV_int, subV_int, ltA_i, leA_i, gtA_i, geA_i, negV_int, intV_int, lenV_list, lenV_tup, ixV_list, ixV_tup, asInt_int, slV_list, slV_tup, slL_list, revV_tup, revV_list, tupleV_list, listV_list, listV_tup, eqV_str, neV_str, eqV_int, List.set_cons_zero, List.set_cons_succ, List.getElem?_cons_zero, List.getElem?_cons_succ, List.length_cons, List.length_nil, ↓reduceIte, Bool.false_eq_true, Bool.not_true, Bool.not_false, wn_ite, gT2, gT3, neV_tup, eqV_tup, in_tup, notin_tup', lineN_eq, Nat.reduceAdd, Nat.reduceLeDiff, Nat.zero_le, true_and, and_true, List.map_nil, List.map_cons, exists_eq_left', Option.some.injEq, PyData.list.injEq, exists_eq_left, PyData.int.injEq, R.ok.injEq, Sl.own.injEq]
  have hg' : ∀ y ∈ bs ++ [(⟨d, b, e⟩ : Bar)], Good y := fun y m => by
    rcases List.mem_append.mp m with m | m
    · exact hg y m
    · rw [List.mem_singleton.mp m]
      exact ⟨d0, d1, h0, h1, he⟩
  refine ⟨by rw [List.length_map]; omega, ?_⟩
  rw [show bs.map bD ++ [PyData.tuple [.int d, .int b, endD e]] = (bs ++ [(⟨d, b, e⟩ : Bar)]).map bD by rw [List.map_append]; rfl]
  refine wn_drw (b := 5) rfl hk1 (by decide) fun i kx2 hk2 i0 i1 => ?_
  simp only [wn_ok, wn_some, wn_only, wn_noex, wn_e2, wn_e1, wn_eN, wn_a0, wn_aC, wn_call, wn_tb, wn_tup, wn_lst, wn_andB, wn_orB, wn_notB, wn_andV, wn_orV, wn_notV, wn_ifV, wn_iA, wn_iR1, wn_iR2, wn_iZ, wn_iEn, wn_iRR, wn_sl, wn_p0, wn_p1, wn_up, wn_upB, wn_upI, wn_x2, wn_x0, wn_xC, wn_xN, wn_xb, wn_xAnd, wn_xOr, wn_xNot, wn_xIf, wn_xCall, wn_xR1, wn_xR2, sn_nx, sn_rt, sn_bk, sn_ct, sn_seq, sn_set, sn_ret, sn_expr, sn_if, sn_for, sn_xSet, sn_xRet, sn_xExpr, sn_xIf, sn_xFor, sn_asg, sn_xAsg, sn_own, sn_xOwn, gv_zero, gv_succ, go_own, go_dat, go_succ, k0_def, gN_def, tru_bool, tru_none, tru_int, tru_list, asSeq_list, asSeq_tup, addV_int, subV_int, ltA_i, leA_i, gtA_i, geA_i, negV_int, intV_int, lenV_list, lenV_tup, ixV_list, ixV_tup, asInt_int, slV_list, slV_tup, slL_list, revV_tup, revV_list, tupleV_list, listV_list, listV_tup, eqV_str, neV_str, eqV_int, List.set_cons_zero, List.set_cons_succ, List.getElem?_cons_zero, List.getElem?_cons_succ, List.length_cons, List.length_nil, ↓reduceIte, Bool.false_eq_true, Bool.not_true, Bool.not_false, wn_ite, gT2, gT3, neV_tup, eqV_tup, in_tup, notin_tup', lineN_eq, Nat.reduceAdd, Nat.reduceLeDiff, Nat.zero_le, true_and, and_true, List.map_nil, List.map_cons, exists_eq_left', Option.some.injEq, PyData.list.injEq, exists_eq_left, PyData.int.injEq, R.ok.injEq, Sl.own.injEq]
  cases hb : (i == 0) with
  | false =>
    simp only [Bool.false_eq_true, ↓reduceIte]
    exact kk _ _ _ _ _ hk2 hg' (by rw [List.length_append]; simp)
  | true =>
    simp only [↓reduceIte]
    refine sn_app rfl ?_
    simp only [wn_ok, wn_some, wn_only, wn_noex, wn_e2, wn_e1, wn_eN, wn_a0, wn_aC, wn_call, wn_tb, wn_tup, wn_lst, wn_andB, wn_orB, wn_notB, wn_andV, wn_orV, wn_notV, wn_ifV, wn_iA, wn_iR1, wn_iR2, wn_iZ, wn_iEn, wn_iRR, wn_sl, wn_p0, wn_p1, wn_up, wn_upB, wn_upI, wn_x2, wn_x0, wn_xC, wn_xN, wn_xb, wn_xAnd, wn_xOr, wn_xNot, wn_xIf, wn_xCall, wn_xR1, wn_xR2, sn_nx, sn_rt, sn_bk, sn_ct, sn_seq, sn_set, sn_ret, sn_expr, sn_if, sn_for, sn_xSet, sn_xRet, sn_xExpr, sn_xIf, sn_xFor, sn_asg, sn_xAsg, sn_own, sn_xOwn, gv_zero, gv_succ, go_own, go_dat, go_succ, k0_def, gN_def, tru_bool, tru_none, tru_int, tru_list, asSeq_list, asSeq_tup, addV_int, subV_int, ltA_i, leA_i, gtA_i, geA_i, negV_int, intV_int, lenV_list, lenV_tup, ixV_list, ixV_tup, asInt_int, slV_list, slV_tup, slL_list, revV_tup, revV_list, tupleV_list, listV_list, listV_tup, eqV_str, neV_str, eqV_int, List.set_cons_zero, List.set_cons_succ, List.getElem?_cons_zero, List.getElem?_cons_succ, List.length_cons, List.length_nil, ↓reduceIte, Bool.false_eq_true, Bool.not_true, Bool.not_false, wn_ite, gT2, gT3, neV_tup, eqV_tup, in_tup, notin_tup', lineN_eq, Nat.reduceAdd, Nat.reduceLeDiff, Nat.zero_le, true_and, and_true, List.map_nil, List.map_cons, exists_eq_left', Option.some.injEq, PyData.list.injEq, exists_eq_left, PyData.int.injEq, R.ok.injEq, Sl.own.injEq]
    obtain ⟨x, xs, ex⟩ : ∃ x xs, bs ++ [(⟨d, b, e⟩ : Bar)] = x :: xs := by
      cases bs with
      | nil => exact ⟨_, _, rfl⟩
      | cons x xs => exact ⟨_, _, rfl⟩
    refine wn_of.mpr ⟨bD x, by rw [ex]; exact at_zero, ?_⟩
    have mx : x ∈ bs ++ [(⟨d, b, e⟩ : Bar)] := by rw [ex]; exact List.mem_cons_self
    refine ⟨by rw [List.length_map, List.length_append]; simp; omega, ?_⟩
    rw [show (bs ++ [(⟨d, b, e⟩ : Bar)]).map bD ++ [bD x] = (bs ++ [(⟨d, b, e⟩ : Bar)] ++ [x]).map bD by rw [List.map_append (l₂ := [x])]; rfl]
    refine kk _ _ _ _ _ hk2 (fun y m => ?_) (by simp)
    rcases List.mem_append.mp m with m | m
    · exact hg' y m
    · rw [List.mem_singleton.mp m]
      exact hg' x mx
theorem tB_ok {x : Int} (hk : Dk.Deck kx) (h0 : -1000 ≤ b) (h1 : b < x) (h2 : x ≤ 1000) (hg : ∀ y ∈ bs, Good y) (hl : bs.length ≤ 1000) (kk : ∀ (kx' : List D) (bs' : List Bar) (s3 s4 s5 : Sl), Dk.Deck kx' → (∀ y ∈ bs', Good y) → bs'.length ≤ bs.length + 2 → N [.own ⟨false, kx'⟩, .d (.int most), .own ⟨true, bs'.map bD⟩, s3, s4, s5]) :
    Sn (tB [.own ⟨false, kx⟩, .d (.int most), .own ⟨true, bs.map bD⟩, s3, .d (.int b), .d (.int x)]) N T B C := by
  unfold tB
  simp only [wn_ok, wn_some, wn_only, wn_noex, wn_e2, wn_e1, wn_eN, wn_a0, wn_aC, wn_call, wn_tb, wn_tup, wn_lst, wn_andB, wn_orB, wn_notB, wn_andV, wn_orV, wn_notV, wn_ifV, wn_iA, wn_iR1, wn_iR2, wn_iZ, wn_iEn, wn_iRR, wn_sl, wn_p0, wn_p1, wn_up, wn_upB, wn_upI, wn_x2, wn_x0, wn_xC, wn_xN, wn_xb, wn_xAnd, wn_xOr, wn_xNot, wn_xIf, wn_xCall, wn_xR1, wn_xR2, sn_nx, sn_rt, sn_bk, sn_ct, sn_seq, sn_set, sn_ret, sn_expr, sn_if, sn_for, sn_xSet, sn_xRet, sn_xExpr, sn_xIf, sn_xFor, sn_asg, sn_xAsg, sn_own, sn_xOwn, gv_zero, gv_succ, go_own, go_dat, go_succ, k0_def, gN_def, tru_bool, tru_none, tru_int, tru_list, asSeq_list, asSeq_tup, addV_int, subV_int, ltA_i, leA_i, gtA_i, geA_i, negV_int, intV_int, lenV_list, lenV_tup, ixV_list, ixV_tup, asInt_int, slV_list, slV_tup, slL_list, revV_tup, revV_list, tupleV_list, listV_list, listV_tup, eqV_str, neV_str, eqV_int, List.set_cons_zero, List.set_cons_succ, List.getElem?_cons_zero, List.getElem?_cons_succ, List.length_cons, List.length_nil, ↓reduceIte, Bool.false_eq_true, Bool.not_true, Bool.not_false, wn_ite, gT2, gT3, neV_tup, eqV_tup, in_tup, notin_tup', lineN_eq, Nat.reduceAdd, Nat.reduceLeDiff, Nat.zero_le, true_and, and_true, List.map_nil, List.map_cons, exists_eq_left', Option.some.injEq, PyData.list.injEq, exists_eq_left, PyData.int.injEq, R.ok.injEq, Sl.own.injEq]
  refine wn_drw (b := 4) rfl hk (by decide) fun i kx1 hk1 i0 i1 => ?_
  simp only [wn_ok, wn_some, wn_only, wn_noex, wn_e2, wn_e1, wn_eN, wn_a0, wn_aC, wn_call, wn_tb, wn_tup, wn_lst, wn_andB, wn_orB, wn_notB, wn_andV, wn_orV, wn_notV, wn_ifV, wn_iA, wn_iR1, wn_iR2, wn_iZ, wn_iEn, wn_iRR, wn_sl, wn_p0, wn_p1, wn_up, wn_upB, wn_upI, wn_x2, wn_x0, wn_xC, wn_xN, wn_xb, wn_xAnd, wn_xOr, wn_xNot, wn_xIf, wn_xCall, wn_xR1, wn_xR2, sn_nx, sn_rt, sn_bk, sn_ct, sn_seq, sn_set, sn_ret, sn_expr, sn_if, sn_for, sn_xSet, sn_xRet, sn_xExpr, sn_xIf, sn_xFor, sn_asg, sn_xAsg, sn_own, sn_xOwn, gv_zero, gv_succ, go_own, go_dat, go_succ, k0_def, gN_def, tru_bool, tru_none, tru_int, tru_list, asSeq_list, asSeq_tup, addV_int, subV_int, ltA_i, leA_i, gtA_i, geA_i, negV_int, intV_int, lenV_list, lenV_tup, ixV_list, ixV_tup, asInt_int, slV_list, slV_tup, slL_list, revV_tup, revV_list, tupleV_list, listV_list, listV_tup, eqV_str, neV_str, eqV_int, List.set_cons_zero, List.set_cons_succ, List.getElem?_cons_zero, List.getElem?_cons_succ, List.length_cons, List.length_nil, ↓reduceIte, Bool.false_eq_true, Bool.not_true, Bool.not_false, wn_ite, gT2, gT3, neV_tup, eqV_tup, in_tup, notin_tup', lineN_eq, Nat.reduceAdd, Nat.reduceLeDiff, Nat.zero_le, true_and, and_true, List.map_nil, List.map_cons, exists_eq_left', Option.some.injEq, PyData.list.injEq, exists_eq_left, PyData.int.injEq, R.ok.injEq, Sl.own.injEq]
  cases hb : (i == 0) with
  | false =>
    simp only [Bool.false_eq_true, ↓reduceIte]
    exact tC_ok (e := some x) hk1 h0 (by omega) (fun y e => by cases e; exact ⟨h1, h2⟩) hg hl kk
  | true =>
    simp only [↓reduceIte]
    exact tC_ok (e := none) hk1 h0 (by omega) (fun y e => by cases e) hg hl kk
end
theorem bars_w {kx : List D} {most : Int} {QK : D × List D → Prop} (hk : Dk.Deck kx) (h0 : 0 ≤ most) (h1 : most ≤ 20) (k : ∀ (bs : List Bar) kx', Dk.Deck kx' → (∀ x ∈ bs, Good x) → bs.length ≤ 2 * most.toNat → QK (.list (bs.map bD), kx')) : Wn (F__law_bars kx [.int most]) QK := by
  refine wn_runK ?_
  show Sn (G__law_bars [.own ⟨false, kx⟩, .d (.int most), .no, .no, .no, .no]) _ _ _ _
  unfold G__law_bars
  simp only [wn_ok, wn_some, wn_only, wn_noex, wn_e2, wn_e1, wn_eN, wn_a0, wn_aC, wn_call, wn_tb, wn_tup, wn_lst, wn_andB, wn_orB, wn_notB, wn_andV, wn_orV, wn_notV, wn_ifV, wn_iA, wn_iR1, wn_iR2, wn_iZ, wn_iEn, wn_iRR, wn_sl, wn_p0, wn_p1, wn_up, wn_upB, wn_upI, wn_x2, wn_x0, wn_xC, wn_xN, wn_xb, wn_xAnd, wn_xOr, wn_xNot, wn_xIf, wn_xCall, wn_xR1, wn_xR2, sn_nx, sn_rt, sn_bk, sn_ct, sn_seq, sn_set, sn_ret, sn_expr, sn_if, sn_for, sn_xSet, sn_xRet, sn_xExpr, sn_xIf, sn_xFor, sn_asg, sn_xAsg, sn_own, sn_xOwn, gv_zero, gv_succ, go_own, go_dat, go_succ, k0_def, gN_def, tru_bool, tru_none, tru_int, tru_list, asSeq_list, asSeq_tup, addV_int, subV_int, ltA_i, leA_i, gtA_i, geA_i, negV_int, intV_int, lenV_list, lenV_tup, ixV_list, ixV_tup, asInt_int, slV_list, slV_tup, slL_list, revV_tup, revV_list, tupleV_list, listV_list, listV_tup, eqV_str, neV_str, eqV_int, List.set_cons_zero, List.set_cons_succ, List.getElem?_cons_zero, List.getElem?_cons_succ, List.length_cons, List.length_nil, ↓reduceIte, Bool.false_eq_true, Bool.not_true, Bool.not_false, wn_ite, gT2, gT3, neV_tup, eqV_tup, in_tup, notin_tup', lineN_eq, Nat.reduceAdd, Nat.reduceLeDiff, Nat.zero_le, true_and, and_true, List.map_nil, List.map_cons, exists_eq_left', Option.some.injEq, PyData.list.injEq, exists_eq_left, PyData.int.injEq, R.ok.injEq, Sl.own.injEq]
  refine wn_callK rfl ?_
  simp only [wn_ok, wn_some, wn_only, wn_noex, wn_e2, wn_e1, wn_eN, wn_a0, wn_aC, wn_call, wn_tb, wn_tup, wn_lst, wn_andB, wn_orB, wn_notB, wn_andV, wn_orV, wn_notV, wn_ifV, wn_iA, wn_iR1, wn_iR2, wn_iZ, wn_iEn, wn_iRR, wn_sl, wn_p0, wn_p1, wn_up, wn_upB, wn_upI, wn_x2, wn_x0, wn_xC, wn_xN, wn_xb, wn_xAnd, wn_xOr, wn_xNot, wn_xIf, wn_xCall, wn_xR1, wn_xR2, sn_nx, sn_rt, sn_bk, sn_ct, sn_seq, sn_set, sn_ret, sn_expr, sn_if, sn_for, sn_xSet, sn_xRet, sn_xExpr, sn_xIf, sn_xFor, sn_asg, sn_xAsg, sn_own, sn_xOwn, gv_zero, gv_succ, go_own, go_dat, go_succ, k0_def, gN_def, tru_bool, tru_none, tru_int, tru_list, asSeq_list, asSeq_tup, addV_int, subV_int, ltA_i, leA_i, gtA_i, geA_i, negV_int, intV_int, lenV_list, lenV_tup, ixV_list, ixV_tup, asInt_int, slV_list, slV_tup, slL_list, revV_tup, revV_list, tupleV_list, listV_list, listV_tup, eqV_str, neV_str, eqV_int, List.set_cons_zero, List.set_cons_succ, List.getElem?_cons_zero, List.getElem?_cons_succ, List.length_cons, List.length_nil, ↓reduceIte, Bool.false_eq_true, Bool.not_true, Bool.not_false, wn_ite, gT2, gT3, neV_tup, eqV_tup, in_tup, notin_tup', lineN_eq, Nat.reduceAdd, Nat.reduceLeDiff, Nat.zero_le, true_and, and_true, List.map_nil, List.map_cons, exists_eq_left', Option.some.injEq, PyData.list.injEq, exists_eq_left, PyData.int.injEq, R.ok.injEq, Sl.own.injEq]
  refine wn_draw (b := most + 1) hk (by omega) fun n kx1 hk1 n0 n1 => ?_
  simp only [wn_ok, wn_some, wn_only, wn_noex, wn_e2, wn_e1, wn_eN, wn_a0, wn_aC, wn_call, wn_tb, wn_tup, wn_lst, wn_andB, wn_orB, wn_notB, wn_andV, wn_orV, wn_notV, wn_ifV, wn_iA, wn_iR1, wn_iR2, wn_iZ, wn_iEn, wn_iRR, wn_sl, wn_p0, wn_p1, wn_up, wn_upB, wn_upI, wn_x2, wn_x0, wn_xC, wn_xN, wn_xb, wn_xAnd, wn_xOr, wn_xNot, wn_xIf, wn_xCall, wn_xR1, wn_xR2, sn_nx, sn_rt, sn_bk, sn_ct, sn_seq, sn_set, sn_ret, sn_expr, sn_if, sn_for, sn_xSet, sn_xRet, sn_xExpr, sn_xIf, sn_xFor, sn_asg, sn_xAsg, sn_own, sn_xOwn, gv_zero, gv_succ, go_own, go_dat, go_succ, k0_def, gN_def, tru_bool, tru_none, tru_int, tru_list, asSeq_list, asSeq_tup, addV_int, subV_int, ltA_i, leA_i, gtA_i, geA_i, negV_int, intV_int, lenV_list, lenV_tup, ixV_list, ixV_tup, asInt_int, slV_list, slV_tup, slL_list, revV_tup, revV_list, tupleV_list, listV_list, listV_tup, eqV_str, neV_str, eqV_int, List.set_cons_zero, List.set_cons_succ, List.getElem?_cons_zero, List.getElem?_cons_succ, List.length_cons, List.length_nil, ↓reduceIte, Bool.false_eq_true, Bool.not_true, Bool.not_false, wn_ite, gT2, gT3, neV_tup, eqV_tup, in_tup, notin_tup', lineN_eq, Nat.reduceAdd, Nat.reduceLeDiff, Nat.zero_le, true_and, and_true, List.map_nil, List.map_cons, exists_eq_left', Option.some.injEq, PyData.list.injEq, exists_eq_left, PyData.int.injEq, R.ok.injEq, Sl.own.injEq]
  rw [wn_rng1 n0 (by omega)]
  refine sn_loop (fun rest η => ∃ (bs : List Bar) (kx' : List D) (s3 s4 s5 : Sl), Dk.Deck kx' ∧ (∀ x ∈ bs, Good x) ∧ bs.length + 2 * rest.length ≤ 2 * most.toNat ∧ η = [.own ⟨false, kx'⟩, .d (.int most), .own ⟨true, bs.map bD⟩, s3, s4, s5]) ?_ ?_ _ _ ⟨[], kx1, .no, .no, .no, hk1, fun x m => absurd m List.not_mem_nil, by unfold rangeD; rw [List.length_map, List.length_range]; simp; omega, rfl⟩
  · rintro y rest η ⟨bs, kx', s3, s4, s5, hk', hg, hl, rfl⟩
    rw [List.length_cons] at hl
    refine ⟨_, rfl, ?_⟩
    simp only [wn_ok, wn_some, wn_only, wn_noex, wn_e2, wn_e1, wn_eN, wn_a0, wn_aC, wn_call, wn_tb, wn_tup, wn_lst, wn_andB, wn_orB, wn_notB, wn_andV, wn_orV, wn_notV, wn_ifV, wn_iA, wn_iR1, wn_iR2, wn_iZ, wn_iEn, wn_iRR, wn_sl, wn_p0, wn_p1, wn_up, wn_upB, wn_upI, wn_x2, wn_x0, wn_xC, wn_xN, wn_xb, wn_xAnd, wn_xOr, wn_xNot, wn_xIf, wn_xCall, wn_xR1, wn_xR2, sn_nx, sn_rt, sn_bk, sn_ct, sn_seq, sn_set, sn_ret, sn_expr, sn_if, sn_for, sn_xSet, sn_xRet, sn_xExpr, sn_xIf, sn_xFor, sn_asg, sn_xAsg, sn_own, sn_xOwn, gv_zero, gv_succ, go_own, go_dat, go_succ, k0_def, gN_def, tru_bool, tru_none, tru_int, tru_list, asSeq_list, asSeq_tup, addV_int, subV_int, ltA_i, leA_i, gtA_i, geA_i, negV_int, intV_int, lenV_list, lenV_tup, ixV_list, ixV_tup, asInt_int, slV_list, slV_tup, slL_list, revV_tup, revV_list, tupleV_list, listV_list, listV_tup, eqV_str, neV_str, eqV_int, List.set_cons_zero, List.set_cons_succ, List.getElem?_cons_zero, List.getElem?_cons_succ, List.length_cons, List.length_nil, ↓reduceIte, Bool.false_eq_true, Bool.not_true, Bool.not_false, wn_ite, gT2, gT3, neV_tup, eqV_tup, in_tup, notin_tup', lineN_eq, Nat.reduceAdd, Nat.reduceLeDiff, Nat.zero_le, true_and, and_true, List.map_nil, List.map_cons, exists_eq_left', Option.some.injEq, PyData.list.injEq, exists_eq_left, PyData.int.injEq, R.ok.injEq, Sl.own.injEq]
    refine wn_drw (b := 25) rfl hk' (by decide) fun i1 kx1 hk1 i10 i11 => ?_
    simp only [wn_ok, wn_some, wn_only, wn_noex, wn_e2, wn_e1, wn_eN, wn_a0, wn_aC, wn_call, wn_tb, wn_tup, wn_lst, wn_andB, wn_orB, wn_notB, wn_andV, wn_orV, wn_notV, wn_ifV, wn_iA, wn_iR1, wn_iR2, wn_iZ, wn_iEn, wn_iRR, wn_sl, wn_p0, wn_p1, wn_up, wn_upB, wn_upI, wn_x2, wn_x0, wn_xC, wn_xN, wn_xb, wn_xAnd, wn_xOr, wn_xNot, wn_xIf, wn_xCall, wn_xR1, wn_xR2, sn_nx, sn_rt, sn_bk, sn_ct, sn_seq, sn_set, sn_ret, sn_expr, sn_if, sn_for, sn_xSet, sn_xRet, sn_xExpr, sn_xIf, sn_xFor, sn_asg, sn_xAsg, sn_own, sn_xOwn, gv_zero, gv_succ, go_own, go_dat, go_succ, k0_def, gN_def, tru_bool, tru_none, tru_int, tru_list, asSeq_list, asSeq_tup, addV_int, subV_int, ltA_i, leA_i, gtA_i, geA_i, negV_int, intV_int, lenV_list, lenV_tup, ixV_list, ixV_tup, asInt_int, slV_list, slV_tup, slL_list, revV_tup, revV_list, tupleV_list, listV_list, listV_tup, eqV_str, neV_str, eqV_int, List.set_cons_zero, List.set_cons_succ, List.getElem?_cons_zero, List.getElem?_cons_succ, List.length_cons, List.length_nil, ↓reduceIte, Bool.false_eq_true, Bool.not_true, Bool.not_false, wn_ite, gT2, gT3, neV_tup, eqV_tup, in_tup, notin_tup', lineN_eq, Nat.reduceAdd, Nat.reduceLeDiff, Nat.zero_le, true_and, and_true, List.map_nil, List.map_cons, exists_eq_left', Option.some.injEq, PyData.list.injEq, exists_eq_left, PyData.int.injEq, R.ok.injEq, Sl.own.injEq]
    refine wn_drw (b := 9) rfl hk1 (by decide) fun i2 kx2 hk2 i20 i21 => ?_
    simp only [wn_ok, wn_some, wn_only, wn_noex, wn_e2, wn_e1, wn_eN, wn_a0, wn_aC, wn_call, wn_tb, wn_tup, wn_lst, wn_andB, wn_orB, wn_notB, wn_andV, wn_orV, wn_notV, wn_ifV, wn_iA, wn_iR1, wn_iR2, wn_iZ, wn_iEn, wn_iRR, wn_sl, wn_p0, wn_p1, wn_up, wn_upB, wn_upI, wn_x2, wn_x0, wn_xC, wn_xN, wn_xb, wn_xAnd, wn_xOr, wn_xNot, wn_xIf, wn_xCall, wn_xR1, wn_xR2, sn_nx, sn_rt, sn_bk, sn_ct, sn_seq, sn_set, sn_ret, sn_expr, sn_if, sn_for, sn_xSet, sn_xRet, sn_xExpr, sn_xIf, sn_xFor, sn_asg, sn_xAsg, sn_own, sn_xOwn, gv_zero, gv_succ, go_own, go_dat, go_succ, k0_def, gN_def, tru_bool, tru_none, tru_int, tru_list, asSeq_list, asSeq_tup, addV_int, subV_int, ltA_i, leA_i, gtA_i, geA_i, negV_int, intV_int, lenV_list, lenV_tup, ixV_list, ixV_tup, asInt_int, slV_list, slV_tup, slL_list, revV_tup, revV_list, tupleV_list, listV_list, listV_tup, eqV_str, neV_str, eqV_int, List.set_cons_zero, List.set_cons_succ, List.getElem?_cons_zero, List.getElem?_cons_succ, List.length_cons, List.length_nil, ↓reduceIte, Bool.false_eq_true, Bool.not_true, Bool.not_false, wn_ite, gT2, gT3, neV_tup, eqV_tup, in_tup, notin_tup', lineN_eq, Nat.reduceAdd, Nat.reduceLeDiff, Nat.zero_le, true_and, and_true, List.map_nil, List.map_cons, exists_eq_left', Option.some.injEq, PyData.list.injEq, exists_eq_left, PyData.int.injEq, R.ok.injEq, Sl.own.injEq]
    refine wn_drw (b := 10) rfl hk2 (by decide) fun i3 kx3 hk3 i30 i31 => ?_
    simp only [wn_ok, wn_some, wn_only, wn_noex, wn_e2, wn_e1, wn_eN, wn_a0, wn_aC, wn_call, wn_tb, wn_tup, wn_lst, wn_andB, wn_orB, wn_notB, wn_andV, wn_orV, wn_notV, wn_ifV, wn_iA, wn_iR1, wn_iR2, wn_iZ, wn_iEn, wn_iRR, wn_sl, wn_p0, wn_p1, wn_up, wn_upB, wn_upI, wn_x2, wn_x0, wn_xC, wn_xN, wn_xb, wn_xAnd, wn_xOr, wn_xNot, wn_xIf, wn_xCall, wn_xR1, wn_xR2, sn_nx, sn_rt, sn_bk, sn_ct, sn_seq, sn_set, sn_ret, sn_expr, sn_if, sn_for, sn_xSet, sn_xRet, sn_xExpr, sn_xIf, sn_xFor, sn_asg, sn_xAsg, sn_own, sn_xOwn, gv_zero, gv_succ, go_own, go_dat, go_succ, k0_def, gN_def, tru_bool, tru_none, tru_int, tru_list, asSeq_list, asSeq_tup, addV_int, subV_int, ltA_i, leA_i, gtA_i, geA_i, negV_int, intV_int, lenV_list, lenV_tup, ixV_list, ixV_tup, asInt_int, slV_list, slV_tup, slL_list, revV_tup, revV_list, tupleV_list, listV_list, listV_tup, eqV_str, neV_str, eqV_int, List.set_cons_zero, List.set_cons_succ, List.getElem?_cons_zero, List.getElem?_cons_succ, List.length_cons, List.length_nil, ↓reduceIte, Bool.false_eq_true, Bool.not_true, Bool.not_false, wn_ite, gT2, gT3, neV_tup, eqV_tup, in_tup, notin_tup', lineN_eq, Nat.reduceAdd, Nat.reduceLeDiff, Nat.zero_le, true_and, and_true, List.map_nil, List.map_cons, exists_eq_left', Option.some.injEq, PyData.list.injEq, exists_eq_left, PyData.int.injEq, R.ok.injEq, Sl.own.injEq]
    cases hb : (i3 == 0) with
    | false =>
      simp only [Bool.false_eq_true, ↓reduceIte]
      exact tB_ok hk3 (by omega) (by omega) (by omega) hg (by omega) fun kx4 bs' s3 s4 s5 hk4 hg' hl' => ⟨bs', kx4, s3, s4, s5, hk4, hg', by omega, rfl⟩
    | true =>
      simp only [↓reduceIte]
      refine wn_drw (b := 4) rfl hk3 (by decide) fun i4 kx4 hk4 i40 i41 => ?_
      simp only [wn_ok, wn_some, wn_only, wn_noex, wn_e2, wn_e1, wn_eN, wn_a0, wn_aC, wn_call, wn_tb, wn_tup, wn_lst, wn_andB, wn_orB, wn_notB, wn_andV, wn_orV, wn_notV, wn_ifV, wn_iA, wn_iR1, wn_iR2, wn_iZ, wn_iEn, wn_iRR, wn_sl, wn_p0, wn_p1, wn_up, wn_upB, wn_upI, wn_x2, wn_x0, wn_xC, wn_xN, wn_xb, wn_xAnd, wn_xOr, wn_xNot, wn_xIf, wn_xCall, wn_xR1, wn_xR2, sn_nx, sn_rt, sn_bk, sn_ct, sn_seq, sn_set, sn_ret, sn_expr, sn_if, sn_for, sn_xSet, sn_xRet, sn_xExpr, sn_xIf, sn_xFor, sn_asg, sn_xAsg, sn_own, sn_xOwn, gv_zero, gv_succ, go_own, go_dat, go_succ, k0_def, gN_def, tru_bool, tru_none, tru_int, tru_list, asSeq_list, asSeq_tup, addV_int, subV_int, ltA_i, leA_i, gtA_i, geA_i, negV_int, intV_int, lenV_list, lenV_tup, ixV_list, ixV_tup, asInt_int, slV_list, slV_tup, slL_list, revV_tup, revV_list, tupleV_list, listV_list, listV_tup, eqV_str, neV_str, eqV_int, List.set_cons_zero, List.set_cons_succ, List.getElem?_cons_zero, List.getElem?_cons_succ, List.length_cons, List.length_nil, ↓reduceIte, Bool.false_eq_true, Bool.not_true, Bool.not_false, wn_ite, gT2, gT3, neV_tup, eqV_tup, in_tup, notin_tup', lineN_eq, Nat.reduceAdd, Nat.reduceLeDiff, Nat.zero_le, true_and, and_true, List.map_nil, List.map_cons, exists_eq_left', Option.some.injEq, PyData.list.injEq, exists_eq_left, PyData.int.injEq, R.ok.injEq, Sl.own.injEq]
      obtain ⟨b, x, b0, bx, x1, eb⟩ : ∃ b x : Int, -1000 ≤ b ∧ b < x ∧ x ≤ 1000 ∧ atD [.tuple [.int (-1000), .int 1000], .tuple [.int 999, .int 1000], .tuple [.int (-1000), .int (-999)], .tuple [.int 0, .int 1000]] i4 = some (.tuple [.int b, .int x]) := by
        have : i4 = 0 ∨ i4 = 1 ∨ i4 = 2 ∨ i4 = 3 := by omega
        rcases this with rfl | rfl | rfl | rfl
        · exact ⟨-1000, 1000, by decide, by decide, by decide, rfl⟩
        · exact ⟨999, 1000, by decide, by decide, by decide, rfl⟩
        · exact ⟨-1000, -999, by decide, by decide, by decide, rfl⟩
        · exact ⟨0, 1000, by decide, by decide, by decide, rfl⟩
      rw [eb, wn_some]
      refine ⟨_, gT2, ?_⟩
      exact tB_ok hk4 b0 bx x1 hg (by omega) fun kx4 bs' s3 s4 s5 hk4 hg' hl' => ⟨bs', kx4, s3, s4, s5, hk4, hg', by omega, rfl⟩
  · rintro η ⟨bs, kx', s3, s4, s5, hk', hg, hl, rfl⟩
    refine sn_frz rfl ?_
    simp only [wn_ok, wn_some, wn_only, wn_noex, wn_e2, wn_e1, wn_eN, wn_a0, wn_aC, wn_call, wn_tb, wn_tup, wn_lst, wn_andB, wn_orB, wn_notB, wn_andV, wn_orV, wn_notV, wn_ifV, wn_iA, wn_iR1, wn_iR2, wn_iZ, wn_iEn, wn_iRR, wn_sl, wn_p0, wn_p1, wn_up, wn_upB, wn_upI, wn_x2, wn_x0, wn_xC, wn_xN, wn_xb, wn_xAnd, wn_xOr, wn_xNot, wn_xIf, wn_xCall, wn_xR1, wn_xR2, sn_nx, sn_rt, sn_bk, sn_ct, sn_seq, sn_set, sn_ret, sn_expr, sn_if, sn_for, sn_xSet, sn_xRet, sn_xExpr, sn_xIf, sn_xFor, sn_asg, sn_xAsg, sn_own, sn_xOwn, gv_zero, gv_succ, go_own, go_dat, go_succ, k0_def, gN_def, tru_bool, tru_none, tru_int, tru_list, asSeq_list, asSeq_tup, addV_int, subV_int, ltA_i, leA_i, gtA_i, geA_i, negV_int, intV_int, lenV_list, lenV_tup, ixV_list, ixV_tup, asInt_int, slV_list, slV_tup, slL_list, revV_tup, revV_list, tupleV_list, listV_list, listV_tup, eqV_str, neV_str, eqV_int, List.set_cons_zero, List.set_cons_succ, List.getElem?_cons_zero, List.getElem?_cons_succ, List.length_cons, List.length_nil, ↓reduceIte, Bool.false_eq_true, Bool.not_true, Bool.not_false, wn_ite, gT2, gT3, neV_tup, eqV_tup, in_tup, notin_tup', lineN_eq, Nat.reduceAdd, Nat.reduceLeDiff, Nat.zero_le, true_and, and_true, List.map_nil, List.map_cons, exists_eq_left', Option.some.injEq, PyData.list.injEq, exists_eq_left, PyData.int.injEq, R.ok.injEq, Sl.own.injEq]
    refine sorted_w hg (by simp at hl; omega) fun cs pc => ?_
    exact ⟨kx', rfl, k cs kx' hk' (fun x m => hg x (pc.mem_iff.mp m)) (by rw [pc.length_eq]; simpa using hl)⟩
end Br
end Bd
/-! P2: two lists of bars drawn from a script, costs. -/
namespace Bd
open PySem L2
namespace Nr
open Br (Bar bD endD endI Good)
def dT : Nv → Rs :=
    (seqS (setS 5 (e2 modV (eN intV (aC (e2 addV (e2 addV (e2 mulV (gv 3) (k0 (.int 48271))) (e2 mulV (gv 1) (k0 (.int 69621)))) (k0 (.int 12345))) a0)) (k0 (.int 2147483647))))
    (seqS (setS 5 (e2 modV (eN intV (aC (e2 addV (e2 addV (e2 mulV (gv 5) (gv 5)) (e2 mulV (k0 (.int 16807)) (gv 1))) (k0 (.int 7))) a0)) (k0 (.int 998244353))))
    (seqS (setS 5 (e2 modV (eN intV (aC (e2 addV (e2 addV (e2 mulV (gv 5) (gv 5)) (e2 mulV (k0 (.int 48271)) (gv 1))) (gv 3)) a0)) (k0 (.int 2147483629))))
    (seqS (retS (e2 modV (e2 fdivV (gv 5) (k0 (.int 13))) (gv 2)))
    .nx))))
def G__law_draw : Nv → Rs :=
    (seqS (ifS (tb (e2 eqV' (eN lenV (aC (gv 0) a0)) (k0 (.int 0)))) (seqS (retS (k0 (.int 0)))
    .nx) .nx)
    (seqS (setS 3 (eN intV (aC (e2 ixV (gv 0) (e2 modV (eN intV (aC (e2 fdivV (gv 1) (k0 (.int 4))) a0)) (eN lenV (aC (gv 0) a0)))) a0)))
    (seqS (ifS (andB (tb (e2 geA (gv 3) (e2 powV (k0 (.int 10)) (k0 (.int 18))))) (tb (e2 ltA (e2 fdivV (gv 1) (k0 (.int 4))) (eN lenV (aC (gv 0) a0))))) (seqS (forS (iR1 (aC (e2 modV (eN intV (aC (gv 1) a0)) (k0 (.int 4))) a0)) (gN 4) (seqS (setS 3 (e2 fdivV (gv 3) (k0 (.int 1000))))
    .nx))
    (seqS (retS (e2 modV (e2 modV (eN intV (aC (gv 3) a0)) (k0 (.int 1000))) (gv 2)))
    .nx)) .nx)
    dT)))
def F__law_draw : List D → R D := runD 6 (.ok .none) G__law_draw
def G__law_bar : Nv → Rs :=
    (seqS (setS 3 (e2 ixV (tupV (aC (k0 (.int 0)) (aC (k0 (.int 0)) (aC (k0 (.int 0)) (aC (k0 (.int 1)) (aC (k0 (.int 1)) (aC (k0 (.int 2)) a0))))))) (callV F__law_draw (aC (gv 0) (aC (gv 1) (aC (k0 (.int 6)) a0))))))
    (seqS (setS 4 (e2 subV (callV F__law_draw (aC (gv 0) (aC (e2 addV (gv 1) (k0 (.int 1))) (aC (gv 2) a0)))) (e2 fdivV (gv 2) (k0 (.int 2)))))
    (seqS (setS 5 (eN minV (aC (k0 (.int 1000)) (aC (e2 addV (e2 addV (gv 4) (k0 (.int 1))) (callV F__law_draw (aC (gv 0) (aC (e2 addV (gv 1) (k0 (.int 3))) (aC (gv 2) a0))))) a0))))
    (seqS (ifS (orB (tb (e2 leA (gv 5) (gv 4))) (tb (e2 eqV' (callV F__law_draw (aC (gv 0) (aC (e2 addV (gv 1) (k0 (.int 2))) (aC (k0 (.int 6)) a0)))) (k0 (.int 0))))) (seqS (retS (tupV (aC (gv 3) (aC (gv 4) (aC (k0 .none) a0)))))
    .nx) .nx)
    (seqS (retS (tupV (aC (gv 3) (aC (gv 4) (aC (gv 5) a0)))))
    .nx)))))
def F__law_bar : List D → R D := runD 6 (.ok .none) G__law_bar
def G__law_near : Nv → Rs :=
    (seqS (setS 3 (eN maxV (aC (e1 negV (k0 (.int 1000))) (aC (eN minV (aC (k0 (.int 999)) (aC (e2 subV (e2 addV (e2 ixV (gv 2) (k0 (.int 1))) (callV F__law_draw (aC (gv 0) (aC (gv 1) (aC (k0 (.int 5)) a0))))) (k0 (.int 2))) a0))) a0))))
    (seqS (ifS (tb (e2 isV (e2 ixV (gv 2) (k0 (.int 2))) (k0 .none))) (seqS (retS (tupV (aC (e2 ixV (gv 2) (k0 (.int 0))) (aC (gv 3) (aC (k0 .none) a0)))))
    .nx) .nx)
    (seqS (retS (tupV (aC (e2 ixV (gv 2) (k0 (.int 0))) (aC (gv 3) (aC (eN minV (aC (k0 (.int 1000)) (aC (eN maxV (aC (e2 addV (gv 3) (k0 (.int 1))) (aC (e2 subV (e2 addV (e2 ixV (gv 2) (k0 (.int 2))) (callV F__law_draw (aC (gv 0) (aC (e2 addV (gv 1) (k0 (.int 1))) (aC (k0 (.int 5)) a0))))) (k0 (.int 2))) a0))) a0))) a0)))))
    .nx)))
def F__law_near : List D → R D := runD 4 (.ok .none) G__law_near
theorem ediv_b {i b : Int} (hb : 0 < b) : 0 ≤ i % b ∧ i % b < b := ⟨Int.emod_nonneg _ (by omega), Int.emod_lt_of_pos _ hb⟩
theorem dT_ok {S : D} {c k b : Int} {s4 s5 : Sl} {N B C : Nv → Prop} {Q : D → Prop} (hb : 0 < b) (q : ∀ i, 0 ≤ i → i < b → Q (.int i)) : Sn (dT [.d S, .d (.int k), .d (.int b), .d (.int c), s4, s5]) N (fun d _ => Q d) B C := by
  unfold dT
  have t1 : mulV (.int c) (.int 48271) = some (.int (c * 48271)) := mulV_int (.inr (by decide))
  have t2 : mulV (.int k) (.int 69621) = some (.int (k * 69621)) := mulV_int (.inr (by decide))
  have t4 : mulV (.int 16807) (.int k) = some (.int (16807 * k)) := mulV_int (.inl (by decide))
  have t6 : mulV (.int 48271) (.int k) = some (.int (48271 * k)) := mulV_int (.inl (by decide))
  have m1 : ∀ z : Int, modV (.int z) (.int 2147483647) = some (.int (z % 2147483647)) := fun z => modV_int (by decide)
  have m2 : ∀ z : Int, modV (.int z) (.int 998244353) = some (.int (z % 998244353)) := fun z => modV_int (by decide)
  have m3 : ∀ z : Int, modV (.int z) (.int 2147483629) = some (.int (z % 2147483629)) := fun z => modV_int (by decide)
  have m4 : ∀ z : Int, modV (.int z) (.int b) = some (.int (z % b)) := fun z => modV_int hb
  have d1 : ∀ z : Int, fdivV (.int z) (.int 13) = some (.int (z / 13)) := fun z => fdivV_int (by decide)
  simp only [wn_ok, wn_some, wn_only, wn_noex, wn_e2, wn_e1, wn_eN, wn_a0, wn_aC, wn_call, wn_tb, wn_tup, wn_lst, wn_andB, wn_orB, wn_notB, wn_andV, wn_orV, wn_notV, wn_ifV, wn_iA, wn_iR1, wn_iR2, wn_iZ, wn_iEn, wn_iRR, wn_sl, wn_p0, wn_p1, wn_up, wn_upB, wn_upI, wn_x2, wn_x0, wn_xC, wn_xN, wn_xb, wn_xAnd, wn_xOr, wn_xNot, wn_xIf, wn_xCall, wn_xR1, wn_xR2, sn_nx, sn_rt, sn_bk, sn_ct, sn_seq, sn_set, sn_ret, sn_expr, sn_if, sn_for, sn_xSet, sn_xRet, sn_xExpr, sn_xIf, sn_xFor, sn_asg, sn_xAsg, sn_own, sn_xOwn, gv_zero, gv_succ, go_own, go_dat, go_succ, k0_def, gN_def, tru_bool, tru_none, tru_int, tru_list, asSeq_list, asSeq_tup, addV_int, subV_int, ltA_i, leA_i, gtA_i, geA_i, negV_int, intV_int, lenV_list, lenV_tup, ixV_list, ixV_tup, asInt_int, slV_list, slV_tup, slL_list, revV_tup, revV_list, tupleV_list, listV_list, listV_tup, eqV_str, neV_str, eqV_int, List.set_cons_zero, List.set_cons_succ, List.getElem?_cons_zero, List.getElem?_cons_succ, List.length_cons, List.length_nil, ↓reduceIte, Bool.false_eq_true, Bool.not_true, Bool.not_false, wn_ite, gT2, gT3, neV_tup, eqV_tup, in_tup, notin_tup', lineN_eq, Nat.reduceAdd, Nat.reduceLeDiff, Nat.zero_le, true_and, and_true, List.map_nil, List.map_cons, exists_eq_left', Option.some.injEq, PyData.list.injEq, exists_eq_left, PyData.int.injEq, R.ok.injEq, Sl.own.injEq, t1, t2, m1]
  generalize q1 : (c * 48271 + k * 69621 + 12345) % 2147483647 = x1
  have b1 : 0 ≤ x1 ∧ x1 < 2147483647 := by omega
  simp only [wn_ok, wn_some, wn_only, wn_noex, wn_e2, wn_e1, wn_eN, wn_a0, wn_aC, wn_call, wn_tb, wn_tup, wn_lst, wn_andB, wn_orB, wn_notB, wn_andV, wn_orV, wn_notV, wn_ifV, wn_iA, wn_iR1, wn_iR2, wn_iZ, wn_iEn, wn_iRR, wn_sl, wn_p0, wn_p1, wn_up, wn_upB, wn_upI, wn_x2, wn_x0, wn_xC, wn_xN, wn_xb, wn_xAnd, wn_xOr, wn_xNot, wn_xIf, wn_xCall, wn_xR1, wn_xR2, sn_nx, sn_rt, sn_bk, sn_ct, sn_seq, sn_set, sn_ret, sn_expr, sn_if, sn_for, sn_xSet, sn_xRet, sn_xExpr, sn_xIf, sn_xFor, sn_asg, sn_xAsg, sn_own, sn_xOwn, gv_zero, gv_succ, go_own, go_dat, go_succ, k0_def, gN_def, tru_bool, tru_none, tru_int, tru_list, asSeq_list, asSeq_tup, addV_int, subV_int, ltA_i, leA_i, gtA_i, geA_i, negV_int, intV_int, lenV_list, lenV_tup, ixV_list, ixV_tup, asInt_int, slV_list, slV_tup, slL_list, revV_tup, revV_list, tupleV_list, listV_list, listV_tup, eqV_str, neV_str, eqV_int, List.set_cons_zero, List.set_cons_succ, List.getElem?_cons_zero, List.getElem?_cons_succ, List.length_cons, List.length_nil, ↓reduceIte, Bool.false_eq_true, Bool.not_true, Bool.not_false, wn_ite, gT2, gT3, neV_tup, eqV_tup, in_tup, notin_tup', lineN_eq, Nat.reduceAdd, Nat.reduceLeDiff, Nat.zero_le, true_and, and_true, List.map_nil, List.map_cons, exists_eq_left', Option.some.injEq, PyData.list.injEq, exists_eq_left, PyData.int.injEq, R.ok.injEq, Sl.own.injEq, mulV_int (i := x1) (j := x1) (.inl (by omega)), t4, m2]
  generalize q2 : (x1 * x1 + 16807 * k + 7) % 998244353 = x2
  have b2 : 0 ≤ x2 ∧ x2 < 998244353 := by omega
  simp only [wn_ok, wn_some, wn_only, wn_noex, wn_e2, wn_e1, wn_eN, wn_a0, wn_aC, wn_call, wn_tb, wn_tup, wn_lst, wn_andB, wn_orB, wn_notB, wn_andV, wn_orV, wn_notV, wn_ifV, wn_iA, wn_iR1, wn_iR2, wn_iZ, wn_iEn, wn_iRR, wn_sl, wn_p0, wn_p1, wn_up, wn_upB, wn_upI, wn_x2, wn_x0, wn_xC, wn_xN, wn_xb, wn_xAnd, wn_xOr, wn_xNot, wn_xIf, wn_xCall, wn_xR1, wn_xR2, sn_nx, sn_rt, sn_bk, sn_ct, sn_seq, sn_set, sn_ret, sn_expr, sn_if, sn_for, sn_xSet, sn_xRet, sn_xExpr, sn_xIf, sn_xFor, sn_asg, sn_xAsg, sn_own, sn_xOwn, gv_zero, gv_succ, go_own, go_dat, go_succ, k0_def, gN_def, tru_bool, tru_none, tru_int, tru_list, asSeq_list, asSeq_tup, addV_int, subV_int, ltA_i, leA_i, gtA_i, geA_i, negV_int, intV_int, lenV_list, lenV_tup, ixV_list, ixV_tup, asInt_int, slV_list, slV_tup, slL_list, revV_tup, revV_list, tupleV_list, listV_list, listV_tup, eqV_str, neV_str, eqV_int, List.set_cons_zero, List.set_cons_succ, List.getElem?_cons_zero, List.getElem?_cons_succ, List.length_cons, List.length_nil, ↓reduceIte, Bool.false_eq_true, Bool.not_true, Bool.not_false, wn_ite, gT2, gT3, neV_tup, eqV_tup, in_tup, notin_tup', lineN_eq, Nat.reduceAdd, Nat.reduceLeDiff, Nat.zero_le, true_and, and_true, List.map_nil, List.map_cons, exists_eq_left', Option.some.injEq, PyData.list.injEq, exists_eq_left, PyData.int.injEq, R.ok.injEq, Sl.own.injEq, mulV_int (i := x2) (j := x2) (.inl (by omega)), t6, m3, d1, m4]
  exact q _ (ediv_b hb).1 (ediv_b hb).2
theorem draw_w {ns : List Int} {k b : Int} {Q : D → Prop} (hk : 0 ≤ k) (hb : 0 < b) (q : ∀ i, 0 ≤ i → i < b → Q (.int i)) : Wn (F__law_draw [.list (ns.map PyData.int), .int k, .int b]) Q := by
  refine wn_runD ?_
  show Sn (G__law_draw [.d (.list (ns.map PyData.int)), .d (.int k), .d (.int b), .no, .no, .no]) _ _ _ _
  unfold G__law_draw
  have p18 : powV (.int 10) (.int 18) = some (.int 1000000000000000000) := powV_int (i := 10) (j := 18) ⟨by decide, by decide, by decide⟩
  have d4 : fdivV (.int k) (.int 4) = some (.int (k / 4)) := fdivV_int (by decide)
  simp only [wn_ok, wn_some, wn_only, wn_noex, wn_e2, wn_e1, wn_eN, wn_a0, wn_aC, wn_call, wn_tb, wn_tup, wn_lst, wn_andB, wn_orB, wn_notB, wn_andV, wn_orV, wn_notV, wn_ifV, wn_iA, wn_iR1, wn_iR2, wn_iZ, wn_iEn, wn_iRR, wn_sl, wn_p0, wn_p1, wn_up, wn_upB, wn_upI, wn_x2, wn_x0, wn_xC, wn_xN, wn_xb, wn_xAnd, wn_xOr, wn_xNot, wn_xIf, wn_xCall, wn_xR1, wn_xR2, sn_nx, sn_rt, sn_bk, sn_ct, sn_seq, sn_set, sn_ret, sn_expr, sn_if, sn_for, sn_xSet, sn_xRet, sn_xExpr, sn_xIf, sn_xFor, sn_asg, sn_xAsg, sn_own, sn_xOwn, gv_zero, gv_succ, go_own, go_dat, go_succ, k0_def, gN_def, tru_bool, tru_none, tru_int, tru_list, asSeq_list, asSeq_tup, addV_int, subV_int, ltA_i, leA_i, gtA_i, geA_i, negV_int, intV_int, lenV_list, lenV_tup, ixV_list, ixV_tup, asInt_int, slV_list, slV_tup, slL_list, revV_tup, revV_list, tupleV_list, listV_list, listV_tup, eqV_str, neV_str, eqV_int, List.set_cons_zero, List.set_cons_succ, List.getElem?_cons_zero, List.getElem?_cons_succ, List.length_cons, List.length_nil, ↓reduceIte, Bool.false_eq_true, Bool.not_true, Bool.not_false, wn_ite, gT2, gT3, neV_tup, eqV_tup, in_tup, notin_tup', lineN_eq, Nat.reduceAdd, Nat.reduceLeDiff, Nat.zero_le, true_and, and_true, List.map_nil, List.map_cons, exists_eq_left', Option.some.injEq, PyData.list.injEq, exists_eq_left, PyData.int.injEq, R.ok.injEq, Sl.own.injEq, List.length_map]
  by_cases h0 : ns.length = 0
  · rw [h0]
    exact q 0 (Int.le_refl _) hb
  · have e0 : ((ns.length : Int) == 0) = false := by
      rw [beq_eq_false_iff_ne]
      omega
    rw [e0]
    simp only [Bool.false_eq_true, ↓reduceIte]
    have m0 : modV (.int (k / 4)) (.int (ns.length : Int)) = some (.int (k / 4 % (ns.length : Int))) := modV_int (by omega)
    have ix := ediv_b (i := k / 4) (b := (ns.length : Int)) (by omega)
    have lt : (k / 4 % (ns.length : Int)).toNat < ns.length := by omega
    have g : atD (ns.map PyData.int) (k / 4 % (ns.length : Int)) = some (.int ns[(k / 4 % (ns.length : Int)).toNat]) := atD_nat ix.1 (by rw [List.getElem?_map, List.getElem?_eq_getElem lt]; rfl)
    simp only [wn_ok, wn_some, wn_only, wn_noex, wn_e2, wn_e1, wn_eN, wn_a0, wn_aC, wn_call, wn_tb, wn_tup, wn_lst, wn_andB, wn_orB, wn_notB, wn_andV, wn_orV, wn_notV, wn_ifV, wn_iA, wn_iR1, wn_iR2, wn_iZ, wn_iEn, wn_iRR, wn_sl, wn_p0, wn_p1, wn_up, wn_upB, wn_upI, wn_x2, wn_x0, wn_xC, wn_xN, wn_xb, wn_xAnd, wn_xOr, wn_xNot, wn_xIf, wn_xCall, wn_xR1, wn_xR2, sn_nx, sn_rt, sn_bk, sn_ct, sn_seq, sn_set, sn_ret, sn_expr, sn_if, sn_for, sn_xSet, sn_xRet, sn_xExpr, sn_xIf, sn_xFor, sn_asg, sn_xAsg, sn_own, sn_xOwn, gv_zero, gv_succ, go_own, go_dat, go_succ, k0_def, gN_def, tru_bool, tru_none, tru_int, tru_list, asSeq_list, asSeq_tup, addV_int, subV_int, ltA_i, leA_i, gtA_i, geA_i, negV_int, intV_int, lenV_list, lenV_tup, ixV_list, ixV_tup, asInt_int, slV_list, slV_tup, slL_list, revV_tup, revV_list, tupleV_list, listV_list, listV_tup, eqV_str, neV_str, eqV_int, List.set_cons_zero, List.set_cons_succ, List.getElem?_cons_zero, List.getElem?_cons_succ, List.length_cons, List.length_nil, ↓reduceIte, Bool.false_eq_true, Bool.not_true, Bool.not_false, wn_ite, gT2, gT3, neV_tup, eqV_tup, in_tup, notin_tup', lineN_eq, Nat.reduceAdd, Nat.reduceLeDiff, Nat.zero_le, true_and, and_true, List.map_nil, List.map_cons, exists_eq_left', Option.some.injEq, PyData.list.injEq, exists_eq_left, PyData.int.injEq, R.ok.injEq, Sl.own.injEq, d4, m0, g, p18]
    generalize ns[(k / 4 % (ns.length : Int)).toNat] = c
    by_cases h1 : (1000000000000000000 : Int) ≤ c
    · rw [decide_eq_true h1]
      simp only [↓reduceIte]
      by_cases h2 : k / 4 < (ns.length : Int)
      · rw [decide_eq_true h2]
        simp only [↓reduceIte]
        simp only [wn_ok, wn_some, wn_only, wn_noex, wn_e2, wn_e1, wn_eN, wn_a0, wn_aC, wn_call, wn_tb, wn_tup, wn_lst, wn_andB, wn_orB, wn_notB, wn_andV, wn_orV, wn_notV, wn_ifV, wn_iA, wn_iR1, wn_iR2, wn_iZ, wn_iEn, wn_iRR, wn_sl, wn_p0, wn_p1, wn_up, wn_upB, wn_upI, wn_x2, wn_x0, wn_xC, wn_xN, wn_xb, wn_xAnd, wn_xOr, wn_xNot, wn_xIf, wn_xCall, wn_xR1, wn_xR2, sn_nx, sn_rt, sn_bk, sn_ct, sn_seq, sn_set, sn_ret, sn_expr, sn_if, sn_for, sn_xSet, sn_xRet, sn_xExpr, sn_xIf, sn_xFor, sn_asg, sn_xAsg, sn_own, sn_xOwn, gv_zero, gv_succ, go_own, go_dat, go_succ, k0_def, gN_def, tru_bool, tru_none, tru_int, tru_list, asSeq_list, asSeq_tup, addV_int, subV_int, ltA_i, leA_i, gtA_i, geA_i, negV_int, intV_int, lenV_list, lenV_tup, ixV_list, ixV_tup, asInt_int, slV_list, slV_tup, slL_list, revV_tup, revV_list, tupleV_list, listV_list, listV_tup, eqV_str, neV_str, eqV_int, List.set_cons_zero, List.set_cons_succ, List.getElem?_cons_zero, List.getElem?_cons_succ, List.length_cons, List.length_nil, ↓reduceIte, Bool.false_eq_true, Bool.not_true, Bool.not_false, wn_ite, gT2, gT3, neV_tup, eqV_tup, in_tup, notin_tup', lineN_eq, Nat.reduceAdd, Nat.reduceLeDiff, Nat.zero_le, true_and, and_true, List.map_nil, List.map_cons, exists_eq_left', Option.some.injEq, PyData.list.injEq, exists_eq_left, PyData.int.injEq, R.ok.injEq, Sl.own.injEq, modV_int (i := k) (j := 4) (by decide)]
        rw [wn_rng1 (by omega) (by omega)]
        refine sn_loop (fun rest η => ∃ (c : Int) (s4 : Sl), η = [.d (.list (ns.map PyData.int)), .d (.int k), .d (.int b), .d (.int c), s4, .no]) ?_ ?_ _ _ ⟨c, .no, rfl⟩
        · rintro y rest η ⟨c, s4, rfl⟩
          refine ⟨_, rfl, ?_⟩
          simp only [wn_ok, wn_some, wn_only, wn_noex, wn_e2, wn_e1, wn_eN, wn_a0, wn_aC, wn_call, wn_tb, wn_tup, wn_lst, wn_andB, wn_orB, wn_notB, wn_andV, wn_orV, wn_notV, wn_ifV, wn_iA, wn_iR1, wn_iR2, wn_iZ, wn_iEn, wn_iRR, wn_sl, wn_p0, wn_p1, wn_up, wn_upB, wn_upI, wn_x2, wn_x0, wn_xC, wn_xN, wn_xb, wn_xAnd, wn_xOr, wn_xNot, wn_xIf, wn_xCall, wn_xR1, wn_xR2, sn_nx, sn_rt, sn_bk, sn_ct, sn_seq, sn_set, sn_ret, sn_expr, sn_if, sn_for, sn_xSet, sn_xRet, sn_xExpr, sn_xIf, sn_xFor, sn_asg, sn_xAsg, sn_own, sn_xOwn, gv_zero, gv_succ, go_own, go_dat, go_succ, k0_def, gN_def, tru_bool, tru_none, tru_int, tru_list, asSeq_list, asSeq_tup, addV_int, subV_int, ltA_i, leA_i, gtA_i, geA_i, negV_int, intV_int, lenV_list, lenV_tup, ixV_list, ixV_tup, asInt_int, slV_list, slV_tup, slL_list, revV_tup, revV_list, tupleV_list, listV_list, listV_tup, eqV_str, neV_str, eqV_int, List.set_cons_zero, List.set_cons_succ, List.getElem?_cons_zero, List.getElem?_cons_succ, List.length_cons, List.length_nil, ↓reduceIte, Bool.false_eq_true, Bool.not_true, Bool.not_false, wn_ite, gT2, gT3, neV_tup, eqV_tup, in_tup, notin_tup', lineN_eq, Nat.reduceAdd, Nat.reduceLeDiff, Nat.zero_le, true_and, and_true, List.map_nil, List.map_cons, exists_eq_left', Option.some.injEq, PyData.list.injEq, exists_eq_left, PyData.int.injEq, R.ok.injEq, Sl.own.injEq, fdivV_int (i := c) (j := 1000) (by decide)]
          exact ⟨_, _, rfl⟩
        · rintro η ⟨c, s4, rfl⟩
          simp only [wn_ok, wn_some, wn_only, wn_noex, wn_e2, wn_e1, wn_eN, wn_a0, wn_aC, wn_call, wn_tb, wn_tup, wn_lst, wn_andB, wn_orB, wn_notB, wn_andV, wn_orV, wn_notV, wn_ifV, wn_iA, wn_iR1, wn_iR2, wn_iZ, wn_iEn, wn_iRR, wn_sl, wn_p0, wn_p1, wn_up, wn_upB, wn_upI, wn_x2, wn_x0, wn_xC, wn_xN, wn_xb, wn_xAnd, wn_xOr, wn_xNot, wn_xIf, wn_xCall, wn_xR1, wn_xR2, sn_nx, sn_rt, sn_bk, sn_ct, sn_seq, sn_set, sn_ret, sn_expr, sn_if, sn_for, sn_xSet, sn_xRet, sn_xExpr, sn_xIf, sn_xFor, sn_asg, sn_xAsg, sn_own, sn_xOwn, gv_zero, gv_succ, go_own, go_dat, go_succ, k0_def, gN_def, tru_bool, tru_none, tru_int, tru_list, asSeq_list, asSeq_tup, addV_int, subV_int, ltA_i, leA_i, gtA_i, geA_i, negV_int, intV_int, lenV_list, lenV_tup, ixV_list, ixV_tup, asInt_int, slV_list, slV_tup, slL_list, revV_tup, revV_list, tupleV_list, listV_list, listV_tup, eqV_str, neV_str, eqV_int, List.set_cons_zero, List.set_cons_succ, List.getElem?_cons_zero, List.getElem?_cons_succ, List.length_cons, List.length_nil, ↓reduceIte, Bool.false_eq_true, Bool.not_true, Bool.not_false, wn_ite, gT2, gT3, neV_tup, eqV_tup, in_tup, notin_tup', lineN_eq, Nat.reduceAdd, Nat.reduceLeDiff, Nat.zero_le, true_and, and_true, List.map_nil, List.map_cons, exists_eq_left', Option.some.injEq, PyData.list.injEq, exists_eq_left, PyData.int.injEq, R.ok.injEq, Sl.own.injEq, modV_int (i := c) (j := 1000) (by decide), modV_int (i := c % 1000) hb]
          exact q _ (ediv_b hb).1 (ediv_b hb).2
      · rw [decide_eq_false h2]
        simp only [Bool.false_eq_true, ↓reduceIte]
        exact dT_ok hb q
    · rw [decide_eq_false h1]
      simp only [Bool.false_eq_true, ↓reduceIte]
      exact dT_ok hb q
theorem minV_i (a b : Int) : minV [.int a, .int b] = some (.int (if b < a then b else a)) := rfl
theorem maxV_i (a b : Int) : maxV [.int a, .int b] = some (.int (if b > a then b else a)) := rfl
theorem bar_w {ns : List Int} {k w : Int} {Q : D → Prop} (hk : 0 ≤ k) (h0 : 0 < w) (h1 : w ≤ 2001) (q : ∀ x : Bar, Good x → Q (bD x)) : Wn (F__law_bar [.list (ns.map PyData.int), .int k, .int w]) Q := by
  refine wn_runD ?_
  show Sn (G__law_bar [.d (.list (ns.map PyData.int)), .d (.int k), .d (.int w), .no, .no, .no]) _ _ _ _
  unfold G__law_bar
  simp only [wn_ok, wn_some, wn_only, wn_noex, wn_e2, wn_e1, wn_eN, wn_a0, wn_aC, wn_call, wn_tb, wn_tup, wn_lst, wn_andB, wn_orB, wn_notB, wn_andV, wn_orV, wn_notV, wn_ifV, wn_iA, wn_iR1, wn_iR2, wn_iZ, wn_iEn, wn_iRR, wn_sl, wn_p0, wn_p1, wn_up, wn_upB, wn_upI, wn_x2, wn_x0, wn_xC, wn_xN, wn_xb, wn_xAnd, wn_xOr, wn_xNot, wn_xIf, wn_xCall, wn_xR1, wn_xR2, sn_nx, sn_rt, sn_bk, sn_ct, sn_seq, sn_set, sn_ret, sn_expr, sn_if, sn_for, sn_xSet, sn_xRet, sn_xExpr, sn_xIf, sn_xFor, sn_asg, sn_xAsg, sn_own, sn_xOwn, gv_zero, gv_succ, go_own, go_dat, go_succ, k0_def, gN_def, tru_bool, tru_none, tru_int, tru_list, asSeq_list, asSeq_tup, addV_int, subV_int, ltA_i, leA_i, gtA_i, geA_i, negV_int, intV_int, lenV_list, lenV_tup, ixV_list, ixV_tup, asInt_int, slV_list, slV_tup, slL_list, revV_tup, revV_list, tupleV_list, listV_list, listV_tup, eqV_str, neV_str, eqV_int, List.set_cons_zero, List.set_cons_succ, List.getElem?_cons_zero, List.getElem?_cons_succ, List.length_cons, List.length_nil, ↓reduceIte, Bool.false_eq_true, Bool.not_true, Bool.not_false, wn_ite, gT2, gT3, neV_tup, eqV_tup, in_tup, notin_tup', lineN_eq, Nat.reduceAdd, Nat.reduceLeDiff, Nat.zero_le, true_and, and_true, List.map_nil, List.map_cons, exists_eq_left', Option.some.injEq, PyData.list.injEq, exists_eq_left, PyData.int.injEq, R.ok.injEq, Sl.own.injEq]
  refine draw_w hk (by decide) fun i0 i00 i01 => ?_
  obtain ⟨d, d0, d1, ed⟩ : ∃ d : Int, 0 ≤ d ∧ d < 3 ∧ atD [.int 0, .int 0, .int 0, .int 1, .int 1, .int 2] i0 = some (.int d) := by
    have : i0 = 0 ∨ i0 = 1 ∨ i0 = 2 ∨ i0 = 3 ∨ i0 = 4 ∨ i0 = 5 := by omega
    rcases this with rfl | rfl | rfl | rfl | rfl | rfl <;> exact ⟨_, by decide, by decide, rfl⟩
  simp only [wn_ok, wn_some, wn_only, wn_noex, wn_e2, wn_e1, wn_eN, wn_a0, wn_aC, wn_call, wn_tb, wn_tup, wn_lst, wn_andB, wn_orB, wn_notB, wn_andV, wn_orV, wn_notV, wn_ifV, wn_iA, wn_iR1, wn_iR2, wn_iZ, wn_iEn, wn_iRR, wn_sl, wn_p0, wn_p1, wn_up, wn_upB, wn_upI, wn_x2, wn_x0, wn_xC, wn_xN, wn_xb, wn_xAnd, wn_xOr, wn_xNot, wn_xIf, wn_xCall, wn_xR1, wn_xR2, sn_nx, sn_rt, sn_bk, sn_ct, sn_seq, sn_set, sn_ret, sn_expr, sn_if, sn_for, sn_xSet, sn_xRet, sn_xExpr, sn_xIf, sn_xFor, sn_asg, sn_xAsg, sn_own, sn_xOwn, gv_zero, gv_succ, go_own, go_dat, go_succ, k0_def, gN_def, tru_bool, tru_none, tru_int, tru_list, asSeq_list, asSeq_tup, addV_int, subV_int, ltA_i, leA_i, gtA_i, geA_i, negV_int, intV_int, lenV_list, lenV_tup, ixV_list, ixV_tup, asInt_int, slV_list, slV_tup, slL_list, revV_tup, revV_list, tupleV_list, listV_list, listV_tup, eqV_str, neV_str, eqV_int, List.set_cons_zero, List.set_cons_succ, List.getElem?_cons_zero, List.getElem?_cons_succ, List.length_cons, List.length_nil, ↓reduceIte, Bool.false_eq_true, Bool.not_true, Bool.not_false, wn_ite, gT2, gT3, neV_tup, eqV_tup, in_tup, notin_tup', lineN_eq, Nat.reduceAdd, Nat.reduceLeDiff, Nat.zero_le, true_and, and_true, List.map_nil, List.map_cons, exists_eq_left', Option.some.injEq, PyData.list.injEq, exists_eq_left, PyData.int.injEq, R.ok.injEq, Sl.own.injEq, ed]
  refine draw_w (by omega) h0 fun i1 i10 i11 => ?_
  simp only [wn_ok, wn_some, wn_only, wn_noex, wn_e2, wn_e1, wn_eN, wn_a0, wn_aC, wn_call, wn_tb, wn_tup, wn_lst, wn_andB, wn_orB, wn_notB, wn_andV, wn_orV, wn_notV, wn_ifV, wn_iA, wn_iR1, wn_iR2, wn_iZ, wn_iEn, wn_iRR, wn_sl, wn_p0, wn_p1, wn_up, wn_upB, wn_upI, wn_x2, wn_x0, wn_xC, wn_xN, wn_xb, wn_xAnd, wn_xOr, wn_xNot, wn_xIf, wn_xCall, wn_xR1, wn_xR2, sn_nx, sn_rt, sn_bk, sn_ct, sn_seq, sn_set, sn_ret, sn_expr, sn_if, sn_for, sn_xSet, sn_xRet, sn_xExpr, sn_xIf, sn_xFor, sn_asg, sn_xAsg, sn_own, sn_xOwn, gv_zero, gv_succ, go_own, go_dat, go_succ, k0_def, gN_def, tru_bool, tru_none, tru_int, tru_list, asSeq_list, asSeq_tup, addV_int, subV_int, ltA_i, leA_i, gtA_i, geA_i, negV_int, intV_int, lenV_list, lenV_tup, ixV_list, ixV_tup, asInt_int, slV_list, slV_tup, slL_list, revV_tup, revV_list, tupleV_list, listV_list, listV_tup, eqV_str, neV_str, eqV_int, List.set_cons_zero, List.set_cons_succ, List.getElem?_cons_zero, List.getElem?_cons_succ, List.length_cons, List.length_nil, ↓reduceIte, Bool.false_eq_true, Bool.not_true, Bool.not_false, wn_ite, gT2, gT3, neV_tup, eqV_tup, in_tup, notin_tup', lineN_eq, Nat.reduceAdd, Nat.reduceLeDiff, Nat.zero_le, true_and, and_true, List.map_nil, List.map_cons, exists_eq_left', Option.some.injEq, PyData.list.injEq, exists_eq_left, PyData.int.injEq, R.ok.injEq, Sl.own.injEq, fdivV_int (i := w) (j := 2) (by decide)]
  refine draw_w (by omega) h0 fun i2 i20 i21 => ?_
  simp only [wn_ok, wn_some, wn_only, wn_noex, wn_e2, wn_e1, wn_eN, wn_a0, wn_aC, wn_call, wn_tb, wn_tup, wn_lst, wn_andB, wn_orB, wn_notB, wn_andV, wn_orV, wn_notV, wn_ifV, wn_iA, wn_iR1, wn_iR2, wn_iZ, wn_iEn, wn_iRR, wn_sl, wn_p0, wn_p1, wn_up, wn_upB, wn_upI, wn_x2, wn_x0, wn_xC, wn_xN, wn_xb, wn_xAnd, wn_xOr, wn_xNot, wn_xIf, wn_xCall, wn_xR1, wn_xR2, sn_nx, sn_rt, sn_bk, sn_ct, sn_seq, sn_set, sn_ret, sn_expr, sn_if, sn_for, sn_xSet, sn_xRet, sn_xExpr, sn_xIf, sn_xFor, sn_asg, sn_xAsg, sn_own, sn_xOwn, gv_zero, gv_succ, go_own, go_dat, go_succ, k0_def, gN_def, tru_bool, tru_none, tru_int, tru_list, asSeq_list, asSeq_tup, addV_int, subV_int, ltA_i, leA_i, gtA_i, geA_i, negV_int, intV_int, lenV_list, lenV_tup, ixV_list, ixV_tup, asInt_int, slV_list, slV_tup, slL_list, revV_tup, revV_list, tupleV_list, listV_list, listV_tup, eqV_str, neV_str, eqV_int, List.set_cons_zero, List.set_cons_succ, List.getElem?_cons_zero, List.getElem?_cons_succ, List.length_cons, List.length_nil, ↓reduceIte, Bool.false_eq_true, Bool.not_true, Bool.not_false, wn_ite, gT2, gT3, neV_tup, eqV_tup, in_tup, notin_tup', lineN_eq, Nat.reduceAdd, Nat.reduceLeDiff, Nat.zero_le, true_and, and_true, List.map_nil, List.map_cons, exists_eq_left', Option.some.injEq, PyData.list.injEq, exists_eq_left, PyData.int.injEq, R.ok.injEq, Sl.own.injEq, minV_i]
  generalize hb : i1 - w / 2 = b
  generalize hx : (if b + 1 + i2 < 1000 then b + 1 + i2 else 1000) = x
  have x1 : x ≤ 1000 := by subst hx; split <;> omega
  have b0 : -1000 ≤ b ∧ b ≤ 1000 := by omega
  by_cases c : x ≤ b
  · rw [decide_eq_true c]
    simp only [↓reduceIte]
    exact q ⟨d, b, none⟩ ⟨d0, d1, b0.1, b0.2, fun y e => by cases e⟩
  · rw [decide_eq_false c]
    simp only [Bool.false_eq_true, ↓reduceIte]
    refine draw_w (by omega) (by decide) fun i3 i30 i31 => ?_
    simp only [wn_ok, wn_some, wn_only, wn_noex, wn_e2, wn_e1, wn_eN, wn_a0, wn_aC, wn_call, wn_tb, wn_tup, wn_lst, wn_andB, wn_orB, wn_notB, wn_andV, wn_orV, wn_notV, wn_ifV, wn_iA, wn_iR1, wn_iR2, wn_iZ, wn_iEn, wn_iRR, wn_sl, wn_p0, wn_p1, wn_up, wn_upB, wn_upI, wn_x2, wn_x0, wn_xC, wn_xN, wn_xb, wn_xAnd, wn_xOr, wn_xNot, wn_xIf, wn_xCall, wn_xR1, wn_xR2, sn_nx, sn_rt, sn_bk, sn_ct, sn_seq, sn_set, sn_ret, sn_expr, sn_if, sn_for, sn_xSet, sn_xRet, sn_xExpr, sn_xIf, sn_xFor, sn_asg, sn_xAsg, sn_own, sn_xOwn, gv_zero, gv_succ, go_own, go_dat, go_succ, k0_def, gN_def, tru_bool, tru_none, tru_int, tru_list, asSeq_list, asSeq_tup, addV_int, subV_int, ltA_i, leA_i, gtA_i, geA_i, negV_int, intV_int, lenV_list, lenV_tup, ixV_list, ixV_tup, asInt_int, slV_list, slV_tup, slL_list, revV_tup, revV_list, tupleV_list, listV_list, listV_tup, eqV_str, neV_str, eqV_int, List.set_cons_zero, List.set_cons_succ, List.getElem?_cons_zero, List.getElem?_cons_succ, List.length_cons, List.length_nil, ↓reduceIte, Bool.false_eq_true, Bool.not_true, Bool.not_false, wn_ite, gT2, gT3, neV_tup, eqV_tup, in_tup, notin_tup', lineN_eq, Nat.reduceAdd, Nat.reduceLeDiff, Nat.zero_le, true_and, and_true, List.map_nil, List.map_cons, exists_eq_left', Option.some.injEq, PyData.list.injEq, exists_eq_left, PyData.int.injEq, R.ok.injEq, Sl.own.injEq]
    cases (i3 == 0) with
    | true =>
      simp only [↓reduceIte]
      exact q ⟨d, b, none⟩ ⟨d0, d1, b0.1, b0.2, fun y e => by cases e⟩
    | false =>
      simp only [Bool.false_eq_true, ↓reduceIte]
      exact q ⟨d, b, some x⟩ ⟨d0, d1, b0.1, b0.2, fun y e => by cases e; exact ⟨by show b < x; omega, x1⟩⟩
theorem near_w {ns : List Int} {k : Int} {x : Bar} {Q : D → Prop} (hk : 0 ≤ k) (g : Good x) (q : ∀ y : Bar, Good y → Q (bD y)) : Wn (F__law_near [.list (ns.map PyData.int), .int k, bD x]) Q := by
  refine wn_runD ?_
  show Sn (G__law_near [.d (.list (ns.map PyData.int)), .d (.int k), .d (bD x), .no]) _ _ _ _
  unfold G__law_near
  simp only [wn_ok, wn_some, wn_only, wn_noex, wn_e2, wn_e1, wn_eN, wn_a0, wn_aC, wn_call, wn_tb, wn_tup, wn_lst, wn_andB, wn_orB, wn_notB, wn_andV, wn_orV, wn_notV, wn_ifV, wn_iA, wn_iR1, wn_iR2, wn_iZ, wn_iEn, wn_iRR, wn_sl, wn_p0, wn_p1, wn_up, wn_upB, wn_upI, wn_x2, wn_x0, wn_xC, wn_xN, wn_xb, wn_xAnd, wn_xOr, wn_xNot, wn_xIf, wn_xCall, wn_xR1, wn_xR2, sn_nx, sn_rt, sn_bk, sn_ct, sn_seq, sn_set, sn_ret, sn_expr, sn_if, sn_for, sn_xSet, sn_xRet, sn_xExpr, sn_xIf, sn_xFor, sn_asg, sn_xAsg, sn_own, sn_xOwn, gv_zero, gv_succ, go_own, go_dat, go_succ, k0_def, gN_def, tru_bool, tru_none, tru_int, tru_list, asSeq_list, asSeq_tup, addV_int, subV_int, ltA_i, leA_i, gtA_i, geA_i, negV_int, intV_int, lenV_list, lenV_tup, ixV_list, ixV_tup, asInt_int, slV_list, slV_tup, slL_list, revV_tup, revV_list, tupleV_list, listV_list, listV_tup, eqV_str, neV_str, eqV_int, List.set_cons_zero, List.set_cons_succ, List.getElem?_cons_zero, List.getElem?_cons_succ, List.length_cons, List.length_nil, ↓reduceIte, Bool.false_eq_true, Bool.not_true, Bool.not_false, wn_ite, gT2, gT3, neV_tup, eqV_tup, in_tup, notin_tup', lineN_eq, Nat.reduceAdd, Nat.reduceLeDiff, Nat.zero_le, true_and, and_true, List.map_nil, List.map_cons, exists_eq_left', Option.some.injEq, PyData.list.injEq, exists_eq_left, PyData.int.injEq, R.ok.injEq, Sl.own.injEq, show ixV (bD x) (.int 0) = some (.int x.d) from rfl, show ixV (bD x) (.int 1) = some (.int x.b) from rfl, show ixV (bD x) (.int 2) = some (endD x.e) from rfl]
  refine draw_w hk (by decide) fun i0 i00 i01 => ?_
  simp only [wn_ok, wn_some, wn_only, wn_noex, wn_e2, wn_e1, wn_eN, wn_a0, wn_aC, wn_call, wn_tb, wn_tup, wn_lst, wn_andB, wn_orB, wn_notB, wn_andV, wn_orV, wn_notV, wn_ifV, wn_iA, wn_iR1, wn_iR2, wn_iZ, wn_iEn, wn_iRR, wn_sl, wn_p0, wn_p1, wn_up, wn_upB, wn_upI, wn_x2, wn_x0, wn_xC, wn_xN, wn_xb, wn_xAnd, wn_xOr, wn_xNot, wn_xIf, wn_xCall, wn_xR1, wn_xR2, sn_nx, sn_rt, sn_bk, sn_ct, sn_seq, sn_set, sn_ret, sn_expr, sn_if, sn_for, sn_xSet, sn_xRet, sn_xExpr, sn_xIf, sn_xFor, sn_asg, sn_xAsg, sn_own, sn_xOwn, gv_zero, gv_succ, go_own, go_dat, go_succ, k0_def, gN_def, tru_bool, tru_none, tru_int, tru_list, asSeq_list, asSeq_tup, addV_int, subV_int, ltA_i, leA_i, gtA_i, geA_i, negV_int, intV_int, lenV_list, lenV_tup, ixV_list, ixV_tup, asInt_int, slV_list, slV_tup, slL_list, revV_tup, revV_list, tupleV_list, listV_list, listV_tup, eqV_str, neV_str, eqV_int, List.set_cons_zero, List.set_cons_succ, List.getElem?_cons_zero, List.getElem?_cons_succ, List.length_cons, List.length_nil, ↓reduceIte, Bool.false_eq_true, Bool.not_true, Bool.not_false, wn_ite, gT2, gT3, neV_tup, eqV_tup, in_tup, notin_tup', lineN_eq, Nat.reduceAdd, Nat.reduceLeDiff, Nat.zero_le, true_and, and_true, List.map_nil, List.map_cons, exists_eq_left', Option.some.injEq, PyData.list.injEq, exists_eq_left, PyData.int.injEq, R.ok.injEq, Sl.own.injEq, minV_i, maxV_i, show ixV (bD x) (.int 2) = some (endD x.e) from rfl, show ixV (bD x) (.int 0) = some (.int x.d) from rfl, Br.isV_none]
  generalize hb : (if (if x.b + i0 - 2 < 999 then x.b + i0 - 2 else 999) > -1000 then (if x.b + i0 - 2 < 999 then x.b + i0 - 2 else 999) else -1000) = b
  have b0 : -1000 ≤ b ∧ b ≤ 999 := by subst hb; split <;> split at * <;> omega
  have gd := g.d0
  have gd1 := g.d1
  cases e : x.e with
  | none =>
    simp only [Option.isNone_none, ↓reduceIte]
    exact q ⟨x.d, b, none⟩ ⟨gd, gd1, b0.1, (by show b ≤ 1000; omega), fun y e => by cases e⟩
  | some z =>
    simp only [Option.isNone_some, Bool.false_eq_true, ↓reduceIte, endD]
    refine draw_w (by omega) (by decide) fun i1 i10 i11 => ?_
    simp only [wn_ok, wn_some, wn_only, wn_noex, wn_e2, wn_e1, wn_eN, wn_a0, wn_aC, wn_call, wn_tb, wn_tup, wn_lst, wn_andB, wn_orB, wn_notB, wn_andV, wn_orV, wn_notV, wn_ifV, wn_iA, wn_iR1, wn_iR2, wn_iZ, wn_iEn, wn_iRR, wn_sl, wn_p0, wn_p1, wn_up, wn_upB, wn_upI, wn_x2, wn_x0, wn_xC, wn_xN, wn_xb, wn_xAnd, wn_xOr, wn_xNot, wn_xIf, wn_xCall, wn_xR1, wn_xR2, sn_nx, sn_rt, sn_bk, sn_ct, sn_seq, sn_set, sn_ret, sn_expr, sn_if, sn_for, sn_xSet, sn_xRet, sn_xExpr, sn_xIf, sn_xFor, sn_asg, sn_xAsg, sn_own, sn_xOwn, gv_zero, gv_succ, go_own, go_dat, go_succ, k0_def, gN_def, tru_bool, tru_none, tru_int, tru_list, asSeq_list, asSeq_tup, addV_int, subV_int, ltA_i, leA_i, gtA_i, geA_i, negV_int, intV_int, lenV_list, lenV_tup, ixV_list, ixV_tup, asInt_int, slV_list, slV_tup, slL_list, revV_tup, revV_list, tupleV_list, listV_list, listV_tup, eqV_str, neV_str, eqV_int, List.set_cons_zero, List.set_cons_succ, List.getElem?_cons_zero, List.getElem?_cons_succ, List.length_cons, List.length_nil, ↓reduceIte, Bool.false_eq_true, Bool.not_true, Bool.not_false, wn_ite, gT2, gT3, neV_tup, eqV_tup, in_tup, notin_tup', lineN_eq, Nat.reduceAdd, Nat.reduceLeDiff, Nat.zero_le, true_and, and_true, List.map_nil, List.map_cons, exists_eq_left', Option.some.injEq, PyData.list.injEq, exists_eq_left, PyData.int.injEq, R.ok.injEq, Sl.own.injEq, minV_i, maxV_i]
    refine q ⟨x.d, b, some _⟩ ⟨gd, gd1, b0.1, (by show b ≤ 1000; omega), fun y e => ?_⟩
    cases e
    refine ⟨?_, ?_⟩
    · show b < _
      split <;> split <;> omega
    · split <;> omega
end Nr
end Bd
/-! P3: two lists of bars drawn from a script. -/
namespace Bd
open PySem L2
namespace Nr
open Br (Bar bD endD endI Good)
def G__law_lists : Nv → Rs :=
    (seqS (setS 3 (e2 ixV (tupV (aC (k0 (.int 4)) (aC (k0 (.int 10)) (aC (k0 (.int 10)) (aC (k0 (.int 400)) (aC (k0 (.int 2001)) a0)))))) (callV F__law_draw (aC (gv 0) (aC (gv 1) (aC (k0 (.int 5)) a0))))))
    (seqS (setS 5 (compE (iR1 (aC (callV F__law_draw (aC (gv 0) (aC (e2 addV (gv 1) (k0 (.int 1))) (aC (e2 addV (gv 2) (k0 (.int 1))) a0)))) a0)) (gN 4) (fun _ => .ok true) (callV F__law_bar (aC (gv 0) (aC (e2 addV (e2 addV (gv 1) (k0 (.int 2))) (e2 mulV (k0 (.int 4)) (gv 4))) (aC (gv 3) a0)))) [4]))
    (seqS (ownS 6 (lstV a0))
    (seqS (forS (iR1 (aC (eN lenV (aC (gv 5) a0)) a0)) (gN 4) (seqS (setS 7 (callV F__law_draw (aC (gv 0) (aC (e2 addV (e2 addV (gv 1) (k0 (.int 40))) (e2 mulV (k0 (.int 3)) (gv 4))) (aC (k0 (.int 5)) a0)))))
    (seqS (ifS (tb (e2 gtA (gv 7) (k0 (.int 1)))) (seqS (appS 6 (callV F__law_near (aC (gv 0) (aC (e2 addV (e2 addV (gv 1) (k0 (.int 41))) (e2 mulV (k0 (.int 3)) (gv 4))) (aC (e2 ixV (gv 5) (gv 4)) a0)))))
    .nx) (seqS (ifS (andB (tb (e2 eqV' (gv 7) (k0 (.int 1)))) (tb (e2 isV (e2 ixV (e2 ixV (gv 5) (gv 4)) (k0 (.int 2))) (k0 .none)))) (seqS (appS 6 (e2 ixV (gv 5) (gv 4)))
    .nx) .nx)
    .nx))
    .nx)))
    (seqS (forS (iR1 (aC (callV F__law_draw (aC (gv 0) (aC (e2 addV (gv 1) (k0 (.int 70))) (aC (k0 (.int 3)) a0)))) a0)) (gN 4) (seqS (appS 6 (callV F__law_bar (aC (gv 0) (aC (e2 addV (e2 addV (gv 1) (k0 (.int 71))) (e2 mulV (k0 (.int 4)) (gv 4))) (aC (gv 3) a0)))))
    .nx))
    (seqS (frzS 6)
    (seqS (ownS 8 (lstV a0))
    (seqS (forS (iR1 (aC (eN lenV (aC (gv 6) a0)) a0)) (gN 4) (seqS (xIns 8 (xC (up (callV F__law_draw (aC (gv 0) (aC (e2 addV (e2 addV (gv 1) (k0 (.int 80))) (gv 4)) (aC (e2 addV (gv 4) (k0 (.int 1))) a0))))) (xC (up (e2 ixV (gv 6) (gv 4))) x0)))
    .nx))
    (seqS (frzS 8)
    (seqS (retS (tupV (aC (gv 5) (aC (gv 8) a0))))
    .nx))))))))))
def F__law_lists : List D → R D := runD 9 (.ok .none) G__law_lists
def valR : R D → D
  | .ok d => d
  | _ => .none
theorem all_bars : ∀ {l : List D}, (∀ d ∈ l, ∃ x : Bar, Good x ∧ d = bD x) → ∃ bs : List Bar, l = bs.map bD ∧ ∀ x ∈ bs, Good x
  | [], _ => ⟨[], rfl, fun x m => absurd m List.not_mem_nil⟩
  | d :: l, h => by
    obtain ⟨x, gx, rfl⟩ := h d List.mem_cons_self
    obtain ⟨bs, rfl, gb⟩ := all_bars (l := l) fun e m => h e (List.mem_cons_of_mem _ m)
    exact ⟨x :: bs, rfl, fun y m => by
      rcases List.mem_cons.mp m with rfl | m
      · exact gx
      · exact gb y m⟩
theorem range_mem {n : Int} {y : D} (h0 : 0 ≤ n) (m : y ∈ rangeD 0 n.toNat) : ∃ j : Int, y = .int j ∧ 0 ≤ j ∧ j < n := by
  unfold rangeD at m
  obtain ⟨i, mi, rfl⟩ := List.mem_map.mp m
  have := List.mem_range.mp mi
  exact ⟨0 + (i : Int), rfl, by omega, by omega⟩
theorem range_len (n : Int) : (rangeD 0 n.toNat).length = n.toNat := by
  unfold rangeD
  rw [List.length_map, List.length_range]
theorem at_bars {bs : List Bar} {j : Int} (h0 : 0 ≤ j) (h1 : j < (bs.length : Int)) : ∃ x ∈ bs, atD (bs.map bD) j = some (bD x) := by
  have lt : j.toNat < bs.length := by omega
  exact ⟨bs[j.toNat], List.getElem_mem lt, atD_nat h0 (by rw [List.getElem?_map, List.getElem?_eq_getElem lt]; rfl)⟩
theorem lists_w {ns : List Int} {k most : Int} {Q : D → Prop} (hk : 0 ≤ k) (h0 : 0 ≤ most) (h1 : most ≤ 100) (q : ∀ bs cs : List Bar, (∀ x ∈ bs, Good x) → (∀ x ∈ cs, Good x) → bs.length ≤ most.toNat → cs.length ≤ most.toNat + 2 → Q (.tuple [.list (bs.map bD), .list (cs.map bD)])) :
    Wn (F__law_lists [.list (ns.map PyData.int), .int k, .int most]) Q := by
  refine wn_runD ?_
  show Sn (G__law_lists [.d (.list (ns.map PyData.int)), .d (.int k), .d (.int most), .no, .no, .no, .no, .no, .no]) _ _ _ _
  unfold G__law_lists
  simp only [wn_ok, wn_some, wn_only, wn_noex, wn_e2, wn_e1, wn_eN, wn_a0, wn_aC, wn_call, wn_tb, wn_tup, wn_lst, wn_andB, wn_orB, wn_notB, wn_andV, wn_orV, wn_notV, wn_ifV, wn_iA, wn_iR1, wn_iR2, wn_iZ, wn_iEn, wn_iRR, wn_sl, wn_p0, wn_p1, wn_up, wn_upB, wn_upI, wn_x2, wn_x0, wn_xC, wn_xN, wn_xb, wn_xAnd, wn_xOr, wn_xNot, wn_xIf, wn_xCall, wn_xR1, wn_xR2, sn_nx, sn_rt, sn_bk, sn_ct, sn_seq, sn_set, sn_ret, sn_expr, sn_if, sn_for, sn_xSet, sn_xRet, sn_xExpr, sn_xIf, sn_xFor, sn_asg, sn_xAsg, sn_own, sn_xOwn, gv_zero, gv_succ, go_own, go_dat, go_succ, k0_def, gN_def, tru_bool, tru_none, tru_int, tru_list, asSeq_list, asSeq_tup, addV_int, subV_int, ltA_i, leA_i, gtA_i, geA_i, negV_int, intV_int, lenV_list, lenV_tup, ixV_list, ixV_tup, asInt_int, slV_list, slV_tup, slL_list, revV_tup, revV_list, tupleV_list, listV_list, listV_tup, eqV_str, neV_str, eqV_int, List.set_cons_zero, List.set_cons_succ, List.getElem?_cons_zero, List.getElem?_cons_succ, List.length_cons, List.length_nil, ↓reduceIte, Bool.false_eq_true, Bool.not_true, Bool.not_false, wn_ite, gT2, gT3, neV_tup, eqV_tup, in_tup, notin_tup', lineN_eq, Nat.reduceAdd, Nat.reduceLeDiff, Nat.zero_le, true_and, and_true, List.map_nil, List.map_cons, exists_eq_left', Option.some.injEq, PyData.list.injEq, exists_eq_left, PyData.int.injEq, R.ok.injEq, Sl.own.injEq]
  refine draw_w hk (by decide) fun i0 i00 i01 => ?_
  obtain ⟨w, w0, w1, ew⟩ : ∃ w : Int, 0 < w ∧ w ≤ 2001 ∧ atD [.int 4, .int 10, .int 10, .int 400, .int 2001] i0 = some (.int w) := by
    have : i0 = 0 ∨ i0 = 1 ∨ i0 = 2 ∨ i0 = 3 ∨ i0 = 4 := by omega
    rcases this with rfl | rfl | rfl | rfl | rfl <;> exact ⟨_, by decide, by decide, rfl⟩
  simp only [wn_ok, wn_some, wn_only, wn_noex, wn_e2, wn_e1, wn_eN, wn_a0, wn_aC, wn_call, wn_tb, wn_tup, wn_lst, wn_andB, wn_orB, wn_notB, wn_andV, wn_orV, wn_notV, wn_ifV, wn_iA, wn_iR1, wn_iR2, wn_iZ, wn_iEn, wn_iRR, wn_sl, wn_p0, wn_p1, wn_up, wn_upB, wn_upI, wn_x2, wn_x0, wn_xC, wn_xN, wn_xb, wn_xAnd, wn_xOr, wn_xNot, wn_xIf, wn_xCall, wn_xR1, wn_xR2, sn_nx, sn_rt, sn_bk, sn_ct, sn_seq, sn_set, sn_ret, sn_expr, sn_if, sn_for, sn_xSet, sn_xRet, sn_xExpr, sn_xIf, sn_xFor, sn_asg, sn_xAsg, sn_own, sn_xOwn, gv_zero, gv_succ, go_own, go_dat, go_succ, k0_def, gN_def, tru_bool, tru_none, tru_int, tru_list, asSeq_list, asSeq_tup, addV_int, subV_int, ltA_i, leA_i, gtA_i, geA_i, negV_int, intV_int, lenV_list, lenV_tup, ixV_list, ixV_tup, asInt_int, slV_list, slV_tup, slL_list, revV_tup, revV_list, tupleV_list, listV_list, listV_tup, eqV_str, neV_str, eqV_int, List.set_cons_zero, List.set_cons_succ, List.getElem?_cons_zero, List.getElem?_cons_succ, List.length_cons, List.length_nil, ↓reduceIte, Bool.false_eq_true, Bool.not_true, Bool.not_false, wn_ite, gT2, gT3, neV_tup, eqV_tup, in_tup, notin_tup', lineN_eq, Nat.reduceAdd, Nat.reduceLeDiff, Nat.zero_le, true_and, and_true, List.map_nil, List.map_cons, exists_eq_left', Option.some.injEq, PyData.list.injEq, exists_eq_left, PyData.int.injEq, R.ok.injEq, Sl.own.injEq, ew]
  obtain ⟨en, ed, n, n0, n1, rfl⟩ := (draw_w (ns := ns) (k := k + 1) (b := most + 1) (Q := fun d => ∃ n : Int, 0 ≤ n ∧ n < most + 1 ∧ d = .int n) (by omega) (by omega) fun i a b => ⟨i, a, b, rfl⟩).get
  refine wn_comp (xs := rangeD 0 n.toNat) (fun _ => true) (fun y => match y with | .int j => valR (F__law_bar [.list (ns.map PyData.int), .int (k + 2 + 4 * j), .int w]) | _ => .none) ?_ ?_ ?_ ?_
  · simp only [wn_ok, wn_some, wn_only, wn_noex, wn_e2, wn_e1, wn_eN, wn_a0, wn_aC, wn_call, wn_tb, wn_tup, wn_lst, wn_andB, wn_orB, wn_notB, wn_andV, wn_orV, wn_notV, wn_ifV, wn_iA, wn_iR1, wn_iR2, wn_iZ, wn_iEn, wn_iRR, wn_sl, wn_p0, wn_p1, wn_up, wn_upB, wn_upI, wn_x2, wn_x0, wn_xC, wn_xN, wn_xb, wn_xAnd, wn_xOr, wn_xNot, wn_xIf, wn_xCall, wn_xR1, wn_xR2, sn_nx, sn_rt, sn_bk, sn_ct, sn_seq, sn_set, sn_ret, sn_expr, sn_if, sn_for, sn_xSet, sn_xRet, sn_xExpr, sn_xIf, sn_xFor, sn_asg, sn_xAsg, sn_own, sn_xOwn, gv_zero, gv_succ, go_own, go_dat, go_succ, k0_def, gN_def, tru_bool, tru_none, tru_int, tru_list, asSeq_list, asSeq_tup, addV_int, subV_int, ltA_i, leA_i, gtA_i, geA_i, negV_int, intV_int, lenV_list, lenV_tup, ixV_list, ixV_tup, asInt_int, slV_list, slV_tup, slL_list, revV_tup, revV_list, tupleV_list, listV_list, listV_tup, eqV_str, neV_str, eqV_int, List.set_cons_zero, List.set_cons_succ, List.getElem?_cons_zero, List.getElem?_cons_succ, List.length_cons, List.length_nil, ↓reduceIte, Bool.false_eq_true, Bool.not_true, Bool.not_false, wn_ite, gT2, gT3, neV_tup, eqV_tup, in_tup, notin_tup', lineN_eq, Nat.reduceAdd, Nat.reduceLeDiff, Nat.zero_le, true_and, and_true, List.map_nil, List.map_cons, exists_eq_left', Option.some.injEq, PyData.list.injEq, exists_eq_left, PyData.int.injEq, R.ok.injEq, Sl.own.injEq, ed]
    rw [wn_rng1 n0 (by omega)]
  · intro y m
    obtain ⟨j, rfl, j0, j1⟩ := range_mem n0 m
    obtain ⟨d, e, -⟩ := (bar_w (ns := ns) (k := k + 2 + 4 * j) (w := w) (Q := fun _ => True) (by omega) w0 w1 fun _ _ => trivial).get
    refine ⟨[.d (.list (ns.map PyData.int)), .d (.int k), .d (.int most), .d (.int w), .d (.int j), .no, .no, .no, .no], rfl, wn_ok.mpr ⟨rfl, fun _ => ?_⟩⟩
    simp only [wn_ok, wn_some, wn_only, wn_noex, wn_e2, wn_e1, wn_eN, wn_a0, wn_aC, wn_call, wn_tb, wn_tup, wn_lst, wn_andB, wn_orB, wn_notB, wn_andV, wn_orV, wn_notV, wn_ifV, wn_iA, wn_iR1, wn_iR2, wn_iZ, wn_iEn, wn_iRR, wn_sl, wn_p0, wn_p1, wn_up, wn_upB, wn_upI, wn_x2, wn_x0, wn_xC, wn_xN, wn_xb, wn_xAnd, wn_xOr, wn_xNot, wn_xIf, wn_xCall, wn_xR1, wn_xR2, sn_nx, sn_rt, sn_bk, sn_ct, sn_seq, sn_set, sn_ret, sn_expr, sn_if, sn_for, sn_xSet, sn_xRet, sn_xExpr, sn_xIf, sn_xFor, sn_asg, sn_xAsg, sn_own, sn_xOwn, gv_zero, gv_succ, go_own, go_dat, go_succ, k0_def, gN_def, tru_bool, tru_none, tru_int, tru_list, asSeq_list, asSeq_tup, addV_int, subV_int, ltA_i, leA_i, gtA_i, geA_i, negV_int, intV_int, lenV_list, lenV_tup, ixV_list, ixV_tup, asInt_int, slV_list, slV_tup, slL_list, revV_tup, revV_list, tupleV_list, listV_list, listV_tup, eqV_str, neV_str, eqV_int, List.set_cons_zero, List.set_cons_succ, List.getElem?_cons_zero, List.getElem?_cons_succ, List.length_cons, List.length_nil, ↓reduceIte, Bool.false_eq_true, Bool.not_true, Bool.not_false, wn_ite, gT2, gT3, neV_tup, eqV_tup, in_tup, notin_tup', lineN_eq, Nat.reduceAdd, Nat.reduceLeDiff, Nat.zero_le, true_and, and_true, List.map_nil, List.map_cons, exists_eq_left', Option.some.injEq, PyData.list.injEq, exists_eq_left, PyData.int.injEq, R.ok.injEq, Sl.own.injEq, mulV_int (i := 4) (j := j) (.inl (by decide)), e]
    rfl
  · rw [range_len, lineN_eq]
    omega
  obtain ⟨bs, ebs, gbs⟩ : ∃ bs : List Bar, (((rangeD 0 n.toNat).filter fun _ => true).map fun y => match y with | .int j => valR (F__law_bar [.list (ns.map PyData.int), .int (k + 2 + 4 * j), .int w]) | _ => .none) = bs.map bD ∧ ∀ x ∈ bs, Good x := all_bars fun d m => by
    obtain ⟨y, my, rfl⟩ := List.mem_map.mp m
    obtain ⟨j, rfl, j0, j1⟩ := range_mem n0 (List.mem_filter.mp my).1
    obtain ⟨d, e, x, gx, rfl⟩ := (bar_w (ns := ns) (k := k + 2 + 4 * j) (w := w) (Q := fun d => ∃ x : Bar, Good x ∧ d = bD x) (by omega) w0 w1 fun x g => ⟨x, g, rfl⟩).get
    refine ⟨x, gx, ?_⟩
    show valR (F__law_bar _) = _
    rw [e]
    rfl
  have lb : bs.length ≤ most.toNat := by
    have := congrArg List.length ebs
    rw [List.length_map, List.length_map, List.filter_eq_self.mpr fun _ _ => rfl, range_len] at this
    omega
  rw [ebs]
  simp only [wn_ok, wn_some, wn_only, wn_noex, wn_e2, wn_e1, wn_eN, wn_a0, wn_aC, wn_call, wn_tb, wn_tup, wn_lst, wn_andB, wn_orB, wn_notB, wn_andV, wn_orV, wn_notV, wn_ifV, wn_iA, wn_iR1, wn_iR2, wn_iZ, wn_iEn, wn_iRR, wn_sl, wn_p0, wn_p1, wn_up, wn_upB, wn_upI, wn_x2, wn_x0, wn_xC, wn_xN, wn_xb, wn_xAnd, wn_xOr, wn_xNot, wn_xIf, wn_xCall, wn_xR1, wn_xR2, sn_nx, sn_rt, sn_bk, sn_ct, sn_seq, sn_set, sn_ret, sn_expr, sn_if, sn_for, sn_xSet, sn_xRet, sn_xExpr, sn_xIf, sn_xFor, sn_asg, sn_xAsg, sn_own, sn_xOwn, gv_zero, gv_succ, go_own, go_dat, go_succ, k0_def, gN_def, tru_bool, tru_none, tru_int, tru_list, asSeq_list, asSeq_tup, addV_int, subV_int, ltA_i, leA_i, gtA_i, geA_i, negV_int, intV_int, lenV_list, lenV_tup, ixV_list, ixV_tup, asInt_int, slV_list, slV_tup, slL_list, revV_tup, revV_list, tupleV_list, listV_list, listV_tup, eqV_str, neV_str, eqV_int, List.set_cons_zero, List.set_cons_succ, List.getElem?_cons_zero, List.getElem?_cons_succ, List.length_cons, List.length_nil, ↓reduceIte, Bool.false_eq_true, Bool.not_true, Bool.not_false, wn_ite, gT2, gT3, neV_tup, eqV_tup, in_tup, notin_tup', lineN_eq, Nat.reduceAdd, Nat.reduceLeDiff, Nat.zero_le, true_and, and_true, List.map_nil, List.map_cons, exists_eq_left', Option.some.injEq, PyData.list.injEq, exists_eq_left, PyData.int.injEq, R.ok.injEq, Sl.own.injEq, List.length_map]
  rw [wn_rng1 (by omega) (by omega)]
  refine sn_loop (fun rest η => (∀ y ∈ rest, ∃ j : Int, y = .int j ∧ 0 ≤ j ∧ j < (bs.length : Int)) ∧ ∃ (cs : List Bar) (s4 s7 : Sl), (∀ x ∈ cs, Good x) ∧ cs.length + rest.length ≤ most.toNat ∧ η = [.d (.list (ns.map PyData.int)), .d (.int k), .d (.int most), .d (.int w), s4, .d (.list (bs.map bD)), .own ⟨true, cs.map bD⟩, s7, .no]) ?_ ?_ _ _
    ⟨fun y m => range_mem (by omega) m, [], .no, .no, fun x m => absurd m List.not_mem_nil, by rw [range_len]; simp; omega, rfl⟩
  · rintro y rest η ⟨hr, cs, s4, s7, gc, lc, rfl⟩
    obtain ⟨j, rfl, j0, j1⟩ := hr y List.mem_cons_self
    have hr' := fun y m => hr y (List.mem_cons_of_mem _ m)
    rw [List.length_cons] at lc
    obtain ⟨x, mx, ex⟩ := at_bars j0 j1
    have snoc : ∀ z : Bar, Good z → ∀ s7, (∀ y ∈ rest, ∃ j : Int, y = .int j ∧ 0 ≤ j ∧ j < (bs.length : Int)) ∧ ∃ (cs' : List Bar) (s4' s7' : Sl), (∀ x ∈ cs', Good x) ∧ cs'.length + rest.length ≤ most.toNat ∧ [Sl.d (.list (ns.map PyData.int)), .d (.int k), .d (.int most), .d (.int w), .d (.int j), .d (.list (bs.map bD)), .own ⟨true, cs.map bD ++ [bD z]⟩, s7, .no] = [.d (.list (ns.map PyData.int)), .d (.int k), .d (.int most), .d (.int w), s4', .d (.list (bs.map bD)), .own ⟨true, cs'.map bD⟩, s7', .no] := fun z gz s7 =>
      ⟨hr', cs ++ [z], _, _, fun x m => by
        rcases List.mem_append.mp m with m | m
        · exact gc x m
        · rw [List.mem_singleton.mp m]
          exact gz, by rw [List.length_append]; simp; omega, by rw [List.map_append]; rfl⟩
    refine ⟨_, rfl, ?_⟩
    simp only [wn_ok, wn_some, wn_only, wn_noex, wn_e2, wn_e1, wn_eN, wn_a0, wn_aC, wn_call, wn_tb, wn_tup, wn_lst, wn_andB, wn_orB, wn_notB, wn_andV, wn_orV, wn_notV, wn_ifV, wn_iA, wn_iR1, wn_iR2, wn_iZ, wn_iEn, wn_iRR, wn_sl, wn_p0, wn_p1, wn_up, wn_upB, wn_upI, wn_x2, wn_x0, wn_xC, wn_xN, wn_xb, wn_xAnd, wn_xOr, wn_xNot, wn_xIf, wn_xCall, wn_xR1, wn_xR2, sn_nx, sn_rt, sn_bk, sn_ct, sn_seq, sn_set, sn_ret, sn_expr, sn_if, sn_for, sn_xSet, sn_xRet, sn_xExpr, sn_xIf, sn_xFor, sn_asg, sn_xAsg, sn_own, sn_xOwn, gv_zero, gv_succ, go_own, go_dat, go_succ, k0_def, gN_def, tru_bool, tru_none, tru_int, tru_list, asSeq_list, asSeq_tup, addV_int, subV_int, ltA_i, leA_i, gtA_i, geA_i, negV_int, intV_int, lenV_list, lenV_tup, ixV_list, ixV_tup, asInt_int, slV_list, slV_tup, slL_list, revV_tup, revV_list, tupleV_list, listV_list, listV_tup, eqV_str, neV_str, eqV_int, List.set_cons_zero, List.set_cons_succ, List.getElem?_cons_zero, List.getElem?_cons_succ, List.length_cons, List.length_nil, ↓reduceIte, Bool.false_eq_true, Bool.not_true, Bool.not_false, wn_ite, gT2, gT3, neV_tup, eqV_tup, in_tup, notin_tup', lineN_eq, Nat.reduceAdd, Nat.reduceLeDiff, Nat.zero_le, true_and, and_true, List.map_nil, List.map_cons, exists_eq_left', Option.some.injEq, PyData.list.injEq, exists_eq_left, PyData.int.injEq, R.ok.injEq, Sl.own.injEq, mulV_int (i := 3) (j := j) (.inl (by decide))]
    refine draw_w (by omega) (by decide) fun i1 i10 i11 => ?_
    simp only [wn_ok, wn_some, wn_only, wn_noex, wn_e2, wn_e1, wn_eN, wn_a0, wn_aC, wn_call, wn_tb, wn_tup, wn_lst, wn_andB, wn_orB, wn_notB, wn_andV, wn_orV, wn_notV, wn_ifV, wn_iA, wn_iR1, wn_iR2, wn_iZ, wn_iEn, wn_iRR, wn_sl, wn_p0, wn_p1, wn_up, wn_upB, wn_upI, wn_x2, wn_x0, wn_xC, wn_xN, wn_xb, wn_xAnd, wn_xOr, wn_xNot, wn_xIf, wn_xCall, wn_xR1, wn_xR2, sn_nx, sn_rt, sn_bk, sn_ct, sn_seq, sn_set, sn_ret, sn_expr, sn_if, sn_for, sn_xSet, sn_xRet, sn_xExpr, sn_xIf, sn_xFor, sn_asg, sn_xAsg, sn_own, sn_xOwn, gv_zero, gv_succ, go_own, go_dat, go_succ, k0_def, gN_def, tru_bool, tru_none, tru_int, tru_list, asSeq_list, asSeq_tup, addV_int, subV_int, ltA_i, leA_i, gtA_i, geA_i, negV_int, intV_int, lenV_list, lenV_tup, ixV_list, ixV_tup, asInt_int, slV_list, slV_tup, slL_list, revV_tup, revV_list, tupleV_list, listV_list, listV_tup, eqV_str, neV_str, eqV_int, List.set_cons_zero, List.set_cons_succ, List.getElem?_cons_zero, List.getElem?_cons_succ, List.length_cons, List.length_nil, ↓reduceIte, Bool.false_eq_true, Bool.not_true, Bool.not_false, wn_ite, gT2, gT3, neV_tup, eqV_tup, in_tup, notin_tup', lineN_eq, Nat.reduceAdd, Nat.reduceLeDiff, Nat.zero_le, true_and, and_true, List.map_nil, List.map_cons, exists_eq_left', Option.some.injEq, PyData.list.injEq, exists_eq_left, PyData.int.injEq, R.ok.injEq, Sl.own.injEq]
    by_cases c1 : i1 > 1
    · rw [decide_eq_true c1]
      simp only [↓reduceIte]
      refine sn_app rfl ?_
      simp only [wn_ok, wn_some, wn_only, wn_noex, wn_e2, wn_e1, wn_eN, wn_a0, wn_aC, wn_call, wn_tb, wn_tup, wn_lst, wn_andB, wn_orB, wn_notB, wn_andV, wn_orV, wn_notV, wn_ifV, wn_iA, wn_iR1, wn_iR2, wn_iZ, wn_iEn, wn_iRR, wn_sl, wn_p0, wn_p1, wn_up, wn_upB, wn_upI, wn_x2, wn_x0, wn_xC, wn_xN, wn_xb, wn_xAnd, wn_xOr, wn_xNot, wn_xIf, wn_xCall, wn_xR1, wn_xR2, sn_nx, sn_rt, sn_bk, sn_ct, sn_seq, sn_set, sn_ret, sn_expr, sn_if, sn_for, sn_xSet, sn_xRet, sn_xExpr, sn_xIf, sn_xFor, sn_asg, sn_xAsg, sn_own, sn_xOwn, gv_zero, gv_succ, go_own, go_dat, go_succ, k0_def, gN_def, tru_bool, tru_none, tru_int, tru_list, asSeq_list, asSeq_tup, addV_int, subV_int, ltA_i, leA_i, gtA_i, geA_i, negV_int, intV_int, lenV_list, lenV_tup, ixV_list, ixV_tup, asInt_int, slV_list, slV_tup, slL_list, revV_tup, revV_list, tupleV_list, listV_list, listV_tup, eqV_str, neV_str, eqV_int, List.set_cons_zero, List.set_cons_succ, List.getElem?_cons_zero, List.getElem?_cons_succ, List.length_cons, List.length_nil, ↓reduceIte, Bool.false_eq_true, Bool.not_true, Bool.not_false, wn_ite, gT2, gT3, neV_tup, eqV_tup, in_tup, notin_tup', lineN_eq, Nat.reduceAdd, Nat.reduceLeDiff, Nat.zero_le, true_and, and_true, List.map_nil, List.map_cons, exists_eq_left', Option.some.injEq, PyData.list.injEq, exists_eq_left, PyData.int.injEq, R.ok.injEq, Sl.own.injEq, mulV_int (i := 3) (j := j) (.inl (by decide)), ex]
      refine near_w (by omega) (gbs x mx) fun z gz => ?_
      exact ⟨by rw [List.length_map]; omega, snoc z gz _⟩
    · rw [decide_eq_false c1]
      simp only [Bool.false_eq_true, ↓reduceIte]
      cases hb : (i1 == 1) with
      | false =>
        simp only [Bool.false_eq_true, ↓reduceIte]
        exact ⟨hr', cs, _, _, gc, by omega, rfl⟩
      | true =>
        simp only [↓reduceIte]
        simp only [wn_ok, wn_some, wn_only, wn_noex, wn_e2, wn_e1, wn_eN, wn_a0, wn_aC, wn_call, wn_tb, wn_tup, wn_lst, wn_andB, wn_orB, wn_notB, wn_andV, wn_orV, wn_notV, wn_ifV, wn_iA, wn_iR1, wn_iR2, wn_iZ, wn_iEn, wn_iRR, wn_sl, wn_p0, wn_p1, wn_up, wn_upB, wn_upI, wn_x2, wn_x0, wn_xC, wn_xN, wn_xb, wn_xAnd, wn_xOr, wn_xNot, wn_xIf, wn_xCall, wn_xR1, wn_xR2, sn_nx, sn_rt, sn_bk, sn_ct, sn_seq, sn_set, sn_ret, sn_expr, sn_if, sn_for, sn_xSet, sn_xRet, sn_xExpr, sn_xIf, sn_xFor, sn_asg, sn_xAsg, sn_own, sn_xOwn, gv_zero, gv_succ, go_own, go_dat, go_succ, k0_def, gN_def, tru_bool, tru_none, tru_int, tru_list, asSeq_list, asSeq_tup, addV_int, subV_int, ltA_i, leA_i, gtA_i, geA_i, negV_int, intV_int, lenV_list, lenV_tup, ixV_list, ixV_tup, asInt_int, slV_list, slV_tup, slL_list, revV_tup, revV_list, tupleV_list, listV_list, listV_tup, eqV_str, neV_str, eqV_int, List.set_cons_zero, List.set_cons_succ, List.getElem?_cons_zero, List.getElem?_cons_succ, List.length_cons, List.length_nil, ↓reduceIte, Bool.false_eq_true, Bool.not_true, Bool.not_false, wn_ite, gT2, gT3, neV_tup, eqV_tup, in_tup, notin_tup', lineN_eq, Nat.reduceAdd, Nat.reduceLeDiff, Nat.zero_le, true_and, and_true, List.map_nil, List.map_cons, exists_eq_left', Option.some.injEq, PyData.list.injEq, exists_eq_left, PyData.int.injEq, R.ok.injEq, Sl.own.injEq, ex, show ixV (bD x) (.int 2) = some (endD x.e) from rfl, Br.isV_none]
        cases x.e.isNone with
        | false =>
          simp only [Bool.false_eq_true, ↓reduceIte]
          exact ⟨hr', cs, _, _, gc, by omega, rfl⟩
        | true =>
          simp only [↓reduceIte]
          refine sn_app rfl ?_
          simp only [wn_ok, wn_some, wn_only, wn_noex, wn_e2, wn_e1, wn_eN, wn_a0, wn_aC, wn_call, wn_tb, wn_tup, wn_lst, wn_andB, wn_orB, wn_notB, wn_andV, wn_orV, wn_notV, wn_ifV, wn_iA, wn_iR1, wn_iR2, wn_iZ, wn_iEn, wn_iRR, wn_sl, wn_p0, wn_p1, wn_up, wn_upB, wn_upI, wn_x2, wn_x0, wn_xC, wn_xN, wn_xb, wn_xAnd, wn_xOr, wn_xNot, wn_xIf, wn_xCall, wn_xR1, wn_xR2, sn_nx, sn_rt, sn_bk, sn_ct, sn_seq, sn_set, sn_ret, sn_expr, sn_if, sn_for, sn_xSet, sn_xRet, sn_xExpr, sn_xIf, sn_xFor, sn_asg, sn_xAsg, sn_own, sn_xOwn, gv_zero, gv_succ, go_own, go_dat, go_succ, k0_def, gN_def, tru_bool, tru_none, tru_int, tru_list, asSeq_list, asSeq_tup, addV_int, subV_int, ltA_i, leA_i, gtA_i, geA_i, negV_int, intV_int, lenV_list, lenV_tup, ixV_list, ixV_tup, asInt_int, slV_list, slV_tup, slL_list, revV_tup, revV_list, tupleV_list, listV_list, listV_tup, eqV_str, neV_str, eqV_int, List.set_cons_zero, List.set_cons_succ, List.getElem?_cons_zero, List.getElem?_cons_succ, List.length_cons, List.length_nil, ↓reduceIte, Bool.false_eq_true, Bool.not_true, Bool.not_false, wn_ite, gT2, gT3, neV_tup, eqV_tup, in_tup, notin_tup', lineN_eq, Nat.reduceAdd, Nat.reduceLeDiff, Nat.zero_le, true_and, and_true, List.map_nil, List.map_cons, exists_eq_left', Option.some.injEq, PyData.list.injEq, exists_eq_left, PyData.int.injEq, R.ok.injEq, Sl.own.injEq, ex]
          exact ⟨by rw [List.length_map]; omega, snoc x (gbs x mx) _⟩
  · rintro η ⟨hr, cs, s4, s7, gc, lc, rfl⟩
    simp only [wn_ok, wn_some, wn_only, wn_noex, wn_e2, wn_e1, wn_eN, wn_a0, wn_aC, wn_call, wn_tb, wn_tup, wn_lst, wn_andB, wn_orB, wn_notB, wn_andV, wn_orV, wn_notV, wn_ifV, wn_iA, wn_iR1, wn_iR2, wn_iZ, wn_iEn, wn_iRR, wn_sl, wn_p0, wn_p1, wn_up, wn_upB, wn_upI, wn_x2, wn_x0, wn_xC, wn_xN, wn_xb, wn_xAnd, wn_xOr, wn_xNot, wn_xIf, wn_xCall, wn_xR1, wn_xR2, sn_nx, sn_rt, sn_bk, sn_ct, sn_seq, sn_set, sn_ret, sn_expr, sn_if, sn_for, sn_xSet, sn_xRet, sn_xExpr, sn_xIf, sn_xFor, sn_asg, sn_xAsg, sn_own, sn_xOwn, gv_zero, gv_succ, go_own, go_dat, go_succ, k0_def, gN_def, tru_bool, tru_none, tru_int, tru_list, asSeq_list, asSeq_tup, addV_int, subV_int, ltA_i, leA_i, gtA_i, geA_i, negV_int, intV_int, lenV_list, lenV_tup, ixV_list, ixV_tup, asInt_int, slV_list, slV_tup, slL_list, revV_tup, revV_list, tupleV_list, listV_list, listV_tup, eqV_str, neV_str, eqV_int, List.set_cons_zero, List.set_cons_succ, List.getElem?_cons_zero, List.getElem?_cons_succ, List.length_cons, List.length_nil, ↓reduceIte, Bool.false_eq_true, Bool.not_true, Bool.not_false, wn_ite, gT2, gT3, neV_tup, eqV_tup, in_tup, notin_tup', lineN_eq, Nat.reduceAdd, Nat.reduceLeDiff, Nat.zero_le, true_and, and_true, List.map_nil, List.map_cons, exists_eq_left', Option.some.injEq, PyData.list.injEq, exists_eq_left, PyData.int.injEq, R.ok.injEq, Sl.own.injEq]
    refine draw_w (by omega) (by decide) fun i1 i10 i11 => ?_
    rw [wn_rng1 i10 (by omega)]
    refine sn_loop (fun rest η => (∀ y ∈ rest, ∃ j : Int, y = .int j ∧ 0 ≤ j ∧ j < i1) ∧ ∃ (cs : List Bar) (s4 s7 : Sl), (∀ x ∈ cs, Good x) ∧ cs.length + rest.length ≤ most.toNat + 2 ∧ η = [.d (.list (ns.map PyData.int)), .d (.int k), .d (.int most), .d (.int w), s4, .d (.list (bs.map bD)), .own ⟨true, cs.map bD⟩, s7, .no]) ?_ ?_ _ _
      ⟨fun y m => range_mem i10 m, cs, s4, s7, gc, by rw [range_len]; omega, rfl⟩
    · rintro y rest η ⟨hr, cs, s4, s7, gc, lc, rfl⟩
      obtain ⟨j, rfl, j0, j1⟩ := hr y List.mem_cons_self
      have hr' := fun y m => hr y (List.mem_cons_of_mem _ m)
      rw [List.length_cons] at lc
      refine ⟨_, rfl, ?_⟩
      simp only [wn_ok, wn_some, wn_only, wn_noex, wn_e2, wn_e1, wn_eN, wn_a0, wn_aC, wn_call, wn_tb, wn_tup, wn_lst, wn_andB, wn_orB, wn_notB, wn_andV, wn_orV, wn_notV, wn_ifV, wn_iA, wn_iR1, wn_iR2, wn_iZ, wn_iEn, wn_iRR, wn_sl, wn_p0, wn_p1, wn_up, wn_upB, wn_upI, wn_x2, wn_x0, wn_xC, wn_xN, wn_xb, wn_xAnd, wn_xOr, wn_xNot, wn_xIf, wn_xCall, wn_xR1, wn_xR2, sn_nx, sn_rt, sn_bk, sn_ct, sn_seq, sn_set, sn_ret, sn_expr, sn_if, sn_for, sn_xSet, sn_xRet, sn_xExpr, sn_xIf, sn_xFor, sn_asg, sn_xAsg, sn_own, sn_xOwn, gv_zero, gv_succ, go_own, go_dat, go_succ, k0_def, gN_def, tru_bool, tru_none, tru_int, tru_list, asSeq_list, asSeq_tup, addV_int, subV_int, ltA_i, leA_i, gtA_i, geA_i, negV_int, intV_int, lenV_list, lenV_tup, ixV_list, ixV_tup, asInt_int, slV_list, slV_tup, slL_list, revV_tup, revV_list, tupleV_list, listV_list, listV_tup, eqV_str, neV_str, eqV_int, List.set_cons_zero, List.set_cons_succ, List.getElem?_cons_zero, List.getElem?_cons_succ, List.length_cons, List.length_nil, ↓reduceIte, Bool.false_eq_true, Bool.not_true, Bool.not_false, wn_ite, gT2, gT3, neV_tup, eqV_tup, in_tup, notin_tup', lineN_eq, Nat.reduceAdd, Nat.reduceLeDiff, Nat.zero_le, true_and, and_true, List.map_nil, List.map_cons, exists_eq_left', Option.some.injEq, PyData.list.injEq, exists_eq_left, PyData.int.injEq, R.ok.injEq, Sl.own.injEq]
      refine sn_app rfl ?_
      simp only [wn_ok, wn_some, wn_only, wn_noex, wn_e2, wn_e1, wn_eN, wn_a0, wn_aC, wn_call, wn_tb, wn_tup, wn_lst, wn_andB, wn_orB, wn_notB, wn_andV, wn_orV, wn_notV, wn_ifV, wn_iA, wn_iR1, wn_iR2, wn_iZ, wn_iEn, wn_iRR, wn_sl, wn_p0, wn_p1, wn_up, wn_upB, wn_upI, wn_x2, wn_x0, wn_xC, wn_xN, wn_xb, wn_xAnd, wn_xOr, wn_xNot, wn_xIf, wn_xCall, wn_xR1, wn_xR2, sn_nx, sn_rt, sn_bk, sn_ct, sn_seq, sn_set, sn_ret, sn_expr, sn_if, sn_for, sn_xSet, sn_xRet, sn_xExpr, sn_xIf, sn_xFor, sn_asg, sn_xAsg, sn_own, sn_xOwn, gv_zero, gv_succ, go_own, go_dat, go_succ, k0_def, gN_def, tru_bool, tru_none, tru_int, tru_list, asSeq_list, asSeq_tup, addV_int, subV_int, ltA_i, leA_i, gtA_i, geA_i, negV_int, intV_int, lenV_list, lenV_tup, ixV_list, ixV_tup, asInt_int, slV_list, slV_tup, slL_list, revV_tup, revV_list, tupleV_list, listV_list, listV_tup, eqV_str, neV_str, eqV_int, List.set_cons_zero, List.set_cons_succ, List.getElem?_cons_zero, List.getElem?_cons_succ, List.length_cons, List.length_nil, ↓reduceIte, Bool.false_eq_true, Bool.not_true, Bool.not_false, wn_ite, gT2, gT3, neV_tup, eqV_tup, in_tup, notin_tup', lineN_eq, Nat.reduceAdd, Nat.reduceLeDiff, Nat.zero_le, true_and, and_true, List.map_nil, List.map_cons, exists_eq_left', Option.some.injEq, PyData.list.injEq, exists_eq_left, PyData.int.injEq, R.ok.injEq, Sl.own.injEq, mulV_int (i := 4) (j := j) (.inl (by decide))]
      refine bar_w (by omega) w0 w1 fun z gz => ?_
      exact ⟨by rw [List.length_map]; omega, hr', cs ++ [z], _, _, fun x m => by
        rcases List.mem_append.mp m with m | m
        · exact gc x m
        · rw [List.mem_singleton.mp m]
          exact gz, by rw [List.length_append]; simp; omega, by rw [List.map_append]; rfl⟩
    · rintro η ⟨hr, cs, s4, s7, gc, lc, rfl⟩
      have lc : cs.length ≤ most.toNat + 2 := by simpa using lc
      refine sn_frz rfl ?_
      simp only [wn_ok, wn_some, wn_only, wn_noex, wn_e2, wn_e1, wn_eN, wn_a0, wn_aC, wn_call, wn_tb, wn_tup, wn_lst, wn_andB, wn_orB, wn_notB, wn_andV, wn_orV, wn_notV, wn_ifV, wn_iA, wn_iR1, wn_iR2, wn_iZ, wn_iEn, wn_iRR, wn_sl, wn_p0, wn_p1, wn_up, wn_upB, wn_upI, wn_x2, wn_x0, wn_xC, wn_xN, wn_xb, wn_xAnd, wn_xOr, wn_xNot, wn_xIf, wn_xCall, wn_xR1, wn_xR2, sn_nx, sn_rt, sn_bk, sn_ct, sn_seq, sn_set, sn_ret, sn_expr, sn_if, sn_for, sn_xSet, sn_xRet, sn_xExpr, sn_xIf, sn_xFor, sn_asg, sn_xAsg, sn_own, sn_xOwn, gv_zero, gv_succ, go_own, go_dat, go_succ, k0_def, gN_def, tru_bool, tru_none, tru_int, tru_list, asSeq_list, asSeq_tup, addV_int, subV_int, ltA_i, leA_i, gtA_i, geA_i, negV_int, intV_int, lenV_list, lenV_tup, ixV_list, ixV_tup, asInt_int, slV_list, slV_tup, slL_list, revV_tup, revV_list, tupleV_list, listV_list, listV_tup, eqV_str, neV_str, eqV_int, List.set_cons_zero, List.set_cons_succ, List.getElem?_cons_zero, List.getElem?_cons_succ, List.length_cons, List.length_nil, ↓reduceIte, Bool.false_eq_true, Bool.not_true, Bool.not_false, wn_ite, gT2, gT3, neV_tup, eqV_tup, in_tup, notin_tup', lineN_eq, Nat.reduceAdd, Nat.reduceLeDiff, Nat.zero_le, true_and, and_true, List.map_nil, List.map_cons, exists_eq_left', Option.some.injEq, PyData.list.injEq, exists_eq_left, PyData.int.injEq, R.ok.injEq, Sl.own.injEq, List.length_map]
      rw [wn_rng1 (by omega) (by omega)]
      refine sn_loop (fun rest η => (∀ y ∈ rest, ∃ j : Int, y = .int j ∧ 0 ≤ j ∧ j < (cs.length : Int)) ∧ ∃ (ms : List Bar) (s4 : Sl), (∀ x ∈ ms, Good x) ∧ ms.length + rest.length ≤ cs.length ∧ η = [.d (.list (ns.map PyData.int)), .d (.int k), .d (.int most), .d (.int w), s4, .d (.list (bs.map bD)), .d (.list (cs.map bD)), s7, .own ⟨true, ms.map bD⟩]) ?_ ?_ _ _
        ⟨fun y m => range_mem (by omega) m, [], s4, fun x m => absurd m List.not_mem_nil, by rw [range_len]; simp, rfl⟩
      · rintro y rest η ⟨hr, ms, s4, gm, lm, rfl⟩
        obtain ⟨j, rfl, j0, j1⟩ := hr y List.mem_cons_self
        have hr' := fun y m => hr y (List.mem_cons_of_mem _ m)
        rw [List.length_cons] at lm
        obtain ⟨x, mx, ex⟩ := at_bars j0 j1
        refine ⟨_, rfl, ?_⟩
        simp only [wn_ok, wn_some, wn_only, wn_noex, wn_e2, wn_e1, wn_eN, wn_a0, wn_aC, wn_call, wn_tb, wn_tup, wn_lst, wn_andB, wn_orB, wn_notB, wn_andV, wn_orV, wn_notV, wn_ifV, wn_iA, wn_iR1, wn_iR2, wn_iZ, wn_iEn, wn_iRR, wn_sl, wn_p0, wn_p1, wn_up, wn_upB, wn_upI, wn_x2, wn_x0, wn_xC, wn_xN, wn_xb, wn_xAnd, wn_xOr, wn_xNot, wn_xIf, wn_xCall, wn_xR1, wn_xR2, sn_nx, sn_rt, sn_bk, sn_ct, sn_seq, sn_set, sn_ret, sn_expr, sn_if, sn_for, sn_xSet, sn_xRet, sn_xExpr, sn_xIf, sn_xFor, sn_asg, sn_xAsg, sn_own, sn_xOwn, gv_zero, gv_succ, go_own, go_dat, go_succ, k0_def, gN_def, tru_bool, tru_none, tru_int, tru_list, asSeq_list, asSeq_tup, addV_int, subV_int, ltA_i, leA_i, gtA_i, geA_i, negV_int, intV_int, lenV_list, lenV_tup, ixV_list, ixV_tup, asInt_int, slV_list, slV_tup, slL_list, revV_tup, revV_list, tupleV_list, listV_list, listV_tup, eqV_str, neV_str, eqV_int, List.set_cons_zero, List.set_cons_succ, List.getElem?_cons_zero, List.getElem?_cons_succ, List.length_cons, List.length_nil, ↓reduceIte, Bool.false_eq_true, Bool.not_true, Bool.not_false, wn_ite, gT2, gT3, neV_tup, eqV_tup, in_tup, notin_tup', lineN_eq, Nat.reduceAdd, Nat.reduceLeDiff, Nat.zero_le, true_and, and_true, List.map_nil, List.map_cons, exists_eq_left', Option.some.injEq, PyData.list.injEq, exists_eq_left, PyData.int.injEq, R.ok.injEq, Sl.own.injEq]
        refine sn_xIns rfl ?_
        simp only [wn_ok, wn_some, wn_only, wn_noex, wn_e2, wn_e1, wn_eN, wn_a0, wn_aC, wn_call, wn_tb, wn_tup, wn_lst, wn_andB, wn_orB, wn_notB, wn_andV, wn_orV, wn_notV, wn_ifV, wn_iA, wn_iR1, wn_iR2, wn_iZ, wn_iEn, wn_iRR, wn_sl, wn_p0, wn_p1, wn_up, wn_upB, wn_upI, wn_x2, wn_x0, wn_xC, wn_xN, wn_xb, wn_xAnd, wn_xOr, wn_xNot, wn_xIf, wn_xCall, wn_xR1, wn_xR2, sn_nx, sn_rt, sn_bk, sn_ct, sn_seq, sn_set, sn_ret, sn_expr, sn_if, sn_for, sn_xSet, sn_xRet, sn_xExpr, sn_xIf, sn_xFor, sn_asg, sn_xAsg, sn_own, sn_xOwn, gv_zero, gv_succ, go_own, go_dat, go_succ, k0_def, gN_def, tru_bool, tru_none, tru_int, tru_list, asSeq_list, asSeq_tup, addV_int, subV_int, ltA_i, leA_i, gtA_i, geA_i, negV_int, intV_int, lenV_list, lenV_tup, ixV_list, ixV_tup, asInt_int, slV_list, slV_tup, slL_list, revV_tup, revV_list, tupleV_list, listV_list, listV_tup, eqV_str, neV_str, eqV_int, List.set_cons_zero, List.set_cons_succ, List.getElem?_cons_zero, List.getElem?_cons_succ, List.length_cons, List.length_nil, ↓reduceIte, Bool.false_eq_true, Bool.not_true, Bool.not_false, wn_ite, gT2, gT3, neV_tup, eqV_tup, in_tup, notin_tup', lineN_eq, Nat.reduceAdd, Nat.reduceLeDiff, Nat.zero_le, true_and, and_true, List.map_nil, List.map_cons, exists_eq_left', Option.some.injEq, PyData.list.injEq, exists_eq_left, PyData.int.injEq, R.ok.injEq, Sl.own.injEq]
        refine draw_w (by omega) (by omega) fun i2 i20 i21 => ?_
        simp only [wn_ok, wn_some, wn_only, wn_noex, wn_e2, wn_e1, wn_eN, wn_a0, wn_aC, wn_call, wn_tb, wn_tup, wn_lst, wn_andB, wn_orB, wn_notB, wn_andV, wn_orV, wn_notV, wn_ifV, wn_iA, wn_iR1, wn_iR2, wn_iZ, wn_iEn, wn_iRR, wn_sl, wn_p0, wn_p1, wn_up, wn_upB, wn_upI, wn_x2, wn_x0, wn_xC, wn_xN, wn_xb, wn_xAnd, wn_xOr, wn_xNot, wn_xIf, wn_xCall, wn_xR1, wn_xR2, sn_nx, sn_rt, sn_bk, sn_ct, sn_seq, sn_set, sn_ret, sn_expr, sn_if, sn_for, sn_xSet, sn_xRet, sn_xExpr, sn_xIf, sn_xFor, sn_asg, sn_xAsg, sn_own, sn_xOwn, gv_zero, gv_succ, go_own, go_dat, go_succ, k0_def, gN_def, tru_bool, tru_none, tru_int, tru_list, asSeq_list, asSeq_tup, addV_int, subV_int, ltA_i, leA_i, gtA_i, geA_i, negV_int, intV_int, lenV_list, lenV_tup, ixV_list, ixV_tup, asInt_int, slV_list, slV_tup, slL_list, revV_tup, revV_list, tupleV_list, listV_list, listV_tup, eqV_str, neV_str, eqV_int, List.set_cons_zero, List.set_cons_succ, List.getElem?_cons_zero, List.getElem?_cons_succ, List.length_cons, List.length_nil, ↓reduceIte, Bool.false_eq_true, Bool.not_true, Bool.not_false, wn_ite, gT2, gT3, neV_tup, eqV_tup, in_tup, notin_tup', lineN_eq, Nat.reduceAdd, Nat.reduceLeDiff, Nat.zero_le, true_and, and_true, List.map_nil, List.map_cons, exists_eq_left', Option.some.injEq, PyData.list.injEq, exists_eq_left, PyData.int.injEq, R.ok.injEq, Sl.own.injEq, ex]
        refine ⟨_, i2, bD x, rfl, rfl, i20, by omega, by rw [List.length_map]; omega, hr', ms.take i2.toNat ++ [x] ++ ms.drop i2.toNat, .d (.int j), fun z m => ?_, ?_, ?_⟩
        · rcases List.mem_append.mp m with m | m
          · rcases List.mem_append.mp m with m | m
            · exact gm z (List.mem_of_mem_take m)
            · rw [List.mem_singleton.mp m]
              exact gc x mx
          · exact gm z (List.mem_of_mem_drop m)
        · rw [List.length_append, List.length_append, List.length_take, List.length_drop, List.length_singleton]
          omega
        · rw [List.map_append, List.map_append, List.map_take, List.map_drop]
          rfl
      · rintro η ⟨hr, ms, s4, gm, lm, rfl⟩
        have lm : ms.length ≤ cs.length := by simpa using lm
        refine sn_frz rfl ?_
        simp only [wn_ok, wn_some, wn_only, wn_noex, wn_e2, wn_e1, wn_eN, wn_a0, wn_aC, wn_call, wn_tb, wn_tup, wn_lst, wn_andB, wn_orB, wn_notB, wn_andV, wn_orV, wn_notV, wn_ifV, wn_iA, wn_iR1, wn_iR2, wn_iZ, wn_iEn, wn_iRR, wn_sl, wn_p0, wn_p1, wn_up, wn_upB, wn_upI, wn_x2, wn_x0, wn_xC, wn_xN, wn_xb, wn_xAnd, wn_xOr, wn_xNot, wn_xIf, wn_xCall, wn_xR1, wn_xR2, sn_nx, sn_rt, sn_bk, sn_ct, sn_seq, sn_set, sn_ret, sn_expr, sn_if, sn_for, sn_xSet, sn_xRet, sn_xExpr, sn_xIf, sn_xFor, sn_asg, sn_xAsg, sn_own, sn_xOwn, gv_zero, gv_succ, go_own, go_dat, go_succ, k0_def, gN_def, tru_bool, tru_none, tru_int, tru_list, asSeq_list, asSeq_tup, addV_int, subV_int, ltA_i, leA_i, gtA_i, geA_i, negV_int, intV_int, lenV_list, lenV_tup, ixV_list, ixV_tup, asInt_int, slV_list, slV_tup, slL_list, revV_tup, revV_list, tupleV_list, listV_list, listV_tup, eqV_str, neV_str, eqV_int, List.set_cons_zero, List.set_cons_succ, List.getElem?_cons_zero, List.getElem?_cons_succ, List.length_cons, List.length_nil, ↓reduceIte, Bool.false_eq_true, Bool.not_true, Bool.not_false, wn_ite, gT2, gT3, neV_tup, eqV_tup, in_tup, notin_tup', lineN_eq, Nat.reduceAdd, Nat.reduceLeDiff, Nat.zero_le, true_and, and_true, List.map_nil, List.map_cons, exists_eq_left', Option.some.injEq, PyData.list.injEq, exists_eq_left, PyData.int.injEq, R.ok.injEq, Sl.own.injEq]
        exact q bs ms gbs gm lb (by omega)
end Nr
end Bd
/-! P4: what bars cost, as the laws reckon it. -/
namespace Bd
open PySem L2
namespace Nr
open Br (Bar bD endD endI Good)
def G__law_cost : Nv → Rs :=
    (seqS (ifS (orB (tb (e2 neV' (e2 ixV (gv 0) (k0 (.int 0))) (e2 ixV (gv 1) (k0 (.int 0))))) (tb (e2 neV' (e2 isV (e2 ixV (gv 0) (k0 (.int 2))) (k0 .none)) (e2 isV (e2 ixV (gv 1) (k0 (.int 2))) (k0 .none))))) (seqS (retS (k0 .none))
    .nx) .nx)
    (seqS (ifS (tb (e2 isV (e2 ixV (gv 0) (k0 (.int 2))) (k0 .none))) (seqS (retS (e2 mulV (k0 (.int 2)) (eN absV' (aC (e2 subV (e2 ixV (gv 0) (k0 (.int 1))) (e2 ixV (gv 1) (k0 (.int 1)))) a0))))
    .nx) .nx)
    (seqS (retS (e2 mulV (k0 (.int 2)) (eN maxV (aC (eN absV' (aC (e2 subV (e2 ixV (gv 0) (k0 (.int 1))) (e2 ixV (gv 1) (k0 (.int 1)))) a0)) (aC (eN absV' (aC (e2 subV (e2 ixV (gv 0) (k0 (.int 2))) (e2 ixV (gv 1) (k0 (.int 2)))) a0)) a0)))))
    .nx)))
def F__law_cost : List D → R D := runD 2 (.ok .none) G__law_cost
def G__law_alone : Nv → Rs :=
    (seqS (ifS (tb (e2 isV (e2 ixV (gv 0) (k0 (.int 2))) (k0 .none))) (seqS (retS (k0 .none))
    .nx) .nx)
    (seqS (retS (e2 subV (e2 ixV (gv 0) (k0 (.int 2))) (e2 ixV (gv 0) (k0 (.int 1)))))
    .nx))
def F__law_alone : List D → R D := runD 1 (.ok .none) G__law_alone
def G__law_needs : Nv → Rs :=
    (seqS (retS (orV (e2 isV (e2 ixV (gv 0) (k0 (.int 2))) (k0 .none)) (e2 gtA (e2 subV (e2 ixV (gv 0) (k0 (.int 2))) (e2 ixV (gv 0) (k0 (.int 1)))) (gv 1))))
    .nx)
def F__law_needs : List D → R D := runD 2 (.ok .none) G__law_needs
def G__law_partners : Nv → Rs :=
    (seqS (ownS 3 (lstV a0))
    (seqS (forS (iR1 (aC (eN lenV (aC (gv 1) a0)) a0)) (gN 4) (seqS (setS 5 (callV F__law_cost (aC (gv 0) (aC (e2 ixV (gv 1) (gv 4)) a0))))
    (seqS (ifS (andB (tb (e2 isnotV (gv 5) (k0 .none))) (tb (e2 leA (gv 5) (gv 2)))) (seqS (appS 3 (gv 4))
    .nx) .nx)
    .nx)))
    (seqS (retO 3)
    .nx)))
def F__law_partners : List D → R D := runD 6 .no G__law_partners
def absI (i : Int) : Int := if i < 0 then -i else i
def costB (x y : Bar) : Option Int := if (!(x.d == y.d) || !(x.e.isNone == y.e.isNone)) = true then none else match x.e, y.e with
  | some a, some b => some (2 * (if absI (a - b) > absI (x.b - y.b) then absI (a - b) else absI (x.b - y.b)))
  | _, _ => some (2 * absI (x.b - y.b))
theorem absI_sym (a b : Int) : absI (a - b) = absI (b - a) := by
  unfold absI
  split <;> split <;> omega
theorem costB_sym (x y : Bar) : costB x y = costB y x := by
  obtain ⟨d, b, e⟩ := x
  obtain ⟨d', b', e'⟩ := y
  unfold costB
  dsimp only
  rw [show (d == d') = (d' == d) from Bool.beq_comm, show (e.isNone == e'.isNone) = (e'.isNone == e.isNone) from Bool.beq_comm, absI_sym b b']
  cases e with
  | none => cases e' <;> rfl
  | some a => cases e' with
    | none => rfl
    | some a' => dsimp only; rw [absI_sym a a']
theorem neV_bool (a b : Bool) : neV' (.bool a) (.bool b) = some (.bool (!(a == b))) := by
  cases a <;> cases b <;> rfl
theorem abs_ok (i : Int) : absV' [.int i] = some (.int (absI i)) := rfl
theorem bD0 (x : Bar) : ixV (bD x) (.int 0) = some (.int x.d) := rfl
theorem bD1 (x : Bar) : ixV (bD x) (.int 1) = some (.int x.b) := rfl
theorem bD2 (x : Bar) : ixV (bD x) (.int 2) = some (endD x.e) := rfl
theorem mul2 (i : Int) : mulV (.int 2) (.int i) = some (.int (2 * i)) := mulV_int (.inl (by decide))
theorem cost_w {x y : Bar} {N B C : Nv → Prop} {T : D → Nv → Prop} (q : ∀ η, T (endD (costB x y)) η) : Sn (G__law_cost [.d (bD x), .d (bD y)]) N T B C := by
  unfold G__law_cost
  simp only [wn_ok, wn_some, wn_only, wn_noex, wn_e2, wn_e1, wn_eN, wn_a0, wn_aC, wn_call, wn_tb, wn_tup, wn_lst, wn_andB, wn_orB, wn_notB, wn_andV, wn_orV, wn_notV, wn_ifV, wn_iA, wn_iR1, wn_iR2, wn_iZ, wn_iEn, wn_iRR, wn_sl, wn_p0, wn_p1, wn_up, wn_upB, wn_upI, wn_x2, wn_x0, wn_xC, wn_xN, wn_xb, wn_xAnd, wn_xOr, wn_xNot, wn_xIf, wn_xCall, wn_xR1, wn_xR2, sn_nx, sn_rt, sn_bk, sn_ct, sn_seq, sn_set, sn_ret, sn_expr, sn_if, sn_for, sn_xSet, sn_xRet, sn_xExpr, sn_xIf, sn_xFor, sn_asg, sn_xAsg, sn_own, sn_xOwn, gv_zero, gv_succ, go_own, go_dat, go_succ, k0_def, gN_def, tru_bool, tru_none, tru_int, tru_list, asSeq_list, asSeq_tup, addV_int, subV_int, ltA_i, leA_i, gtA_i, geA_i, negV_int, intV_int, lenV_list, lenV_tup, ixV_list, ixV_tup, asInt_int, slV_list, slV_tup, slL_list, revV_tup, revV_list, tupleV_list, listV_list, listV_tup, eqV_str, neV_str, eqV_int, List.set_cons_zero, List.set_cons_succ, List.getElem?_cons_zero, List.getElem?_cons_succ, List.length_cons, List.length_nil, ↓reduceIte, Bool.false_eq_true, Bool.not_true, Bool.not_false, wn_ite, gT2, gT3, neV_tup, eqV_tup, in_tup, notin_tup', lineN_eq, Nat.reduceAdd, Nat.reduceLeDiff, Nat.zero_le, true_and, and_true, List.map_nil, List.map_cons, exists_eq_left', Option.some.injEq, PyData.list.injEq, exists_eq_left, PyData.int.injEq, R.ok.injEq, Sl.own.injEq, bD0, bD1, bD2, neV_int, neV_bool, Br.isV_none, abs_ok, mul2, maxV_i]
  obtain ⟨d, b, e⟩ := x
  obtain ⟨d', b', e'⟩ := y
  unfold costB at q
  dsimp only at q ⊢
  cases c : (d == d') with
  | false =>
    rw [c] at q
    simp only [Bool.not_false, ↓reduceIte, Bool.true_or] at q ⊢
    exact q _
  | true =>
    rw [c] at q
    simp only [Bool.not_true, Bool.false_eq_true, ↓reduceIte, Bool.false_or] at q ⊢
    cases e with
    | none => cases e' with
      | none => simpa [endD] using q _
      | some a' => simpa [endD] using q _
    | some a => cases e' with
      | none => simpa [endD] using q _
      | some a' =>
        simp only [Option.isNone_some, beq_self_eq_true, Bool.not_true, Bool.false_eq_true, ↓reduceIte, endD] at q ⊢
        simp only [wn_ok, wn_some, wn_only, wn_noex, wn_e2, wn_e1, wn_eN, wn_a0, wn_aC, wn_call, wn_tb, wn_tup, wn_lst, wn_andB, wn_orB, wn_notB, wn_andV, wn_orV, wn_notV, wn_ifV, wn_iA, wn_iR1, wn_iR2, wn_iZ, wn_iEn, wn_iRR, wn_sl, wn_p0, wn_p1, wn_up, wn_upB, wn_upI, wn_x2, wn_x0, wn_xC, wn_xN, wn_xb, wn_xAnd, wn_xOr, wn_xNot, wn_xIf, wn_xCall, wn_xR1, wn_xR2, sn_nx, sn_rt, sn_bk, sn_ct, sn_seq, sn_set, sn_ret, sn_expr, sn_if, sn_for, sn_xSet, sn_xRet, sn_xExpr, sn_xIf, sn_xFor, sn_asg, sn_xAsg, sn_own, sn_xOwn, gv_zero, gv_succ, go_own, go_dat, go_succ, k0_def, gN_def, tru_bool, tru_none, tru_int, tru_list, asSeq_list, asSeq_tup, addV_int, subV_int, ltA_i, leA_i, gtA_i, geA_i, negV_int, intV_int, lenV_list, lenV_tup, ixV_list, ixV_tup, asInt_int, slV_list, slV_tup, slL_list, revV_tup, revV_list, tupleV_list, listV_list, listV_tup, eqV_str, neV_str, eqV_int, List.set_cons_zero, List.set_cons_succ, List.getElem?_cons_zero, List.getElem?_cons_succ, List.length_cons, List.length_nil, ↓reduceIte, Bool.false_eq_true, Bool.not_true, Bool.not_false, wn_ite, gT2, gT3, neV_tup, eqV_tup, in_tup, notin_tup', lineN_eq, Nat.reduceAdd, Nat.reduceLeDiff, Nat.zero_le, true_and, and_true, List.map_nil, List.map_cons, exists_eq_left', Option.some.injEq, PyData.list.injEq, exists_eq_left, PyData.int.injEq, R.ok.injEq, Sl.own.injEq, abs_ok, mul2, maxV_i]
        exact q _
theorem cost_ok (x y : Bar) : F__law_cost [bD x, bD y] = .ok (endD (costB x y)) := by
  refine Wn.eq (wn_runD ?_)
  exact cost_w (x := x) (y := y) fun _ => rfl
def aloneB (x : Bar) : Option Int := x.e.map (· - x.b)
theorem alone_ok (x : Bar) : F__law_alone [bD x] = .ok (endD (aloneB x)) := by
  refine Wn.eq (wn_runD ?_)
  show Sn (G__law_alone [.d (bD x)]) _ _ _ _
  unfold G__law_alone aloneB
  simp only [wn_ok, wn_some, wn_only, wn_noex, wn_e2, wn_e1, wn_eN, wn_a0, wn_aC, wn_call, wn_tb, wn_tup, wn_lst, wn_andB, wn_orB, wn_notB, wn_andV, wn_orV, wn_notV, wn_ifV, wn_iA, wn_iR1, wn_iR2, wn_iZ, wn_iEn, wn_iRR, wn_sl, wn_p0, wn_p1, wn_up, wn_upB, wn_upI, wn_x2, wn_x0, wn_xC, wn_xN, wn_xb, wn_xAnd, wn_xOr, wn_xNot, wn_xIf, wn_xCall, wn_xR1, wn_xR2, sn_nx, sn_rt, sn_bk, sn_ct, sn_seq, sn_set, sn_ret, sn_expr, sn_if, sn_for, sn_xSet, sn_xRet, sn_xExpr, sn_xIf, sn_xFor, sn_asg, sn_xAsg, sn_own, sn_xOwn, gv_zero, gv_succ, go_own, go_dat, go_succ, k0_def, gN_def, tru_bool, tru_none, tru_int, tru_list, asSeq_list, asSeq_tup, addV_int, subV_int, ltA_i, leA_i, gtA_i, geA_i, negV_int, intV_int, lenV_list, lenV_tup, ixV_list, ixV_tup, asInt_int, slV_list, slV_tup, slL_list, revV_tup, revV_list, tupleV_list, listV_list, listV_tup, eqV_str, neV_str, eqV_int, List.set_cons_zero, List.set_cons_succ, List.getElem?_cons_zero, List.getElem?_cons_succ, List.length_cons, List.length_nil, ↓reduceIte, Bool.false_eq_true, Bool.not_true, Bool.not_false, wn_ite, gT2, gT3, neV_tup, eqV_tup, in_tup, notin_tup', lineN_eq, Nat.reduceAdd, Nat.reduceLeDiff, Nat.zero_le, true_and, and_true, List.map_nil, List.map_cons, exists_eq_left', Option.some.injEq, PyData.list.injEq, exists_eq_left, PyData.int.injEq, R.ok.injEq, Sl.own.injEq, bD1, bD2, Br.isV_none]
  cases e : x.e with
  | none => simp only [Option.isNone_none, ↓reduceIte]; rfl
  | some z =>
    simp only [Option.isNone_some, Bool.false_eq_true, ↓reduceIte, endD]
    simp only [wn_ok, wn_some, wn_only, wn_noex, wn_e2, wn_e1, wn_eN, wn_a0, wn_aC, wn_call, wn_tb, wn_tup, wn_lst, wn_andB, wn_orB, wn_notB, wn_andV, wn_orV, wn_notV, wn_ifV, wn_iA, wn_iR1, wn_iR2, wn_iZ, wn_iEn, wn_iRR, wn_sl, wn_p0, wn_p1, wn_up, wn_upB, wn_upI, wn_x2, wn_x0, wn_xC, wn_xN, wn_xb, wn_xAnd, wn_xOr, wn_xNot, wn_xIf, wn_xCall, wn_xR1, wn_xR2, sn_nx, sn_rt, sn_bk, sn_ct, sn_seq, sn_set, sn_ret, sn_expr, sn_if, sn_for, sn_xSet, sn_xRet, sn_xExpr, sn_xIf, sn_xFor, sn_asg, sn_xAsg, sn_own, sn_xOwn, gv_zero, gv_succ, go_own, go_dat, go_succ, k0_def, gN_def, tru_bool, tru_none, tru_int, tru_list, asSeq_list, asSeq_tup, addV_int, subV_int, ltA_i, leA_i, gtA_i, geA_i, negV_int, intV_int, lenV_list, lenV_tup, ixV_list, ixV_tup, asInt_int, slV_list, slV_tup, slL_list, revV_tup, revV_list, tupleV_list, listV_list, listV_tup, eqV_str, neV_str, eqV_int, List.set_cons_zero, List.set_cons_succ, List.getElem?_cons_zero, List.getElem?_cons_succ, List.length_cons, List.length_nil, ↓reduceIte, Bool.false_eq_true, Bool.not_true, Bool.not_false, wn_ite, gT2, gT3, neV_tup, eqV_tup, in_tup, notin_tup', lineN_eq, Nat.reduceAdd, Nat.reduceLeDiff, Nat.zero_le, true_and, and_true, List.map_nil, List.map_cons, exists_eq_left', Option.some.injEq, PyData.list.injEq, exists_eq_left, PyData.int.injEq, R.ok.injEq, Sl.own.injEq]
    rfl
def needB (x : Bar) (n : Int) : Bool := match x.e with
  | none => true
  | some z => decide (z - x.b > n)
theorem needs_ok (x : Bar) (n : Int) : F__law_needs [bD x, .int n] = .ok (.bool (needB x n)) := by
  refine Wn.eq (wn_runD ?_)
  show Sn (G__law_needs [.d (bD x), .d (.int n)]) _ _ _ _
  unfold G__law_needs needB
  simp only [wn_ok, wn_some, wn_only, wn_noex, wn_e2, wn_e1, wn_eN, wn_a0, wn_aC, wn_call, wn_tb, wn_tup, wn_lst, wn_andB, wn_orB, wn_notB, wn_andV, wn_orV, wn_notV, wn_ifV, wn_iA, wn_iR1, wn_iR2, wn_iZ, wn_iEn, wn_iRR, wn_sl, wn_p0, wn_p1, wn_up, wn_upB, wn_upI, wn_x2, wn_x0, wn_xC, wn_xN, wn_xb, wn_xAnd, wn_xOr, wn_xNot, wn_xIf, wn_xCall, wn_xR1, wn_xR2, sn_nx, sn_rt, sn_bk, sn_ct, sn_seq, sn_set, sn_ret, sn_expr, sn_if, sn_for, sn_xSet, sn_xRet, sn_xExpr, sn_xIf, sn_xFor, sn_asg, sn_xAsg, sn_own, sn_xOwn, gv_zero, gv_succ, go_own, go_dat, go_succ, k0_def, gN_def, tru_bool, tru_none, tru_int, tru_list, asSeq_list, asSeq_tup, addV_int, subV_int, ltA_i, leA_i, gtA_i, geA_i, negV_int, intV_int, lenV_list, lenV_tup, ixV_list, ixV_tup, asInt_int, slV_list, slV_tup, slL_list, revV_tup, revV_list, tupleV_list, listV_list, listV_tup, eqV_str, neV_str, eqV_int, List.set_cons_zero, List.set_cons_succ, List.getElem?_cons_zero, List.getElem?_cons_succ, List.length_cons, List.length_nil, ↓reduceIte, Bool.false_eq_true, Bool.not_true, Bool.not_false, wn_ite, gT2, gT3, neV_tup, eqV_tup, in_tup, notin_tup', lineN_eq, Nat.reduceAdd, Nat.reduceLeDiff, Nat.zero_le, true_and, and_true, List.map_nil, List.map_cons, exists_eq_left', Option.some.injEq, PyData.list.injEq, exists_eq_left, PyData.int.injEq, R.ok.injEq, Sl.own.injEq, bD1, bD2, Br.isV_none]
  cases e : x.e with
  | none => simp only [Option.isNone_none, ↓reduceIte]
  | some z =>
    simp only [Option.isNone_some, Bool.false_eq_true, ↓reduceIte, endD]
    simp only [wn_ok, wn_some, wn_only, wn_noex, wn_e2, wn_e1, wn_eN, wn_a0, wn_aC, wn_call, wn_tb, wn_tup, wn_lst, wn_andB, wn_orB, wn_notB, wn_andV, wn_orV, wn_notV, wn_ifV, wn_iA, wn_iR1, wn_iR2, wn_iZ, wn_iEn, wn_iRR, wn_sl, wn_p0, wn_p1, wn_up, wn_upB, wn_upI, wn_x2, wn_x0, wn_xC, wn_xN, wn_xb, wn_xAnd, wn_xOr, wn_xNot, wn_xIf, wn_xCall, wn_xR1, wn_xR2, sn_nx, sn_rt, sn_bk, sn_ct, sn_seq, sn_set, sn_ret, sn_expr, sn_if, sn_for, sn_xSet, sn_xRet, sn_xExpr, sn_xIf, sn_xFor, sn_asg, sn_xAsg, sn_own, sn_xOwn, gv_zero, gv_succ, go_own, go_dat, go_succ, k0_def, gN_def, tru_bool, tru_none, tru_int, tru_list, asSeq_list, asSeq_tup, addV_int, subV_int, ltA_i, leA_i, gtA_i, geA_i, negV_int, intV_int, lenV_list, lenV_tup, ixV_list, ixV_tup, asInt_int, slV_list, slV_tup, slL_list, revV_tup, revV_list, tupleV_list, listV_list, listV_tup, eqV_str, neV_str, eqV_int, List.set_cons_zero, List.set_cons_succ, List.getElem?_cons_zero, List.getElem?_cons_succ, List.length_cons, List.length_nil, ↓reduceIte, Bool.false_eq_true, Bool.not_true, Bool.not_false, wn_ite, gT2, gT3, neV_tup, eqV_tup, in_tup, notin_tup', lineN_eq, Nat.reduceAdd, Nat.reduceLeDiff, Nat.zero_le, true_and, and_true, List.map_nil, List.map_cons, exists_eq_left', Option.some.injEq, PyData.list.injEq, exists_eq_left, PyData.int.injEq, R.ok.injEq, Sl.own.injEq]
def nearB (n : Int) (x y : Bar) : Bool := match costB x y with
  | none => false
  | some p => decide (p ≤ n)
/-- the indexes of the partners, from i on -/
def partB (n : Int) (x : Bar) : Int → List Bar → List Int
  | _, [] => []
  | i, y :: ys => if nearB n x y = true then i :: partB n x (i + 1) ys else partB n x (i + 1) ys
theorem partB_len {n : Int} {x : Bar} : ∀ {ys : List Bar} {i : Int}, (partB n x i ys).length ≤ ys.length
  | [], _ => Nat.le_refl _
  | y :: ys, i => by
    unfold partB
    split
    · rw [List.length_cons, List.length_cons]
      exact Nat.succ_le_succ partB_len
    · rw [List.length_cons]
      exact Nat.le_succ_of_le partB_len
theorem partB_in {n : Int} {x : Bar} : ∀ {ys : List Bar} {i : Int}, ∀ j ∈ partB n x i ys, i ≤ j ∧ j < i + ys.length
  | [], _, j, m => absurd m List.not_mem_nil
  | y :: ys, i, j, m => by
    unfold partB at m
    rw [List.length_cons]
    split at m
    · rcases List.mem_cons.mp m with rfl | m
      · omega
      · have := partB_in j m
        omega
    · have := partB_in j m
      omega
theorem isnotV_end (e : Option Int) : isnotV (endD e) .none = some (.bool !e.isNone) := by
  cases e <;> rfl
theorem near_if {n : Int} {x y : Bar} {η : Nv} {QB : Bool → Prop} {Ga Gb : Nv → R D} (ha : Ga η = .ok (endD (costB x y))) (hb : Gb η = .ok (.int n)) (q : QB (nearB n x y)) : Wn (andB (tb (e2 isnotV Ga (k0 .none))) (tb (e2 leA Ga Gb)) η) QB := by
  simp only [wn_ok, wn_some, wn_only, wn_noex, wn_e2, wn_e1, wn_eN, wn_a0, wn_aC, wn_call, wn_tb, wn_tup, wn_lst, wn_andB, wn_orB, wn_notB, wn_andV, wn_orV, wn_notV, wn_ifV, wn_iA, wn_iR1, wn_iR2, wn_iZ, wn_iEn, wn_iRR, wn_sl, wn_p0, wn_p1, wn_up, wn_upB, wn_upI, wn_x2, wn_x0, wn_xC, wn_xN, wn_xb, wn_xAnd, wn_xOr, wn_xNot, wn_xIf, wn_xCall, wn_xR1, wn_xR2, sn_nx, sn_rt, sn_bk, sn_ct, sn_seq, sn_set, sn_ret, sn_expr, sn_if, sn_for, sn_xSet, sn_xRet, sn_xExpr, sn_xIf, sn_xFor, sn_asg, sn_xAsg, sn_own, sn_xOwn, gv_zero, gv_succ, go_own, go_dat, go_succ, k0_def, gN_def, tru_bool, tru_none, tru_int, tru_list, asSeq_list, asSeq_tup, addV_int, subV_int, ltA_i, leA_i, gtA_i, geA_i, negV_int, intV_int, lenV_list, lenV_tup, ixV_list, ixV_tup, asInt_int, slV_list, slV_tup, slL_list, revV_tup, revV_list, tupleV_list, listV_list, listV_tup, eqV_str, neV_str, eqV_int, List.set_cons_zero, List.set_cons_succ, List.getElem?_cons_zero, List.getElem?_cons_succ, List.length_cons, List.length_nil, ↓reduceIte, Bool.false_eq_true, Bool.not_true, Bool.not_false, wn_ite, gT2, gT3, neV_tup, eqV_tup, in_tup, notin_tup', lineN_eq, Nat.reduceAdd, Nat.reduceLeDiff, Nat.zero_le, true_and, and_true, List.map_nil, List.map_cons, exists_eq_left', Option.some.injEq, PyData.list.injEq, exists_eq_left, PyData.int.injEq, R.ok.injEq, Sl.own.injEq, ha, hb, isnotV_end]
  unfold nearB at q
  cases e : costB x y with
  | none =>
    rw [e] at q
    simp only [Option.isNone_none, Bool.not_true, Bool.false_eq_true, ↓reduceIte]
    exact q
  | some p =>
    rw [e] at q
    simp only [Option.isNone_some, Bool.not_false, ↓reduceIte, endD]
    simp only [wn_ok, wn_some, wn_only, wn_noex, wn_e2, wn_e1, wn_eN, wn_a0, wn_aC, wn_call, wn_tb, wn_tup, wn_lst, wn_andB, wn_orB, wn_notB, wn_andV, wn_orV, wn_notV, wn_ifV, wn_iA, wn_iR1, wn_iR2, wn_iZ, wn_iEn, wn_iRR, wn_sl, wn_p0, wn_p1, wn_up, wn_upB, wn_upI, wn_x2, wn_x0, wn_xC, wn_xN, wn_xb, wn_xAnd, wn_xOr, wn_xNot, wn_xIf, wn_xCall, wn_xR1, wn_xR2, sn_nx, sn_rt, sn_bk, sn_ct, sn_seq, sn_set, sn_ret, sn_expr, sn_if, sn_for, sn_xSet, sn_xRet, sn_xExpr, sn_xIf, sn_xFor, sn_asg, sn_xAsg, sn_own, sn_xOwn, gv_zero, gv_succ, go_own, go_dat, go_succ, k0_def, gN_def, tru_bool, tru_none, tru_int, tru_list, asSeq_list, asSeq_tup, addV_int, subV_int, ltA_i, leA_i, gtA_i, geA_i, negV_int, intV_int, lenV_list, lenV_tup, ixV_list, ixV_tup, asInt_int, slV_list, slV_tup, slL_list, revV_tup, revV_list, tupleV_list, listV_list, listV_tup, eqV_str, neV_str, eqV_int, List.set_cons_zero, List.set_cons_succ, List.getElem?_cons_zero, List.getElem?_cons_succ, List.length_cons, List.length_nil, ↓reduceIte, Bool.false_eq_true, Bool.not_true, Bool.not_false, wn_ite, gT2, gT3, neV_tup, eqV_tup, in_tup, notin_tup', lineN_eq, Nat.reduceAdd, Nat.reduceLeDiff, Nat.zero_le, true_and, and_true, List.map_nil, List.map_cons, exists_eq_left', Option.some.injEq, PyData.list.injEq, exists_eq_left, PyData.int.injEq, R.ok.injEq, Sl.own.injEq]
    exact q
theorem partners_ok {n : Int} {x : Bar} {cs : List Bar} (hl : cs.length ≤ 1000) : F__law_partners [bD x, .list (cs.map bD), .int n] = .ok (.list ((partB n x 0 cs).map PyData.int)) := by
  refine Wn.eq (wn_runD ?_)
  show Sn (G__law_partners [.d (bD x), .d (.list (cs.map bD)), .d (.int n), .no, .no, .no]) _ _ _ _
  unfold G__law_partners
  simp only [wn_ok, wn_some, wn_only, wn_noex, wn_e2, wn_e1, wn_eN, wn_a0, wn_aC, wn_call, wn_tb, wn_tup, wn_lst, wn_andB, wn_orB, wn_notB, wn_andV, wn_orV, wn_notV, wn_ifV, wn_iA, wn_iR1, wn_iR2, wn_iZ, wn_iEn, wn_iRR, wn_sl, wn_p0, wn_p1, wn_up, wn_upB, wn_upI, wn_x2, wn_x0, wn_xC, wn_xN, wn_xb, wn_xAnd, wn_xOr, wn_xNot, wn_xIf, wn_xCall, wn_xR1, wn_xR2, sn_nx, sn_rt, sn_bk, sn_ct, sn_seq, sn_set, sn_ret, sn_expr, sn_if, sn_for, sn_xSet, sn_xRet, sn_xExpr, sn_xIf, sn_xFor, sn_asg, sn_xAsg, sn_own, sn_xOwn, gv_zero, gv_succ, go_own, go_dat, go_succ, k0_def, gN_def, tru_bool, tru_none, tru_int, tru_list, asSeq_list, asSeq_tup, addV_int, subV_int, ltA_i, leA_i, gtA_i, geA_i, negV_int, intV_int, lenV_list, lenV_tup, ixV_list, ixV_tup, asInt_int, slV_list, slV_tup, slL_list, revV_tup, revV_list, tupleV_list, listV_list, listV_tup, eqV_str, neV_str, eqV_int, List.set_cons_zero, List.set_cons_succ, List.getElem?_cons_zero, List.getElem?_cons_succ, List.length_cons, List.length_nil, ↓reduceIte, Bool.false_eq_true, Bool.not_true, Bool.not_false, wn_ite, gT2, gT3, neV_tup, eqV_tup, in_tup, notin_tup', lineN_eq, Nat.reduceAdd, Nat.reduceLeDiff, Nat.zero_le, true_and, and_true, List.map_nil, List.map_cons, exists_eq_left', Option.some.injEq, PyData.list.injEq, exists_eq_left, PyData.int.injEq, R.ok.injEq, Sl.own.injEq, List.length_map]
  rw [wn_rng1 (by omega) (by omega)]
  refine sn_loop (fun rest η => ∃ (i : Nat) (acc : List Int) (s4 s5 : Sl), i ≤ cs.length ∧ rest = (List.range' i (cs.length - i)).map (fun j : Nat => PyData.int (j : Int)) ∧ acc ++ partB n x i (cs.drop i) = partB n x 0 cs ∧ acc.length ≤ i ∧ η = [.d (bD x), .d (.list (cs.map bD)), .d (.int n), .own ⟨true, acc.map PyData.int⟩, s4, s5]) ?_ ?_ _ _
    ⟨0, [], .no, .no, Nat.zero_le _, by
      unfold rangeD
      rw [← List.range_eq_range', Int.toNat_natCast]
      exact List.map_congr_left fun j _ => by show PyData.int (0 + (j : Int)) = _; rw [Int.zero_add], rfl, Nat.le_refl _, rfl⟩
  · rintro y rest η ⟨i, acc, s4, s5, hi, e1, e2, e3, rfl⟩
    by_cases kl : i < cs.length
    · rw [show cs.length - i = (cs.length - (i + 1)) + 1 by omega, List.range'_succ, List.map_cons] at e1
      obtain ⟨rfl, rfl⟩ := List.cons.inj e1
      rw [List.drop_eq_getElem_cons kl] at e2
      have ai : atD (cs.map bD) (i : Int) = some (bD cs[i]) := atD_nat (by omega) (by rw [Int.toNat_natCast, List.getElem?_map, List.getElem?_eq_getElem kl]; rfl)
      generalize cs[i] = c at e2 ai
      have e2 : acc ++ (if nearB n x c = true then (i : Int) :: partB n x ((i : Int) + 1) (cs.drop (i + 1)) else partB n x ((i : Int) + 1) (cs.drop (i + 1))) = partB n x 0 cs := e2
      refine ⟨_, rfl, ?_⟩
      simp only [wn_ok, wn_some, wn_only, wn_noex, wn_e2, wn_e1, wn_eN, wn_a0, wn_aC, wn_call, wn_tb, wn_tup, wn_lst, wn_andB, wn_orB, wn_notB, wn_andV, wn_orV, wn_notV, wn_ifV, wn_iA, wn_iR1, wn_iR2, wn_iZ, wn_iEn, wn_iRR, wn_sl, wn_p0, wn_p1, wn_up, wn_upB, wn_upI, wn_x2, wn_x0, wn_xC, wn_xN, wn_xb, wn_xAnd, wn_xOr, wn_xNot, wn_xIf, wn_xCall, wn_xR1, wn_xR2, sn_nx, sn_rt, sn_bk, sn_ct, sn_seq, sn_set, sn_ret, sn_expr, sn_if, sn_for, sn_xSet, sn_xRet, sn_xExpr, sn_xIf, sn_xFor, sn_asg, sn_xAsg, sn_own, sn_xOwn, gv_zero, gv_succ, go_own, go_dat, go_succ, k0_def, gN_def, tru_bool, tru_none, tru_int, tru_list, asSeq_list, asSeq_tup, addV_int, subV_int, ltA_i, leA_i, gtA_i, geA_i, negV_int, intV_int, lenV_list, lenV_tup, ixV_list, ixV_tup, asInt_int, slV_list, slV_tup, slL_list, revV_tup, revV_list, tupleV_list, listV_list, listV_tup, eqV_str, neV_str, eqV_int, List.set_cons_zero, List.set_cons_succ, List.getElem?_cons_zero, List.getElem?_cons_succ, List.length_cons, List.length_nil, ↓reduceIte, Bool.false_eq_true, Bool.not_true, Bool.not_false, wn_ite, gT2, gT3, neV_tup, eqV_tup, in_tup, notin_tup', lineN_eq, Nat.reduceAdd, Nat.reduceLeDiff, Nat.zero_le, true_and, and_true, List.map_nil, List.map_cons, exists_eq_left', Option.some.injEq, PyData.list.injEq, exists_eq_left, PyData.int.injEq, R.ok.injEq, Sl.own.injEq, ai, cost_ok, isnotV_end]
      cases e : costB x c with
      | none =>
        rw [show nearB n x c = false by unfold nearB; rw [e]] at e2
        simp only [Bool.false_eq_true, ↓reduceIte, Option.isNone_none, Bool.not_true] at e2 ⊢
        exact ⟨i + 1, acc, _, _, by omega, rfl, e2, by omega, rfl⟩
      | some p =>
        rw [show nearB n x c = decide (p ≤ n) by unfold nearB; rw [e]] at e2
        simp only [Option.isNone_some, Bool.not_false, ↓reduceIte, endD]
        simp only [wn_ok, wn_some, wn_only, wn_noex, wn_e2, wn_e1, wn_eN, wn_a0, wn_aC, wn_call, wn_tb, wn_tup, wn_lst, wn_andB, wn_orB, wn_notB, wn_andV, wn_orV, wn_notV, wn_ifV, wn_iA, wn_iR1, wn_iR2, wn_iZ, wn_iEn, wn_iRR, wn_sl, wn_p0, wn_p1, wn_up, wn_upB, wn_upI, wn_x2, wn_x0, wn_xC, wn_xN, wn_xb, wn_xAnd, wn_xOr, wn_xNot, wn_xIf, wn_xCall, wn_xR1, wn_xR2, sn_nx, sn_rt, sn_bk, sn_ct, sn_seq, sn_set, sn_ret, sn_expr, sn_if, sn_for, sn_xSet, sn_xRet, sn_xExpr, sn_xIf, sn_xFor, sn_asg, sn_xAsg, sn_own, sn_xOwn, gv_zero, gv_succ, go_own, go_dat, go_succ, k0_def, gN_def, tru_bool, tru_none, tru_int, tru_list, asSeq_list, asSeq_tup, addV_int, subV_int, ltA_i, leA_i, gtA_i, geA_i, negV_int, intV_int, lenV_list, lenV_tup, ixV_list, ixV_tup, asInt_int, slV_list, slV_tup, slL_list, revV_tup, revV_list, tupleV_list, listV_list, listV_tup, eqV_str, neV_str, eqV_int, List.set_cons_zero, List.set_cons_succ, List.getElem?_cons_zero, List.getElem?_cons_succ, List.length_cons, List.length_nil, ↓reduceIte, Bool.false_eq_true, Bool.not_true, Bool.not_false, wn_ite, gT2, gT3, neV_tup, eqV_tup, in_tup, notin_tup', lineN_eq, Nat.reduceAdd, Nat.reduceLeDiff, Nat.zero_le, true_and, and_true, List.map_nil, List.map_cons, exists_eq_left', Option.some.injEq, PyData.list.injEq, exists_eq_left, PyData.int.injEq, R.ok.injEq, Sl.own.injEq]
        by_cases c0 : p ≤ n
        · rw [decide_eq_true c0] at e2 ⊢
          simp only [↓reduceIte] at e2 ⊢
          refine sn_app rfl ?_
          simp only [wn_ok, wn_some, wn_only, wn_noex, wn_e2, wn_e1, wn_eN, wn_a0, wn_aC, wn_call, wn_tb, wn_tup, wn_lst, wn_andB, wn_orB, wn_notB, wn_andV, wn_orV, wn_notV, wn_ifV, wn_iA, wn_iR1, wn_iR2, wn_iZ, wn_iEn, wn_iRR, wn_sl, wn_p0, wn_p1, wn_up, wn_upB, wn_upI, wn_x2, wn_x0, wn_xC, wn_xN, wn_xb, wn_xAnd, wn_xOr, wn_xNot, wn_xIf, wn_xCall, wn_xR1, wn_xR2, sn_nx, sn_rt, sn_bk, sn_ct, sn_seq, sn_set, sn_ret, sn_expr, sn_if, sn_for, sn_xSet, sn_xRet, sn_xExpr, sn_xIf, sn_xFor, sn_asg, sn_xAsg, sn_own, sn_xOwn, gv_zero, gv_succ, go_own, go_dat, go_succ, k0_def, gN_def, tru_bool, tru_none, tru_int, tru_list, asSeq_list, asSeq_tup, addV_int, subV_int, ltA_i, leA_i, gtA_i, geA_i, negV_int, intV_int, lenV_list, lenV_tup, ixV_list, ixV_tup, asInt_int, slV_list, slV_tup, slL_list, revV_tup, revV_list, tupleV_list, listV_list, listV_tup, eqV_str, neV_str, eqV_int, List.set_cons_zero, List.set_cons_succ, List.getElem?_cons_zero, List.getElem?_cons_succ, List.length_cons, List.length_nil, ↓reduceIte, Bool.false_eq_true, Bool.not_true, Bool.not_false, wn_ite, gT2, gT3, neV_tup, eqV_tup, in_tup, notin_tup', lineN_eq, Nat.reduceAdd, Nat.reduceLeDiff, Nat.zero_le, true_and, and_true, List.map_nil, List.map_cons, exists_eq_left', Option.some.injEq, PyData.list.injEq, exists_eq_left, PyData.int.injEq, R.ok.injEq, Sl.own.injEq]
          refine ⟨by rw [List.length_map]; omega, i + 1, acc ++ [(i : Int)], .d (.int (i : Int)), .d (.int p), by omega, rfl, ?_, by rw [List.length_append]; simp; omega, ?_⟩
          · rw [List.append_assoc]
            exact e2
          · rw [List.map_append]
            rfl
        · rw [decide_eq_false c0] at e2 ⊢
          simp only [Bool.false_eq_true, ↓reduceIte] at e2 ⊢
          exact ⟨i + 1, acc, _, _, by omega, rfl, e2, by omega, rfl⟩
    · rw [show cs.length - i = 0 by omega] at e1
      cases e1
  · rintro η ⟨i, acc, s4, s5, hi, e1, e2, e3, rfl⟩
    have ii : i = cs.length := by
      by_cases kl : i < cs.length
      · rw [show cs.length - i = (cs.length - (i + 1)) + 1 by omega, List.range'_succ] at e1
        cases e1
      · omega
    subst ii
    refine sn_retO rfl ?_
    rw [← e2, List.drop_length]
    show _ = PyData.list ((acc ++ []).map PyData.int)
    rw [List.append_nil]
theorem fine_bar {x : Bar} (g : Good x) : Fine 1 200 (bD x) := by
  have g2 := g.e
  have g3 := g.b0
  have g4 := g.b1
  have g5 := g.d0
  have g6 := g.d1
  obtain ⟨d, b, e⟩ := x
  have f := fine_tuple (k := 0) (n := 41) (xs := [.int d, .int b, endD e]) fun y m => by
    simp only [List.mem_cons, List.not_mem_nil, or_false] at m
    rcases m with rfl | rfl | rfl
    · exact fine_int (by dsimp only at *; omega) (by dsimp only at *; omega)
    · exact fine_int (by dsimp only at *; omega) (by dsimp only at *; omega)
    · cases e with
      | none => exact fine_none.mono (Nat.le_refl _) (by decide)
      | some z =>
        have := g2 z rfl
        exact fine_int (by dsimp only at *; omega) (by dsimp only at *; omega)
  exact f.mono (Nat.le_refl _) (by show 3 * (41 + 1) ≤ 200; decide)
theorem fine_bars {bs : List Bar} (h : ∀ x ∈ bs, Good x) (hl : bs.length ≤ 100) : Fine 2 100000 (.list (bs.map bD)) := by
  have f := fine_list (k := 1) (n := 200) (xs := bs.map bD) fun d m => by
    obtain ⟨x, mx, rfl⟩ := List.mem_map.mp m
    exact fine_bar (h x mx)
  refine f.mono (Nat.le_refl _) ?_
  rw [List.length_map]
  omega
def unB : D → Bar
  | .tuple [.int d, .int b, .int e] => ⟨d, b, some e⟩
  | .tuple [.int d, .int b, .none] => ⟨d, b, none⟩
  | _ => ⟨0, 0, none⟩
theorem unB_bD (x : Bar) : unB (bD x) = x := by
  obtain ⟨d, b, e⟩ := x
  cases e <;> rfl
theorem bars_comp {Fi : Nv → R (List D)} {Cn : Nv → R Bool} {t : Nat} {η : Nv} {bs : List Bar} {QD : D → Prop} (c : Bar → Bool) (hi : Wn (Fi η) (· = bs.map bD)) (hg : ∀ x, gv t ((wipeE η [t]).set t (.d x)) = .ok x) (hl : bs.length ≤ 1000) (step : ∀ x ∈ bs, Wn (Cn ((wipeE η [t]).set t (.d (bD x)))) (· = c x)) (q : QD (.list ((bs.filter c).map bD))) :
    Wn (compE Fi (gN t) Cn (gv t) [t] η) QD := by
  refine wn_comp (xs := bs.map bD) (fun d => c (unB d)) id hi ?_ (by rw [List.length_map, lineN_eq]; omega) ?_
  · intro d m
    obtain ⟨x, mx, rfl⟩ := List.mem_map.mp m
    refine ⟨_, rfl, (step x mx).imp fun b e => ⟨by rw [unB_bD]; exact e, fun _ => ?_⟩⟩
    rw [hg]
    exact wn_ok.mpr rfl
  · rw [List.map_id, List.filter_map]
    have e : ((fun d => c (unB d)) ∘ bD) = c := funext fun x => by
      show c (unB (bD x)) = c x
      rw [unB_bD]
    rw [e]
    exact q
theorem bars_compG {Fi : Nv → R (List D)} {Tg : Tgt} {Cn : Nv → R Bool} {El : Nv → R D} {vs : List Nat} {η : Nv} {bs : List Bar} {QD : D → Prop} (c : Bar → Bool) (g : Bar → D) (hi : Wn (Fi η) (· = bs.map bD)) (hl : bs.length ≤ 1000)
    (step : ∀ x ∈ bs, ∃ η1, Tg (bD x) (wipeE η vs) = some η1 ∧ Wn (Cn η1) fun b => b = c x ∧ (b = true → Wn (El η1) (· = g x))) (q : QD (.list ((bs.filter c).map g))) : Wn (compE Fi Tg Cn El vs η) QD := by
  refine wn_comp (xs := bs.map bD) (fun d => c (unB d)) (fun d => g (unB d)) hi ?_ (by rw [List.length_map, lineN_eq]; omega) ?_
  · intro d m
    obtain ⟨x, mx, rfl⟩ := List.mem_map.mp m
    obtain ⟨η1, e, k⟩ := step x mx
    refine ⟨η1, e, ?_⟩
    rw [unB_bD]
    exact k
  · rw [List.filter_map, List.map_map]
    have e : ((fun d => c (unB d)) ∘ bD) = c := funext fun x => by
      show c (unB (bD x)) = c x
      rw [unB_bD]
    have e2 : ((fun d => g (unB d)) ∘ bD) = g := funext fun x => by
      show g (unB (bD x)) = g x
      rw [unB_bD]
    rw [e, e2]
    exact q
theorem same_bars {bs : List Bar} (h : ∀ x ∈ bs, Good x) (hl : bs.length ≤ 100) : neV' (.list (bs.map bD)) (.list (bs.map bD)) = some (.bool false) := by
  have f := fine_bars h hl
  unfold neV'
  split
  · rename_i e _
    cases e
  · rw [if_pos ⟨f.shaped (by decide), f.shaped (by decide)⟩, SeqAt.eqv_refl _ f.cl]
    rfl
end Nr
end Bd
namespace Bd
open PySem L2
/-- cost: 0 one, 1 other, 2 dimension, 3 birth, 4 death, 5 other_dimension, 6 other_birth, 7 other_death -/
def G_cost : Nv → Rs :=
    (seqS (asgS (gT 3 (gsC (gN 2) (gsC (gN 3) (gsC (gN 4) gs0)))) (gv 0))
    (seqS (asgS (gT 3 (gsC (gN 5) (gsC (gN 6) (gsC (gN 7) gs0)))) (gv 1))
    (seqS (ifS (orB (tb (e2 neV' (gv 2) (gv 5))) (tb (e2 neV' (e2 isV (gv 4) (k0 .none)) (e2 isV (gv 7) (k0 .none))))) (seqS (retS (k0 .none))
    .nx) .nx)
    (seqS (ifS (tb (e2 isV (gv 4) (k0 .none))) (seqS (retS (e2 mulV (k0 (.int 2)) (eN absV' (aC (e2 subV (gv 3) (gv 6)) a0))))
    .nx) .nx)
    (seqS (retS (e2 mulV (k0 (.int 2)) (eN maxV (aC (eN absV' (aC (e2 subV (gv 3) (gv 6)) a0)) (aC (eN absV' (aC (e2 subV (gv 4) (gv 7)) a0)) a0)))))
    .nx)))))
def F_cost : List D → R D := runD 8 (.ok .none) G_cost
/-- cost_alone: 0 bar, 1 _, 2 birth, 3 death -/
def G_cost_alone : Nv → Rs :=
    (seqS (asgS (gT 3 (gsC (gN 1) (gsC (gN 2) (gsC (gN 3) gs0)))) (gv 0))
    (seqS (retS (ifV (tb (e2 isV (gv 3) (k0 .none))) (k0 .none) (e2 subV (gv 3) (gv 2))))
    .nx))
def F_cost_alone : List D → R D := runD 4 (.ok .none) G_cost_alone
/-- _is_within: 0 price, 1 number -/
def G__is_within : Nv → Rs :=
    (seqS (retS (andV (e2 isnotV (gv 0) (k0 .none)) (e2 leA (gv 0) (gv 1))))
    .nx)
def F__is_within : List D → R D := runD 2 (.ok .none) G__is_within
/-- is_bound: 0 bar, 1 number -/
def G_is_bound : Nv → Rs :=
    (seqS (retS (notV (callV F__is_within (aC (callV F_cost_alone (aC (gv 0) a0)) (aC (gv 1) a0)))))
    .nx)
def F_is_bound : List D → R D := runD 2 (.ok .none) G_is_bound
/-- are_partners: 0 one, 1 other, 2 number -/
def G_are_partners : Nv → Rs :=
    (seqS (retS (callV F__is_within (aC (callV F_cost (aC (gv 0) (aC (gv 1) a0))) (aC (gv 2) a0))))
    .nx)
def F_are_partners : List D → R D := runD 3 (.ok .none) G_are_partners
/-- partners: 0 bar, 1 others, 2 number, 3 index, 4 other -/
def G_partners : Nv → Rs :=
    (seqS (retS (compE (iEn (aC (gv 1) a0)) (gT 2 (gsC (gN 3) (gsC (gN 4) gs0))) (tb (callV F_are_partners (aC (gv 0) (aC (gv 4) (aC (gv 2) a0))))) (gv 3) [3, 4]))
    .nx)
def F_partners : List D → R D := runD 5 .no G_partners
/-- _law_draw: 0 script, 1 k, 2 below, 3 cell, 4 turn, 5 number -/
def G__law_draw : Nv → Rs :=
    (seqS (ifS (tb (e2 eqV' (eN lenV (aC (gv 0) a0)) (k0 (.int 0)))) (seqS (retS (k0 (.int 0)))
    .nx) .nx)
    (seqS (setS 3 (eN intV (aC (e2 ixV (gv 0) (e2 modV (eN intV (aC (e2 fdivV (gv 1) (k0 (.int 4))) a0)) (eN lenV (aC (gv 0) a0)))) a0)))
    (seqS (ifS (andB (tb (e2 geA (gv 3) (e2 powV (k0 (.int 10)) (k0 (.int 18))))) (tb (e2 ltA (e2 fdivV (gv 1) (k0 (.int 4))) (eN lenV (aC (gv 0) a0))))) (seqS (forS (iR1 (aC (e2 modV (eN intV (aC (gv 1) a0)) (k0 (.int 4))) a0)) (gN 4) (seqS (setS 3 (e2 fdivV (gv 3) (k0 (.int 1000))))
    .nx))
    (seqS (retS (e2 modV (e2 modV (eN intV (aC (gv 3) a0)) (k0 (.int 1000))) (gv 2)))
    .nx)) .nx)
    (seqS (setS 5 (e2 modV (eN intV (aC (e2 addV (e2 addV (e2 mulV (gv 3) (k0 (.int 48271))) (e2 mulV (gv 1) (k0 (.int 69621)))) (k0 (.int 12345))) a0)) (k0 (.int 2147483647))))
    (seqS (setS 5 (e2 modV (eN intV (aC (e2 addV (e2 addV (e2 mulV (gv 5) (gv 5)) (e2 mulV (k0 (.int 16807)) (gv 1))) (k0 (.int 7))) a0)) (k0 (.int 998244353))))
    (seqS (setS 5 (e2 modV (eN intV (aC (e2 addV (e2 addV (e2 mulV (gv 5) (gv 5)) (e2 mulV (k0 (.int 48271)) (gv 1))) (gv 3)) a0)) (k0 (.int 2147483629))))
    (seqS (retS (e2 modV (e2 fdivV (gv 5) (k0 (.int 13))) (gv 2)))
    .nx)))))))
def F__law_draw : List D → R D := runD 6 (.ok .none) G__law_draw
/-- _law_bar: 0 script, 1 k, 2 wide, 3 dimension, 4 birth, 5 death -/
def G__law_bar : Nv → Rs :=
    (seqS (setS 3 (e2 ixV (tupV (aC (k0 (.int 0)) (aC (k0 (.int 0)) (aC (k0 (.int 0)) (aC (k0 (.int 1)) (aC (k0 (.int 1)) (aC (k0 (.int 2)) a0))))))) (callV F__law_draw (aC (gv 0) (aC (gv 1) (aC (k0 (.int 6)) a0))))))
    (seqS (setS 4 (e2 subV (callV F__law_draw (aC (gv 0) (aC (e2 addV (gv 1) (k0 (.int 1))) (aC (gv 2) a0)))) (e2 fdivV (gv 2) (k0 (.int 2)))))
    (seqS (setS 5 (eN minV (aC (k0 (.int 1000)) (aC (e2 addV (e2 addV (gv 4) (k0 (.int 1))) (callV F__law_draw (aC (gv 0) (aC (e2 addV (gv 1) (k0 (.int 3))) (aC (gv 2) a0))))) a0))))
    (seqS (ifS (orB (tb (e2 leA (gv 5) (gv 4))) (tb (e2 eqV' (callV F__law_draw (aC (gv 0) (aC (e2 addV (gv 1) (k0 (.int 2))) (aC (k0 (.int 6)) a0)))) (k0 (.int 0))))) (seqS (retS (tupV (aC (gv 3) (aC (gv 4) (aC (k0 .none) a0)))))
    .nx) .nx)
    (seqS (retS (tupV (aC (gv 3) (aC (gv 4) (aC (gv 5) a0)))))
    .nx)))))
def F__law_bar : List D → R D := runD 6 (.ok .none) G__law_bar
/-- _law_near: 0 script, 1 k, 2 bar, 3 birth -/
def G__law_near : Nv → Rs :=
    (seqS (setS 3 (eN maxV (aC (e1 negV (k0 (.int 1000))) (aC (eN minV (aC (k0 (.int 999)) (aC (e2 subV (e2 addV (e2 ixV (gv 2) (k0 (.int 1))) (callV F__law_draw (aC (gv 0) (aC (gv 1) (aC (k0 (.int 5)) a0))))) (k0 (.int 2))) a0))) a0))))
    (seqS (ifS (tb (e2 isV (e2 ixV (gv 2) (k0 (.int 2))) (k0 .none))) (seqS (retS (tupV (aC (e2 ixV (gv 2) (k0 (.int 0))) (aC (gv 3) (aC (k0 .none) a0)))))
    .nx) .nx)
    (seqS (retS (tupV (aC (e2 ixV (gv 2) (k0 (.int 0))) (aC (gv 3) (aC (eN minV (aC (k0 (.int 1000)) (aC (eN maxV (aC (e2 addV (gv 3) (k0 (.int 1))) (aC (e2 subV (e2 addV (e2 ixV (gv 2) (k0 (.int 2))) (callV F__law_draw (aC (gv 0) (aC (e2 addV (gv 1) (k0 (.int 1))) (aC (k0 (.int 5)) a0))))) (k0 (.int 2))) a0))) a0))) a0)))))
    .nx)))
def F__law_near : List D → R D := runD 4 (.ok .none) G__law_near
/-- _law_lists: 0 script, 1 k, 2 most, 3 wide, 4 j, 5 first, 6 second, 7 kind, 8 mixed -/
def G__law_lists : Nv → Rs :=
    (seqS (setS 3 (e2 ixV (tupV (aC (k0 (.int 4)) (aC (k0 (.int 10)) (aC (k0 (.int 10)) (aC (k0 (.int 400)) (aC (k0 (.int 2001)) a0)))))) (callV F__law_draw (aC (gv 0) (aC (gv 1) (aC (k0 (.int 5)) a0))))))
    (seqS (setS 5 (compE (iR1 (aC (callV F__law_draw (aC (gv 0) (aC (e2 addV (gv 1) (k0 (.int 1))) (aC (e2 addV (gv 2) (k0 (.int 1))) a0)))) a0)) (gN 4) (fun _ => .ok true) (callV F__law_bar (aC (gv 0) (aC (e2 addV (e2 addV (gv 1) (k0 (.int 2))) (e2 mulV (k0 (.int 4)) (gv 4))) (aC (gv 3) a0)))) [4]))
    (seqS (ownS 6 (lstV a0))
    (seqS (forS (iR1 (aC (eN lenV (aC (gv 5) a0)) a0)) (gN 4) (seqS (setS 7 (callV F__law_draw (aC (gv 0) (aC (e2 addV (e2 addV (gv 1) (k0 (.int 40))) (e2 mulV (k0 (.int 3)) (gv 4))) (aC (k0 (.int 5)) a0)))))
    (seqS (ifS (tb (e2 gtA (gv 7) (k0 (.int 1)))) (seqS (appS 6 (callV F__law_near (aC (gv 0) (aC (e2 addV (e2 addV (gv 1) (k0 (.int 41))) (e2 mulV (k0 (.int 3)) (gv 4))) (aC (e2 ixV (gv 5) (gv 4)) a0)))))
    .nx) (seqS (ifS (andB (tb (e2 eqV' (gv 7) (k0 (.int 1)))) (tb (e2 isV (e2 ixV (e2 ixV (gv 5) (gv 4)) (k0 (.int 2))) (k0 .none)))) (seqS (appS 6 (e2 ixV (gv 5) (gv 4)))
    .nx) .nx)
    .nx))
    .nx)))
    (seqS (forS (iR1 (aC (callV F__law_draw (aC (gv 0) (aC (e2 addV (gv 1) (k0 (.int 70))) (aC (k0 (.int 3)) a0)))) a0)) (gN 4) (seqS (appS 6 (callV F__law_bar (aC (gv 0) (aC (e2 addV (e2 addV (gv 1) (k0 (.int 71))) (e2 mulV (k0 (.int 4)) (gv 4))) (aC (gv 3) a0)))))
    .nx))
    (seqS (frzS 6)
    (seqS (ownS 8 (lstV a0))
    (seqS (forS (iR1 (aC (eN lenV (aC (gv 6) a0)) a0)) (gN 4) (seqS (xIns 8 (xC (up (callV F__law_draw (aC (gv 0) (aC (e2 addV (e2 addV (gv 1) (k0 (.int 80))) (gv 4)) (aC (e2 addV (gv 4) (k0 (.int 1))) a0))))) (xC (up (e2 ixV (gv 6) (gv 4))) x0)))
    .nx))
    (seqS (frzS 8)
    (seqS (retS (tupV (aC (gv 5) (aC (gv 8) a0))))
    .nx))))))))))
def F__law_lists : List D → R D := runD 9 (.ok .none) G__law_lists
/-- _law_cost: 0 one, 1 other -/
def G__law_cost : Nv → Rs :=
    (seqS (ifS (orB (tb (e2 neV' (e2 ixV (gv 0) (k0 (.int 0))) (e2 ixV (gv 1) (k0 (.int 0))))) (tb (e2 neV' (e2 isV (e2 ixV (gv 0) (k0 (.int 2))) (k0 .none)) (e2 isV (e2 ixV (gv 1) (k0 (.int 2))) (k0 .none))))) (seqS (retS (k0 .none))
    .nx) .nx)
    (seqS (ifS (tb (e2 isV (e2 ixV (gv 0) (k0 (.int 2))) (k0 .none))) (seqS (retS (e2 mulV (k0 (.int 2)) (eN absV' (aC (e2 subV (e2 ixV (gv 0) (k0 (.int 1))) (e2 ixV (gv 1) (k0 (.int 1)))) a0))))
    .nx) .nx)
    (seqS (retS (e2 mulV (k0 (.int 2)) (eN maxV (aC (eN absV' (aC (e2 subV (e2 ixV (gv 0) (k0 (.int 1))) (e2 ixV (gv 1) (k0 (.int 1)))) a0)) (aC (eN absV' (aC (e2 subV (e2 ixV (gv 0) (k0 (.int 2))) (e2 ixV (gv 1) (k0 (.int 2)))) a0)) a0)))))
    .nx)))
def F__law_cost : List D → R D := runD 2 (.ok .none) G__law_cost
/-- _law_alone: 0 bar -/
def G__law_alone : Nv → Rs :=
    (seqS (ifS (tb (e2 isV (e2 ixV (gv 0) (k0 (.int 2))) (k0 .none))) (seqS (retS (k0 .none))
    .nx) .nx)
    (seqS (retS (e2 subV (e2 ixV (gv 0) (k0 (.int 2))) (e2 ixV (gv 0) (k0 (.int 1)))))
    .nx))
def F__law_alone : List D → R D := runD 1 (.ok .none) G__law_alone
/-- _law_needs: 0 bar, 1 number -/
def G__law_needs : Nv → Rs :=
    (seqS (retS (orV (e2 isV (e2 ixV (gv 0) (k0 (.int 2))) (k0 .none)) (e2 gtA (e2 subV (e2 ixV (gv 0) (k0 (.int 2))) (e2 ixV (gv 0) (k0 (.int 1)))) (gv 1))))
    .nx)
def F__law_needs : List D → R D := runD 2 (.ok .none) G__law_needs
/-- _law_partners: 0 bar, 1 others, 2 number, 3 found, 4 k, 5 price -/
def G__law_partners : Nv → Rs :=
    (seqS (ownS 3 (lstV a0))
    (seqS (forS (iR1 (aC (eN lenV (aC (gv 1) a0)) a0)) (gN 4) (seqS (setS 5 (callV F__law_cost (aC (gv 0) (aC (e2 ixV (gv 1) (gv 4)) a0))))
    (seqS (ifS (andB (tb (e2 isnotV (gv 5) (k0 .none))) (tb (e2 leA (gv 5) (gv 2)))) (seqS (appS 3 (gv 4))
    .nx) .nx)
    .nx)))
    (seqS (retO 3)
    .nx)))
def F__law_partners : List D → R D := runD 6 .no G__law_partners
/-- _law_is: 0 actual, 1 due -/
def G__law_is : Nv → Rs :=
    (seqS (ifS (tb (e2 isV (gv 1) (k0 .none))) (seqS (retS (e2 isV (gv 0) (k0 .none)))
    .nx) .nx)
    (seqS (retS (andV (e1 (isiV "int") (gv 0)) (andV (notV (e1 (isiV "bool") (gv 0))) (e2 eqV' (gv 0) (gv 1)))))
    .nx))
def F__law_is : List D → R D := runD 2 (.ok .none) G__law_is
/-- law: 0 script, 1 first, 2 second, 3 number, 4 one, 5 bound, 6 handed, 7 turn, 8 near, 9 other -/
def G_law : Nv → Rs :=
    (seqS (asgS (gT 2 (gsC (gN 1) (gsC (gN 2) gs0))) (callV F__law_lists (aC (gv 0) (aC (k0 (.int 0)) (aC (k0 (.int 7)) a0)))))
    (seqS (setS 3 (callV F__law_draw (aC (gv 0) (aC (k0 (.int 200)) (aC (e2 ixV (tupV (aC (k0 (.int 6)) (aC (k0 (.int 30)) (aC (k0 (.int 900)) a0)))) (callV F__law_draw (aC (gv 0) (aC (k0 (.int 201)) (aC (k0 (.int 3)) a0))))) a0)))))
    (seqS (forS (iA (gv 1)) (gN 4) (seqS (ifS (notB (tb (callV F__law_is (aC (callV F_cost_alone (aC (gv 4) a0)) (aC (callV F__law_alone (aC (gv 4) a0)) a0))))) (seqS (retS (k0 (.bool false)))
    .nx) .nx)
    (seqS (setS 5 (callV F_is_bound (aC (gv 4) (aC (gv 3) a0))))
    (seqS (ifS (orB (notB (tb (e1 (isiV "bool") (gv 5)))) (tb (e2 neV' (gv 5) (callV F__law_needs (aC (gv 4) (aC (gv 3) a0)))))) (seqS (retS (k0 (.bool false)))
    .nx) .nx)
    (seqS (setS 6 (eN listV (aC (gv 2) a0)))
    (seqS (forS (iR1 (aC (k0 (.int 2)) a0)) (gN 7) (seqS (ownS 8 (callV F_partners (aC (gv 4) (aC (gv 6) (aC (gv 3) a0)))))
    (seqS (ifS (orB (notB (tb (e1 (isiV "list") (go 8)))) (orB (tb (e2 neV' (eN reprV (aC (go 8) a0)) (eN reprV (aC (callV F__law_partners (aC (gv 4) (aC (gv 2) (aC (gv 3) a0)))) a0)))) (tb (e2 neV' (gv 6) (gv 2))))) (seqS (retS (k0 (.bool false)))
    .nx) .nx)
    (seqS (appS 8 (e1 negV (k0 (.int 1))))
    .nx))))
    (seqS (forS (iA (gv 2)) (gN 9) (seqS (ifS (orB (notB (tb (callV F__law_is (aC (callV F_cost (aC (gv 4) (aC (gv 9) a0))) (aC (callV F__law_cost (aC (gv 4) (aC (gv 9) a0))) a0))))) (notB (tb (callV F__law_is (aC (callV F_cost (aC (gv 9) (aC (gv 4) a0))) (aC (callV F__law_cost (aC (gv 4) (aC (gv 9) a0))) a0)))))) (seqS (retS (k0 (.bool false)))
    .nx) .nx)
    .nx))
    .nx)))))))
    (seqS (retS (k0 (.bool true)))
    .nx))))
def F_law : List D → R D := runD 10 (.ok .none) G_law
def topS (i : Nat) : Stmt := PySem.Challenge.pw_barstay_k51_costs_of_bars.main.body.getD i (.Pass ⟨0, 0, 0, 0⟩)
structure Zs (mg : Str → Option Value) : Prop where
  b_abs : mg "abs" = none
  b_bool : mg "bool" = none
  b_enumerate : mg "enumerate" = none
  b_int : mg "int" = none
  b_isinstance : mg "isinstance" = none
  b_len : mg "len" = none
  b_list : mg "list" = none
  b_max : mg "max" = none
  b_min : mg "min" = none
  b_range : mg "range" = none
  b_repr : mg "repr" = none
section
variable {P : Program} {w : World} {K : PySem.W.Frag} {mg : Str → Option Value} {base : Heap}
abbrev s_cost : Stmt := topS 1
theorem sc_cost : FnScope ["one", "other", "dimension", "birth", "death", "other_dimension", "other_birth", "other_death"] ["one", "other"] (defScope s_cost) := ⟨rfl, rfl, rfl, by decide +kernel, rfl, by decide +kernel, by decide +kernel⟩
set_option maxHeartbeats 400000 in
theorem ok_cost {f : Addr} {fd : FuncData} (F : Fun K "cost" "cost" s_cost f fd) (z : Zs mg) (gm : mg "cost" = some (.ref f)) : Df P w K mg base 1 "cost" 2 (rD K) F_cost := by
  have bb : Binds K fd ["one", "other"] [] := F.binds fun _ _ _ _ _ _ us hl => (match us, hl with | [_, _], _ => rfl)
  refine ⟨f, fd, ["one", "other"], ?_, bb, gm, F.kp⟩
  suffices body : ∀ (cdv : Value) (A : Around) (outer : List PySem.Env) (s : Shared) (H : Hp) (E : XK) (A0 : List Addr), Room 0 (A.deeper (PyProof.Rows.envOfC "cost" (defScope s_cost) s.heap.objs.size f cdv)) → A.guards = some [] →
      TSs (cxOf (L2.CX P w) P w K mg base ["one", "other", "dimension", "birth", "death", "other_dimension", "other_birth", "other_death"] "cost" (defScope s_cost) f cdv A outer s H E) ⟨fun cls d _ H => E cls d H, rD K, [], H, A0⟩ (defBody s_cost) G_cost by
    exact fn_rule (k := 0) (G := G_cost) (N := ["one", "other", "dimension", "birth", "death", "other_dimension", "other_birth", "other_death"]) (ps := ["one", "other"]) (rl := rD K) (fall := .ok .none) F sc_cost (.inl ⟨rfl, rfl⟩) body
  intro cdv A outer s H E A0 hr hg
  have hN := sc_cost.nd
  have hu := hr.un
  have u64 : (A.deeper (PyProof.Rows.envOfC "cost" (defScope s_cost) s.heap.objs.size f cdv)).units + 64 < cLine := by omega
  have u65 : (A.deeper (PyProof.Rows.envOfC "cost" (defScope s_cost) s.heap.objs.size f cdv)).units + 65 < cLine := by omega
  have u66 : (A.deeper (PyProof.Rows.envOfC "cost" (defScope s_cost) s.heap.objs.size f cdv)).units + 66 < cLine := by omega
  have tk : Takes (cxOf (L2.CX P w) P w K mg base ["one", "other", "dimension", "birth", "death", "other_dimension", "other_birth", "other_death"] "cost" (defScope s_cost) f cdv A outer s H E) (fun cls d _ H => E cls d H) := takes_of rfl rfl rfl rfl
  have hp : PassesOwn (model P w) (cxOf (L2.CX P w) P w K mg base ["one", "other", "dimension", "birth", "death", "other_dimension", "other_birth", "other_death"] "cost" (defScope s_cost) f cdv A outer s H E).A (cxOf (L2.CX P w) P w K mg base ["one", "other", "dimension", "birth", "death", "other_dimension", "other_birth", "other_death"] "cost" (defScope s_cost) f cdv A outer s H E).env (cxOf (L2.CX P w) P w K mg base ["one", "other", "dimension", "birth", "death", "other_dimension", "other_birth", "other_death"] "cost" (defScope s_cost) f cdv A outer s H E).xe := passes_of (X := cxOf (L2.CX P w) P w K mg base ["one", "other", "dimension", "birth", "death", "other_dimension", "other_birth", "other_death"] "cost" (defScope s_cost) f cdv A outer s H E) rfl
  exact ss_cons (s_asg (t_var 0) (g_tup rfl (g_cons (g_name 2 hN) (g_cons (g_name 3 hN) (g_cons (g_name 4 hN) (g_nil))))))
    (ss_cons (s_asg (t_var 1) (g_tup rfl (g_cons (g_name 5 hN) (g_cons (g_name 6 hN) (g_cons (g_name 7 hN) (g_nil))))))
    (ss_cons (s_if (b_w (w_or (b_ne u64 (TD.o (t_var 2)) (TD.o (t_var 5))) (w_or1 (b_ne u64 (TD.o (t_is (TD.o (t_var 4)) (TD.o (t_none)))) (TD.o (t_is (TD.o (t_var 7)) (TD.o (t_none)))))))) (ss_cons (s_ret (t_none) rfl)
    (ss_nil)) (ss_nil))
    (ss_cons (s_if (b_is (TD.o (t_var 4)) (TD.o (t_none))) (ss_cons (s_ret (t_op back_D op_mul o_mul (TD.o (t_int)) (TD.o (t_abs z.b_abs (as_cons keeps_O (TO.v (TD.o (t_op back_D op_sub o_sub (TD.o (t_var 3)) (TD.o (t_var 6))))) (as_nil))))) rfl)
    (ss_nil)) (ss_nil))
    (ss_cons (s_ret (t_op back_D op_mul o_mul (TD.o (t_int)) (TD.o (t_max rfl z.b_max (as_cons keeps_O (TO.v (TD.o (t_abs z.b_abs (as_cons keeps_O (TO.v (TD.o (t_op back_D op_sub o_sub (TD.o (t_var 3)) (TD.o (t_var 6))))) (as_nil))))) (as_cons keeps_O (TO.v (TD.o (t_abs z.b_abs (as_cons keeps_O (TO.v (TD.o (t_op back_D op_sub o_sub (TD.o (t_var 4)) (TD.o (t_var 7))))) (as_nil))))) (as_nil)))))) rfl)
    (ss_nil)))))
abbrev s_cost_alone : Stmt := topS 2
theorem sc_cost_alone : FnScope ["bar", "_", "birth", "death"] ["bar"] (defScope s_cost_alone) := ⟨rfl, rfl, rfl, by decide +kernel, rfl, by decide +kernel, by decide +kernel⟩
set_option maxHeartbeats 400000 in
theorem ok_cost_alone {f : Addr} {fd : FuncData} (F : Fun K "cost_alone" "cost_alone" s_cost_alone f fd) (z : Zs mg) (gm : mg "cost_alone" = some (.ref f)) : Df P w K mg base 1 "cost_alone" 1 (rD K) F_cost_alone := by
  have bb : Binds K fd ["bar"] [] := F.binds fun _ _ _ _ _ _ us hl => (match us, hl with | [_], _ => rfl)
  refine ⟨f, fd, ["bar"], ?_, bb, gm, F.kp⟩
  suffices body : ∀ (cdv : Value) (A : Around) (outer : List PySem.Env) (s : Shared) (H : Hp) (E : XK) (A0 : List Addr), Room 0 (A.deeper (PyProof.Rows.envOfC "cost_alone" (defScope s_cost_alone) s.heap.objs.size f cdv)) → A.guards = some [] →
      TSs (cxOf (L2.CX P w) P w K mg base ["bar", "_", "birth", "death"] "cost_alone" (defScope s_cost_alone) f cdv A outer s H E) ⟨fun cls d _ H => E cls d H, rD K, [], H, A0⟩ (defBody s_cost_alone) G_cost_alone by
    exact fn_rule (k := 0) (G := G_cost_alone) (N := ["bar", "_", "birth", "death"]) (ps := ["bar"]) (rl := rD K) (fall := .ok .none) F sc_cost_alone (.inl ⟨rfl, rfl⟩) body
  intro cdv A outer s H E A0 hr hg
  have hN := sc_cost_alone.nd
  have hu := hr.un
  have u64 : (A.deeper (PyProof.Rows.envOfC "cost_alone" (defScope s_cost_alone) s.heap.objs.size f cdv)).units + 64 < cLine := by omega
  have u65 : (A.deeper (PyProof.Rows.envOfC "cost_alone" (defScope s_cost_alone) s.heap.objs.size f cdv)).units + 65 < cLine := by omega
  have u66 : (A.deeper (PyProof.Rows.envOfC "cost_alone" (defScope s_cost_alone) s.heap.objs.size f cdv)).units + 66 < cLine := by omega
  have tk : Takes (cxOf (L2.CX P w) P w K mg base ["bar", "_", "birth", "death"] "cost_alone" (defScope s_cost_alone) f cdv A outer s H E) (fun cls d _ H => E cls d H) := takes_of rfl rfl rfl rfl
  have hp : PassesOwn (model P w) (cxOf (L2.CX P w) P w K mg base ["bar", "_", "birth", "death"] "cost_alone" (defScope s_cost_alone) f cdv A outer s H E).A (cxOf (L2.CX P w) P w K mg base ["bar", "_", "birth", "death"] "cost_alone" (defScope s_cost_alone) f cdv A outer s H E).env (cxOf (L2.CX P w) P w K mg base ["bar", "_", "birth", "death"] "cost_alone" (defScope s_cost_alone) f cdv A outer s H E).xe := passes_of (X := cxOf (L2.CX P w) P w K mg base ["bar", "_", "birth", "death"] "cost_alone" (defScope s_cost_alone) f cdv A outer s H E) rfl
  exact ss_cons (s_asg (t_var 0) (g_tup rfl (g_cons (g_name 1 hN) (g_cons (g_name 2 hN) (g_cons (g_name 3 hN) (g_nil))))))
    (ss_cons (s_ret (t_if (b_is (TD.o (t_var 3)) (TD.o (t_none))) (t_none) (t_op back_D op_sub o_sub (TD.o (t_var 3)) (TD.o (t_var 2)))) rfl)
    (ss_nil))
abbrev s__is_within : Stmt := topS 6
theorem sc__is_within : FnScope ["price", "number"] ["price", "number"] (defScope s__is_within) := ⟨rfl, rfl, rfl, by decide +kernel, rfl, by decide +kernel, by decide +kernel⟩
set_option maxHeartbeats 400000 in
theorem ok__is_within {f : Addr} {fd : FuncData} (F : Fun K "_is_within" "_is_within" s__is_within f fd) (z : Zs mg) (gm : mg "_is_within" = some (.ref f)) : Df P w K mg base 1 "_is_within" 2 (rD K) F__is_within := by
  have bb : Binds K fd ["price", "number"] [] := F.binds fun _ _ _ _ _ _ us hl => (match us, hl with | [_, _], _ => rfl)
  refine ⟨f, fd, ["price", "number"], ?_, bb, gm, F.kp⟩
  suffices body : ∀ (cdv : Value) (A : Around) (outer : List PySem.Env) (s : Shared) (H : Hp) (E : XK) (A0 : List Addr), Room 0 (A.deeper (PyProof.Rows.envOfC "_is_within" (defScope s__is_within) s.heap.objs.size f cdv)) → A.guards = some [] →
      TSs (cxOf (L2.CX P w) P w K mg base ["price", "number"] "_is_within" (defScope s__is_within) f cdv A outer s H E) ⟨fun cls d _ H => E cls d H, rD K, [], H, A0⟩ (defBody s__is_within) G__is_within by
    exact fn_rule (k := 0) (G := G__is_within) (N := ["price", "number"]) (ps := ["price", "number"]) (rl := rD K) (fall := .ok .none) F sc__is_within (.inl ⟨rfl, rfl⟩) body
  intro cdv A outer s H E A0 hr hg
  have hN := sc__is_within.nd
  have hu := hr.un
  have u64 : (A.deeper (PyProof.Rows.envOfC "_is_within" (defScope s__is_within) s.heap.objs.size f cdv)).units + 64 < cLine := by omega
  have u65 : (A.deeper (PyProof.Rows.envOfC "_is_within" (defScope s__is_within) s.heap.objs.size f cdv)).units + 65 < cLine := by omega
  have u66 : (A.deeper (PyProof.Rows.envOfC "_is_within" (defScope s__is_within) s.heap.objs.size f cdv)).units + 66 < cLine := by omega
  have tk : Takes (cxOf (L2.CX P w) P w K mg base ["price", "number"] "_is_within" (defScope s__is_within) f cdv A outer s H E) (fun cls d _ H => E cls d H) := takes_of rfl rfl rfl rfl
  have hp : PassesOwn (model P w) (cxOf (L2.CX P w) P w K mg base ["price", "number"] "_is_within" (defScope s__is_within) f cdv A outer s H E).A (cxOf (L2.CX P w) P w K mg base ["price", "number"] "_is_within" (defScope s__is_within) f cdv A outer s H E).env (cxOf (L2.CX P w) P w K mg base ["price", "number"] "_is_within" (defScope s__is_within) f cdv A outer s H E).xe := passes_of (X := cxOf (L2.CX P w) P w K mg base ["price", "number"] "_is_within" (defScope s__is_within) f cdv A outer s H E) rfl
  exact ss_cons (s_ret (t_and (t_isnot (TD.o (t_var 0)) (TD.o (t_none))) (t_one (t_leA u64 (TD.o (t_var 0)) (TD.o (t_var 1))))) rfl)
    (ss_nil)
abbrev s_is_bound : Stmt := topS 3
theorem sc_is_bound : FnScope ["bar", "number"] ["bar", "number"] (defScope s_is_bound) := ⟨rfl, rfl, rfl, by decide +kernel, rfl, by decide +kernel, by decide +kernel⟩
set_option maxHeartbeats 400000 in
theorem ok_is_bound {f : Addr} {fd : FuncData} (F : Fun K "is_bound" "is_bound" s_is_bound f fd) (z : Zs mg) (d__is_within : Df P w K mg base 1 "_is_within" 2 (rD K) F__is_within) (d_cost_alone : Df P w K mg base 1 "cost_alone" 1 (rD K) F_cost_alone) (gm : mg "is_bound" = some (.ref f)) : Df P w K mg base 2 "is_bound" 2 (rD K) F_is_bound := by
  have bb : Binds K fd ["bar", "number"] [] := F.binds fun _ _ _ _ _ _ us hl => (match us, hl with | [_, _], _ => rfl)
  refine ⟨f, fd, ["bar", "number"], ?_, bb, gm, F.kp⟩
  suffices body : ∀ (cdv : Value) (A : Around) (outer : List PySem.Env) (s : Shared) (H : Hp) (E : XK) (A0 : List Addr), Room 1 (A.deeper (PyProof.Rows.envOfC "is_bound" (defScope s_is_bound) s.heap.objs.size f cdv)) → A.guards = some [] →
      TSs (cxOf (L2.CX P w) P w K mg base ["bar", "number"] "is_bound" (defScope s_is_bound) f cdv A outer s H E) ⟨fun cls d _ H => E cls d H, rD K, [], H, A0⟩ (defBody s_is_bound) G_is_bound by
    exact fn_rule (k := 1) (G := G_is_bound) (N := ["bar", "number"]) (ps := ["bar", "number"]) (rl := rD K) (fall := .ok .none) F sc_is_bound (.inl ⟨rfl, rfl⟩) body
  intro cdv A outer s H E A0 hr hg
  have hN := sc_is_bound.nd
  have hu := hr.un
  have u64 : (A.deeper (PyProof.Rows.envOfC "is_bound" (defScope s_is_bound) s.heap.objs.size f cdv)).units + 64 < cLine := by omega
  have u65 : (A.deeper (PyProof.Rows.envOfC "is_bound" (defScope s_is_bound) s.heap.objs.size f cdv)).units + 65 < cLine := by omega
  have u66 : (A.deeper (PyProof.Rows.envOfC "is_bound" (defScope s_is_bound) s.heap.objs.size f cdv)).units + 66 < cLine := by omega
  have tk : Takes (cxOf (L2.CX P w) P w K mg base ["bar", "number"] "is_bound" (defScope s_is_bound) f cdv A outer s H E) (fun cls d _ H => E cls d H) := takes_of rfl rfl rfl rfl
  have hp : PassesOwn (model P w) (cxOf (L2.CX P w) P w K mg base ["bar", "number"] "is_bound" (defScope s_is_bound) f cdv A outer s H E).A (cxOf (L2.CX P w) P w K mg base ["bar", "number"] "is_bound" (defScope s_is_bound) f cdv A outer s H E).env (cxOf (L2.CX P w) P w K mg base ["bar", "number"] "is_bound" (defScope s_is_bound) f cdv A outer s H E).xe := passes_of (X := cxOf (L2.CX P w) P w K mg base ["bar", "number"] "is_bound" (defScope s_is_bound) f cdv A outer s H E) rfl
  exact ss_cons (s_ret (t_not (TD.o (t_callD d__is_within hr hg (as_cons keeps_D (TD.v (t_callD d_cost_alone hr hg (as_cons keeps_D (TD.v (t_var 0)) (as_nil)) (aC_len a0_len) back_D)) (as_cons keeps_D (TD.v (t_var 1)) (as_nil))) (aC_len (aC_len a0_len)) back_D))) rfl)
    (ss_nil)
abbrev s_are_partners : Stmt := topS 4
theorem sc_are_partners : FnScope ["one", "other", "number"] ["one", "other", "number"] (defScope s_are_partners) := ⟨rfl, rfl, rfl, by decide +kernel, rfl, by decide +kernel, by decide +kernel⟩
set_option maxHeartbeats 400000 in
theorem ok_are_partners {f : Addr} {fd : FuncData} (F : Fun K "are_partners" "are_partners" s_are_partners f fd) (z : Zs mg) (d__is_within : Df P w K mg base 1 "_is_within" 2 (rD K) F__is_within) (d_cost : Df P w K mg base 1 "cost" 2 (rD K) F_cost) (gm : mg "are_partners" = some (.ref f)) : Df P w K mg base 2 "are_partners" 3 (rD K) F_are_partners := by
  have bb : Binds K fd ["one", "other", "number"] [] := F.binds fun _ _ _ _ _ _ us hl => (match us, hl with | [_, _, _], _ => rfl)
  refine ⟨f, fd, ["one", "other", "number"], ?_, bb, gm, F.kp⟩
  suffices body : ∀ (cdv : Value) (A : Around) (outer : List PySem.Env) (s : Shared) (H : Hp) (E : XK) (A0 : List Addr), Room 1 (A.deeper (PyProof.Rows.envOfC "are_partners" (defScope s_are_partners) s.heap.objs.size f cdv)) → A.guards = some [] →
      TSs (cxOf (L2.CX P w) P w K mg base ["one", "other", "number"] "are_partners" (defScope s_are_partners) f cdv A outer s H E) ⟨fun cls d _ H => E cls d H, rD K, [], H, A0⟩ (defBody s_are_partners) G_are_partners by
    exact fn_rule (k := 1) (G := G_are_partners) (N := ["one", "other", "number"]) (ps := ["one", "other", "number"]) (rl := rD K) (fall := .ok .none) F sc_are_partners (.inl ⟨rfl, rfl⟩) body
  intro cdv A outer s H E A0 hr hg
  have hN := sc_are_partners.nd
  have hu := hr.un
  have u64 : (A.deeper (PyProof.Rows.envOfC "are_partners" (defScope s_are_partners) s.heap.objs.size f cdv)).units + 64 < cLine := by omega
  have u65 : (A.deeper (PyProof.Rows.envOfC "are_partners" (defScope s_are_partners) s.heap.objs.size f cdv)).units + 65 < cLine := by omega
  have u66 : (A.deeper (PyProof.Rows.envOfC "are_partners" (defScope s_are_partners) s.heap.objs.size f cdv)).units + 66 < cLine := by omega
  have tk : Takes (cxOf (L2.CX P w) P w K mg base ["one", "other", "number"] "are_partners" (defScope s_are_partners) f cdv A outer s H E) (fun cls d _ H => E cls d H) := takes_of rfl rfl rfl rfl
  have hp : PassesOwn (model P w) (cxOf (L2.CX P w) P w K mg base ["one", "other", "number"] "are_partners" (defScope s_are_partners) f cdv A outer s H E).A (cxOf (L2.CX P w) P w K mg base ["one", "other", "number"] "are_partners" (defScope s_are_partners) f cdv A outer s H E).env (cxOf (L2.CX P w) P w K mg base ["one", "other", "number"] "are_partners" (defScope s_are_partners) f cdv A outer s H E).xe := passes_of (X := cxOf (L2.CX P w) P w K mg base ["one", "other", "number"] "are_partners" (defScope s_are_partners) f cdv A outer s H E) rfl
  exact ss_cons (s_ret (t_callD d__is_within hr hg (as_cons keeps_D (TD.v (t_callD d_cost hr hg (as_cons keeps_D (TD.v (t_var 0)) (as_cons keeps_D (TD.v (t_var 1)) (as_nil))) (aC_len (aC_len a0_len)) back_D)) (as_cons keeps_D (TD.v (t_var 2)) (as_nil))) (aC_len (aC_len a0_len)) back_D) rfl)
    (ss_nil)
abbrev s_partners : Stmt := topS 5
theorem sc_partners : FnScope ["bar", "others", "number", "index", "other"] ["bar", "others", "number"] (defScope s_partners) := ⟨rfl, rfl, rfl, by decide +kernel, rfl, by decide +kernel, by decide +kernel⟩
set_option maxHeartbeats 400000 in
theorem ok_partners {f : Addr} {fd : FuncData} (F : Fun K "partners" "partners" s_partners f fd) (z : Zs mg) (d_are_partners : Df P w K mg base 2 "are_partners" 3 (rD K) F_are_partners) (gm : mg "partners" = some (.ref f)) : Df P w K mg base 3 "partners" 3 (rF K) F_partners := by
  have bb : Binds K fd ["bar", "others", "number"] [] := F.binds fun _ _ _ _ _ _ us hl => (match us, hl with | [_, _, _], _ => rfl)
  refine ⟨f, fd, ["bar", "others", "number"], ?_, bb, gm, F.kp⟩
  suffices body : ∀ (cdv : Value) (A : Around) (outer : List PySem.Env) (s : Shared) (H : Hp) (E : XK) (A0 : List Addr), Room 2 (A.deeper (PyProof.Rows.envOfC "partners" (defScope s_partners) s.heap.objs.size f cdv)) → A.guards = some [] →
      TSs (cxOf (L2.CX P w) P w K mg base ["bar", "others", "number", "index", "other"] "partners" (defScope s_partners) f cdv A outer s H E) ⟨fun cls d _ H => E cls d H, rF K, [], H, A0⟩ (defBody s_partners) G_partners by
    exact fn_rule (k := 2) (G := G_partners) (N := ["bar", "others", "number", "index", "other"]) (ps := ["bar", "others", "number"]) (rl := rF K) (fall := .no) F sc_partners (.inr rfl) body
  intro cdv A outer s H E A0 hr hg
  have hN := sc_partners.nd
  have hu := hr.un
  have u64 : (A.deeper (PyProof.Rows.envOfC "partners" (defScope s_partners) s.heap.objs.size f cdv)).units + 64 < cLine := by omega
  have u65 : (A.deeper (PyProof.Rows.envOfC "partners" (defScope s_partners) s.heap.objs.size f cdv)).units + 65 < cLine := by omega
  have u66 : (A.deeper (PyProof.Rows.envOfC "partners" (defScope s_partners) s.heap.objs.size f cdv)).units + 66 < cLine := by omega
  have tk : Takes (cxOf (L2.CX P w) P w K mg base ["bar", "others", "number", "index", "other"] "partners" (defScope s_partners) f cdv A outer s H E) (fun cls d _ H => E cls d H) := takes_of rfl rfl rfl rfl
  have hp : PassesOwn (model P w) (cxOf (L2.CX P w) P w K mg base ["bar", "others", "number", "index", "other"] "partners" (defScope s_partners) f cdv A outer s H E).A (cxOf (L2.CX P w) P w K mg base ["bar", "others", "number", "index", "other"] "partners" (defScope s_partners) f cdv A outer s H E).env (cxOf (L2.CX P w) P w K mg base ["bar", "others", "number", "index", "other"] "partners" (defScope s_partners) f cdv A outer s H E).xe := passes_of (X := cxOf (L2.CX P w) P w K mg base ["bar", "others", "number", "index", "other"] "partners" (defScope s_partners) f cdv A outer s H E) rfl
  exact ss_cons (s_retF (t_lc rfl hN (i_enum z.b_enumerate (as_cons keeps_D (TD.v (t_var 1)) (as_nil))) (blkOk_by (N := ["bar", "others", "number", "index", "other"]) (sc := defScope s_partners) (own := [("index", 3), ("other", 4)]) (by first | decide +kernel | rfl | with_unfolding_all rfl)) (fun _ _ _ _ _ => g_tup rfl (g_cons (g_name 3 hN) (g_cons (g_name 4 hN) (g_nil)))) (fun _ _ _ _ _ => cs_one (b_val (TD.o (t_callD d_are_partners hr hg (as_cons keeps_D (TD.v (t_var 0)) (as_cons keeps_D (TD.v (t_var 4)) (as_cons keeps_D (TD.v (t_var 2)) (as_nil)))) (aC_len (aC_len (aC_len a0_len))) back_D)))) (fun _ _ _ _ _ => t_var 3)) rfl)
    (ss_nil)
abbrev s__law_draw : Stmt := topS 8
theorem sc__law_draw : FnScope ["script", "k", "below", "cell", "turn", "number"] ["script", "k", "below"] (defScope s__law_draw) := ⟨rfl, rfl, rfl, by decide +kernel, rfl, by decide +kernel, by decide +kernel⟩
set_option maxHeartbeats 400000 in
theorem ok__law_draw {f : Addr} {fd : FuncData} (F : Fun K "_law_draw" "_law_draw" s__law_draw f fd) (z : Zs mg) (gm : mg "_law_draw" = some (.ref f)) : Df P w K mg base 1 "_law_draw" 3 (rD K) F__law_draw := by
  have bb : Binds K fd ["script", "k", "below"] [] := F.binds fun _ _ _ _ _ _ us hl => (match us, hl with | [_, _, _], _ => rfl)
  refine ⟨f, fd, ["script", "k", "below"], ?_, bb, gm, F.kp⟩
  suffices body : ∀ (cdv : Value) (A : Around) (outer : List PySem.Env) (s : Shared) (H : Hp) (E : XK) (A0 : List Addr), Room 0 (A.deeper (PyProof.Rows.envOfC "_law_draw" (defScope s__law_draw) s.heap.objs.size f cdv)) → A.guards = some [] →
      TSs (cxOf (L2.CX P w) P w K mg base ["script", "k", "below", "cell", "turn", "number"] "_law_draw" (defScope s__law_draw) f cdv A outer s H E) ⟨fun cls d _ H => E cls d H, rD K, [], H, A0⟩ (defBody s__law_draw) G__law_draw by
    exact fn_rule (k := 0) (G := G__law_draw) (N := ["script", "k", "below", "cell", "turn", "number"]) (ps := ["script", "k", "below"]) (rl := rD K) (fall := .ok .none) F sc__law_draw (.inl ⟨rfl, rfl⟩) body
  intro cdv A outer s H E A0 hr hg
  have hN := sc__law_draw.nd
  have hu := hr.un
  have u64 : (A.deeper (PyProof.Rows.envOfC "_law_draw" (defScope s__law_draw) s.heap.objs.size f cdv)).units + 64 < cLine := by omega
  have u65 : (A.deeper (PyProof.Rows.envOfC "_law_draw" (defScope s__law_draw) s.heap.objs.size f cdv)).units + 65 < cLine := by omega
  have u66 : (A.deeper (PyProof.Rows.envOfC "_law_draw" (defScope s__law_draw) s.heap.objs.size f cdv)).units + 66 < cLine := by omega
  have tk : Takes (cxOf (L2.CX P w) P w K mg base ["script", "k", "below", "cell", "turn", "number"] "_law_draw" (defScope s__law_draw) f cdv A outer s H E) (fun cls d _ H => E cls d H) := takes_of rfl rfl rfl rfl
  have hp : PassesOwn (model P w) (cxOf (L2.CX P w) P w K mg base ["script", "k", "below", "cell", "turn", "number"] "_law_draw" (defScope s__law_draw) f cdv A outer s H E).A (cxOf (L2.CX P w) P w K mg base ["script", "k", "below", "cell", "turn", "number"] "_law_draw" (defScope s__law_draw) f cdv A outer s H E).env (cxOf (L2.CX P w) P w K mg base ["script", "k", "below", "cell", "turn", "number"] "_law_draw" (defScope s__law_draw) f cdv A outer s H E).xe := passes_of (X := cxOf (L2.CX P w) P w K mg base ["script", "k", "below", "cell", "turn", "number"] "_law_draw" (defScope s__law_draw) f cdv A outer s H E) rfl
  exact ss_cons (s_if (b_eq u64 (TD.o (t_len z.b_len (as_cons keeps_O (TO.v (TD.o (t_var 0))) (as_nil)))) (TD.o (t_int))) (ss_cons (s_ret (t_int) rfl)
    (ss_nil)) (ss_nil))
    (ss_cons (s_set 3 hN (t_intc z.b_int (as_cons keeps_O (TO.v (TD.o (t_ix (TD.o (t_var 0)) (TD.o (t_op back_D op_mod o_mod (TD.o (t_intc z.b_int (as_cons keeps_O (TO.v (TD.o (t_op back_D op_fdiv o_fdiv (TD.o (t_var 1)) (TD.o (t_int))))) (as_nil)))) (TD.o (t_len z.b_len (as_cons keeps_O (TO.v (TD.o (t_var 0))) (as_nil))))))))) (as_nil))))
    (ss_cons (s_if (b_w (w_and (b_geA u64 (TD.o (t_var 3)) (TD.o (t_op back_D op_pow o_pow (TD.o (t_int)) (TD.o (t_int))))) (w_and1 (b_ltA u64 (TD.o (t_op back_D op_fdiv o_fdiv (TD.o (t_var 1)) (TD.o (t_int)))) (TD.o (t_len z.b_len (as_cons keeps_O (TO.v (TD.o (t_var 0))) (as_nil)))))))) (ss_cons (s_for hp rfl (i_range1 (by rfl) z.b_range (as_cons keeps_O (TO.v (TD.o (t_op back_D op_mod o_mod (TD.o (t_intc z.b_int (as_cons keeps_O (TO.v (TD.o (t_var 1))) (as_nil)))) (TD.o (t_int))))) (as_nil))) (g_name 4 hN) (ss_cons (s_set 3 hN (t_op back_D op_fdiv o_fdiv (TD.o (t_var 3)) (TD.o (t_int))))
    (ss_nil)))
    (ss_cons (s_ret (t_op back_D op_mod o_mod (TD.o (t_op back_D op_mod o_mod (TD.o (t_intc z.b_int (as_cons keeps_O (TO.v (TD.o (t_var 3))) (as_nil)))) (TD.o (t_int)))) (TD.o (t_var 2))) rfl)
    (ss_nil))) (ss_nil))
    (ss_cons (s_set 5 hN (t_op back_D op_mod o_mod (TD.o (t_intc z.b_int (as_cons keeps_O (TO.v (TD.o (t_op back_D op_addA o_add (TD.o (t_op back_D op_addA o_add (TD.o (t_op back_D op_mul o_mul (TD.o (t_var 3)) (TD.o (t_int)))) (TD.o (t_op back_D op_mul o_mul (TD.o (t_var 1)) (TD.o (t_int)))))) (TD.o (t_int))))) (as_nil)))) (TD.o (t_int))))
    (ss_cons (s_set 5 hN (t_op back_D op_mod o_mod (TD.o (t_intc z.b_int (as_cons keeps_O (TO.v (TD.o (t_op back_D op_addA o_add (TD.o (t_op back_D op_addA o_add (TD.o (t_op back_D op_mul o_mul (TD.o (t_var 5)) (TD.o (t_var 5)))) (TD.o (t_op back_D op_mul o_mul (TD.o (t_int)) (TD.o (t_var 1)))))) (TD.o (t_int))))) (as_nil)))) (TD.o (t_int))))
    (ss_cons (s_set 5 hN (t_op back_D op_mod o_mod (TD.o (t_intc z.b_int (as_cons keeps_O (TO.v (TD.o (t_op back_D op_addA o_add (TD.o (t_op back_D op_addA o_add (TD.o (t_op back_D op_mul o_mul (TD.o (t_var 5)) (TD.o (t_var 5)))) (TD.o (t_op back_D op_mul o_mul (TD.o (t_int)) (TD.o (t_var 1)))))) (TD.o (t_var 3))))) (as_nil)))) (TD.o (t_int))))
    (ss_cons (s_ret (t_op back_D op_mod o_mod (TD.o (t_op back_D op_fdiv o_fdiv (TD.o (t_var 5)) (TD.o (t_int)))) (TD.o (t_var 2))) rfl)
    (ss_nil)))))))
abbrev s__law_bar : Stmt := topS 9
theorem sc__law_bar : FnScope ["script", "k", "wide", "dimension", "birth", "death"] ["script", "k", "wide"] (defScope s__law_bar) := ⟨rfl, rfl, rfl, by decide +kernel, rfl, by decide +kernel, by decide +kernel⟩
set_option maxHeartbeats 400000 in
theorem ok__law_bar {f : Addr} {fd : FuncData} (F : Fun K "_law_bar" "_law_bar" s__law_bar f fd) (z : Zs mg) (d__law_draw : Df P w K mg base 1 "_law_draw" 3 (rD K) F__law_draw) (gm : mg "_law_bar" = some (.ref f)) : Df P w K mg base 2 "_law_bar" 3 (rD K) F__law_bar := by
  have bb : Binds K fd ["script", "k", "wide"] [] := F.binds fun _ _ _ _ _ _ us hl => (match us, hl with | [_, _, _], _ => rfl)
  refine ⟨f, fd, ["script", "k", "wide"], ?_, bb, gm, F.kp⟩
  suffices body : ∀ (cdv : Value) (A : Around) (outer : List PySem.Env) (s : Shared) (H : Hp) (E : XK) (A0 : List Addr), Room 1 (A.deeper (PyProof.Rows.envOfC "_law_bar" (defScope s__law_bar) s.heap.objs.size f cdv)) → A.guards = some [] →
      TSs (cxOf (L2.CX P w) P w K mg base ["script", "k", "wide", "dimension", "birth", "death"] "_law_bar" (defScope s__law_bar) f cdv A outer s H E) ⟨fun cls d _ H => E cls d H, rD K, [], H, A0⟩ (defBody s__law_bar) G__law_bar by
    exact fn_rule (k := 1) (G := G__law_bar) (N := ["script", "k", "wide", "dimension", "birth", "death"]) (ps := ["script", "k", "wide"]) (rl := rD K) (fall := .ok .none) F sc__law_bar (.inl ⟨rfl, rfl⟩) body
  intro cdv A outer s H E A0 hr hg
  have hN := sc__law_bar.nd
  have hu := hr.un
  have u64 : (A.deeper (PyProof.Rows.envOfC "_law_bar" (defScope s__law_bar) s.heap.objs.size f cdv)).units + 64 < cLine := by omega
  have u65 : (A.deeper (PyProof.Rows.envOfC "_law_bar" (defScope s__law_bar) s.heap.objs.size f cdv)).units + 65 < cLine := by omega
  have u66 : (A.deeper (PyProof.Rows.envOfC "_law_bar" (defScope s__law_bar) s.heap.objs.size f cdv)).units + 66 < cLine := by omega
  have tk : Takes (cxOf (L2.CX P w) P w K mg base ["script", "k", "wide", "dimension", "birth", "death"] "_law_bar" (defScope s__law_bar) f cdv A outer s H E) (fun cls d _ H => E cls d H) := takes_of rfl rfl rfl rfl
  have hp : PassesOwn (model P w) (cxOf (L2.CX P w) P w K mg base ["script", "k", "wide", "dimension", "birth", "death"] "_law_bar" (defScope s__law_bar) f cdv A outer s H E).A (cxOf (L2.CX P w) P w K mg base ["script", "k", "wide", "dimension", "birth", "death"] "_law_bar" (defScope s__law_bar) f cdv A outer s H E).env (cxOf (L2.CX P w) P w K mg base ["script", "k", "wide", "dimension", "birth", "death"] "_law_bar" (defScope s__law_bar) f cdv A outer s H E).xe := passes_of (X := cxOf (L2.CX P w) P w K mg base ["script", "k", "wide", "dimension", "birth", "death"] "_law_bar" (defScope s__law_bar) f cdv A outer s H E) rfl
  exact ss_cons (s_set 3 hN (t_ix (TD.o (t_tup (as_cons keeps_D (TD.v (t_int)) (as_cons keeps_D (TD.v (t_int)) (as_cons keeps_D (TD.v (t_int)) (as_cons keeps_D (TD.v (t_int)) (as_cons keeps_D (TD.v (t_int)) (as_cons keeps_D (TD.v (t_int)) (as_nil))))))))) (TD.o (t_callD d__law_draw hr hg (as_cons keeps_D (TD.v (t_var 0)) (as_cons keeps_D (TD.v (t_var 1)) (as_cons keeps_D (TD.v (t_int)) (as_nil)))) (aC_len (aC_len (aC_len a0_len))) back_D))))
    (ss_cons (s_set 4 hN (t_op back_D op_sub o_sub (TD.o (t_callD d__law_draw hr hg (as_cons keeps_D (TD.v (t_var 0)) (as_cons keeps_D (TD.v (t_op back_D op_addA o_add (TD.o (t_var 1)) (TD.o (t_int)))) (as_cons keeps_D (TD.v (t_var 2)) (as_nil)))) (aC_len (aC_len (aC_len a0_len))) back_D)) (TD.o (t_op back_D op_fdiv o_fdiv (TD.o (t_var 2)) (TD.o (t_int))))))
    (ss_cons (s_set 5 hN (t_min rfl z.b_min (as_cons keeps_O (TO.v (TD.o (t_int))) (as_cons keeps_O (TO.v (TD.o (t_op back_D op_addA o_add (TD.o (t_op back_D op_addA o_add (TD.o (t_var 4)) (TD.o (t_int)))) (TD.o (t_callD d__law_draw hr hg (as_cons keeps_D (TD.v (t_var 0)) (as_cons keeps_D (TD.v (t_op back_D op_addA o_add (TD.o (t_var 1)) (TD.o (t_int)))) (as_cons keeps_D (TD.v (t_var 2)) (as_nil)))) (aC_len (aC_len (aC_len a0_len))) back_D))))) (as_nil)))))
    (ss_cons (s_if (b_w (w_or (b_leA u64 (TD.o (t_var 5)) (TD.o (t_var 4))) (w_or1 (b_eq u64 (TD.o (t_callD d__law_draw hr hg (as_cons keeps_D (TD.v (t_var 0)) (as_cons keeps_D (TD.v (t_op back_D op_addA o_add (TD.o (t_var 1)) (TD.o (t_int)))) (as_cons keeps_D (TD.v (t_int)) (as_nil)))) (aC_len (aC_len (aC_len a0_len))) back_D)) (TD.o (t_int)))))) (ss_cons (s_ret (t_tup (as_cons keeps_D (TD.v (t_var 3)) (as_cons keeps_D (TD.v (t_var 4)) (as_cons keeps_D (TD.v (t_none)) (as_nil))))) rfl)
    (ss_nil)) (ss_nil))
    (ss_cons (s_ret (t_tup (as_cons keeps_D (TD.v (t_var 3)) (as_cons keeps_D (TD.v (t_var 4)) (as_cons keeps_D (TD.v (t_var 5)) (as_nil))))) rfl)
    (ss_nil)))))
abbrev s__law_near : Stmt := topS 10
theorem sc__law_near : FnScope ["script", "k", "bar", "birth"] ["script", "k", "bar"] (defScope s__law_near) := ⟨rfl, rfl, rfl, by decide +kernel, rfl, by decide +kernel, by decide +kernel⟩
set_option maxHeartbeats 400000 in
theorem ok__law_near {f : Addr} {fd : FuncData} (F : Fun K "_law_near" "_law_near" s__law_near f fd) (z : Zs mg) (d__law_draw : Df P w K mg base 1 "_law_draw" 3 (rD K) F__law_draw) (gm : mg "_law_near" = some (.ref f)) : Df P w K mg base 2 "_law_near" 3 (rD K) F__law_near := by
  have bb : Binds K fd ["script", "k", "bar"] [] := F.binds fun _ _ _ _ _ _ us hl => (match us, hl with | [_, _, _], _ => rfl)
  refine ⟨f, fd, ["script", "k", "bar"], ?_, bb, gm, F.kp⟩
  suffices body : ∀ (cdv : Value) (A : Around) (outer : List PySem.Env) (s : Shared) (H : Hp) (E : XK) (A0 : List Addr), Room 1 (A.deeper (PyProof.Rows.envOfC "_law_near" (defScope s__law_near) s.heap.objs.size f cdv)) → A.guards = some [] →
      TSs (cxOf (L2.CX P w) P w K mg base ["script", "k", "bar", "birth"] "_law_near" (defScope s__law_near) f cdv A outer s H E) ⟨fun cls d _ H => E cls d H, rD K, [], H, A0⟩ (defBody s__law_near) G__law_near by
    exact fn_rule (k := 1) (G := G__law_near) (N := ["script", "k", "bar", "birth"]) (ps := ["script", "k", "bar"]) (rl := rD K) (fall := .ok .none) F sc__law_near (.inl ⟨rfl, rfl⟩) body
  intro cdv A outer s H E A0 hr hg
  have hN := sc__law_near.nd
  have hu := hr.un
  have u64 : (A.deeper (PyProof.Rows.envOfC "_law_near" (defScope s__law_near) s.heap.objs.size f cdv)).units + 64 < cLine := by omega
  have u65 : (A.deeper (PyProof.Rows.envOfC "_law_near" (defScope s__law_near) s.heap.objs.size f cdv)).units + 65 < cLine := by omega
  have u66 : (A.deeper (PyProof.Rows.envOfC "_law_near" (defScope s__law_near) s.heap.objs.size f cdv)).units + 66 < cLine := by omega
  have tk : Takes (cxOf (L2.CX P w) P w K mg base ["script", "k", "bar", "birth"] "_law_near" (defScope s__law_near) f cdv A outer s H E) (fun cls d _ H => E cls d H) := takes_of rfl rfl rfl rfl
  have hp : PassesOwn (model P w) (cxOf (L2.CX P w) P w K mg base ["script", "k", "bar", "birth"] "_law_near" (defScope s__law_near) f cdv A outer s H E).A (cxOf (L2.CX P w) P w K mg base ["script", "k", "bar", "birth"] "_law_near" (defScope s__law_near) f cdv A outer s H E).env (cxOf (L2.CX P w) P w K mg base ["script", "k", "bar", "birth"] "_law_near" (defScope s__law_near) f cdv A outer s H E).xe := passes_of (X := cxOf (L2.CX P w) P w K mg base ["script", "k", "bar", "birth"] "_law_near" (defScope s__law_near) f cdv A outer s H E) rfl
  exact ss_cons (s_set 3 hN (t_max rfl z.b_max (as_cons keeps_O (TO.v (TD.o (t_neg (TD.o (t_int))))) (as_cons keeps_O (TO.v (TD.o (t_min rfl z.b_min (as_cons keeps_O (TO.v (TD.o (t_int))) (as_cons keeps_O (TO.v (TD.o (t_op back_D op_sub o_sub (TD.o (t_op back_D op_addA o_add (TD.o (t_ix (TD.o (t_var 2)) (TD.o (t_int)))) (TD.o (t_callD d__law_draw hr hg (as_cons keeps_D (TD.v (t_var 0)) (as_cons keeps_D (TD.v (t_var 1)) (as_cons keeps_D (TD.v (t_int)) (as_nil)))) (aC_len (aC_len (aC_len a0_len))) back_D)))) (TD.o (t_int))))) (as_nil)))))) (as_nil)))))
    (ss_cons (s_if (b_is (TD.o (t_ix (TD.o (t_var 2)) (TD.o (t_int)))) (TD.o (t_none))) (ss_cons (s_ret (t_tup (as_cons keeps_D (TD.v (t_ix (TD.o (t_var 2)) (TD.o (t_int)))) (as_cons keeps_D (TD.v (t_var 3)) (as_cons keeps_D (TD.v (t_none)) (as_nil))))) rfl)
    (ss_nil)) (ss_nil))
    (ss_cons (s_ret (t_tup (as_cons keeps_D (TD.v (t_ix (TD.o (t_var 2)) (TD.o (t_int)))) (as_cons keeps_D (TD.v (t_var 3)) (as_cons keeps_D (TD.v (t_min rfl z.b_min (as_cons keeps_O (TO.v (TD.o (t_int))) (as_cons keeps_O (TO.v (TD.o (t_max rfl z.b_max (as_cons keeps_O (TO.v (TD.o (t_op back_D op_addA o_add (TD.o (t_var 3)) (TD.o (t_int))))) (as_cons keeps_O (TO.v (TD.o (t_op back_D op_sub o_sub (TD.o (t_op back_D op_addA o_add (TD.o (t_ix (TD.o (t_var 2)) (TD.o (t_int)))) (TD.o (t_callD d__law_draw hr hg (as_cons keeps_D (TD.v (t_var 0)) (as_cons keeps_D (TD.v (t_op back_D op_addA o_add (TD.o (t_var 1)) (TD.o (t_int)))) (as_cons keeps_D (TD.v (t_int)) (as_nil)))) (aC_len (aC_len (aC_len a0_len))) back_D)))) (TD.o (t_int))))) (as_nil)))))) (as_nil))))) (as_nil))))) rfl)
    (ss_nil)))
abbrev s__law_lists : Stmt := topS 11
theorem sc__law_lists : FnScope ["script", "k", "most", "wide", "j", "first", "second", "kind", "mixed"] ["script", "k", "most"] (defScope s__law_lists) := ⟨rfl, rfl, rfl, by decide +kernel, rfl, by decide +kernel, by decide +kernel⟩
set_option maxHeartbeats 400000 in
theorem ok__law_lists {f : Addr} {fd : FuncData} (F : Fun K "_law_lists" "_law_lists" s__law_lists f fd) (z : Zs mg) (d__law_bar : Df P w K mg base 2 "_law_bar" 3 (rD K) F__law_bar) (d__law_draw : Df P w K mg base 1 "_law_draw" 3 (rD K) F__law_draw) (d__law_near : Df P w K mg base 2 "_law_near" 3 (rD K) F__law_near) (gm : mg "_law_lists" = some (.ref f)) : Df P w K mg base 3 "_law_lists" 3 (rD K) F__law_lists := by
  have bb : Binds K fd ["script", "k", "most"] [] := F.binds fun _ _ _ _ _ _ us hl => (match us, hl with | [_, _, _], _ => rfl)
  refine ⟨f, fd, ["script", "k", "most"], ?_, bb, gm, F.kp⟩
  suffices body : ∀ (cdv : Value) (A : Around) (outer : List PySem.Env) (s : Shared) (H : Hp) (E : XK) (A0 : List Addr), Room 2 (A.deeper (PyProof.Rows.envOfC "_law_lists" (defScope s__law_lists) s.heap.objs.size f cdv)) → A.guards = some [] →
      TSs (cxOf (L2.CX P w) P w K mg base ["script", "k", "most", "wide", "j", "first", "second", "kind", "mixed"] "_law_lists" (defScope s__law_lists) f cdv A outer s H E) ⟨fun cls d _ H => E cls d H, rD K, [], H, A0⟩ (defBody s__law_lists) G__law_lists by
    exact fn_rule (k := 2) (G := G__law_lists) (N := ["script", "k", "most", "wide", "j", "first", "second", "kind", "mixed"]) (ps := ["script", "k", "most"]) (rl := rD K) (fall := .ok .none) F sc__law_lists (.inl ⟨rfl, rfl⟩) body
  intro cdv A outer s H E A0 hr hg
  have hN := sc__law_lists.nd
  have hu := hr.un
  have u64 : (A.deeper (PyProof.Rows.envOfC "_law_lists" (defScope s__law_lists) s.heap.objs.size f cdv)).units + 64 < cLine := by omega
  have u65 : (A.deeper (PyProof.Rows.envOfC "_law_lists" (defScope s__law_lists) s.heap.objs.size f cdv)).units + 65 < cLine := by omega
  have u66 : (A.deeper (PyProof.Rows.envOfC "_law_lists" (defScope s__law_lists) s.heap.objs.size f cdv)).units + 66 < cLine := by omega
  have tk : Takes (cxOf (L2.CX P w) P w K mg base ["script", "k", "most", "wide", "j", "first", "second", "kind", "mixed"] "_law_lists" (defScope s__law_lists) f cdv A outer s H E) (fun cls d _ H => E cls d H) := takes_of rfl rfl rfl rfl
  have hp : PassesOwn (model P w) (cxOf (L2.CX P w) P w K mg base ["script", "k", "most", "wide", "j", "first", "second", "kind", "mixed"] "_law_lists" (defScope s__law_lists) f cdv A outer s H E).A (cxOf (L2.CX P w) P w K mg base ["script", "k", "most", "wide", "j", "first", "second", "kind", "mixed"] "_law_lists" (defScope s__law_lists) f cdv A outer s H E).env (cxOf (L2.CX P w) P w K mg base ["script", "k", "most", "wide", "j", "first", "second", "kind", "mixed"] "_law_lists" (defScope s__law_lists) f cdv A outer s H E).xe := passes_of (X := cxOf (L2.CX P w) P w K mg base ["script", "k", "most", "wide", "j", "first", "second", "kind", "mixed"] "_law_lists" (defScope s__law_lists) f cdv A outer s H E) rfl
  exact ss_cons (s_set 3 hN (t_ix (TD.o (t_tup (as_cons keeps_D (TD.v (t_int)) (as_cons keeps_D (TD.v (t_int)) (as_cons keeps_D (TD.v (t_int)) (as_cons keeps_D (TD.v (t_int)) (as_cons keeps_D (TD.v (t_int)) (as_nil)))))))) (TD.o (t_callD d__law_draw hr hg (as_cons keeps_D (TD.v (t_var 0)) (as_cons keeps_D (TD.v (t_var 1)) (as_cons keeps_D (TD.v (t_int)) (as_nil)))) (aC_len (aC_len (aC_len a0_len))) back_D))))
    (ss_cons (s_setLc 5 rfl hN (sw_true rfl rfl rfl (by decide +kernel)) (i_range1 (by rfl) z.b_range (as_cons keeps_O (TO.v (TD.o (t_callD d__law_draw hr hg (as_cons keeps_D (TD.v (t_var 0)) (as_cons keeps_D (TD.v (t_op back_D op_addA o_add (TD.o (t_var 1)) (TD.o (t_int)))) (as_cons keeps_D (TD.v (t_op back_D op_addA o_add (TD.o (t_var 2)) (TD.o (t_int)))) (as_nil)))) (aC_len (aC_len (aC_len a0_len))) back_D))) (as_nil))) (blkOk_by (N := ["script", "k", "most", "wide", "j", "first", "second", "kind", "mixed"]) (sc := defScope s__law_lists) (own := [("j", 4)]) (by first | decide +kernel | rfl | with_unfolding_all rfl)) (fun _ _ _ _ _ => g_name 4 hN) (fun _ _ _ _ _ => cs_nil) (fun _ _ _ _ _ => t_callD d__law_bar hr hg (as_cons keeps_D (TD.v (t_var 0)) (as_cons keeps_D (TD.v (t_op back_D op_addA o_add (TD.o (t_op back_D op_addA o_add (TD.o (t_var 1)) (TD.o (t_int)))) (TD.o (t_op back_D op_mul o_mul (TD.o (t_int)) (TD.o (t_var 4)))))) (as_cons keeps_D (TD.v (t_var 3)) (as_nil)))) (aC_len (aC_len (aC_len a0_len))) back_D))
    (ss_cons (s_own 6 hN (t_lst (as_nil)))
    (ss_cons (s_for hp rfl (i_range1 (by rfl) z.b_range (as_cons keeps_O (TO.v (TD.o (t_len z.b_len (as_cons keeps_O (TO.v (TD.o (t_var 5))) (as_nil))))) (as_nil))) (g_name 4 hN) (ss_cons (s_set 7 hN (t_callD d__law_draw hr hg (as_cons keeps_D (TD.v (t_var 0)) (as_cons keeps_D (TD.v (t_op back_D op_addA o_add (TD.o (t_op back_D op_addA o_add (TD.o (t_var 1)) (TD.o (t_int)))) (TD.o (t_op back_D op_mul o_mul (TD.o (t_int)) (TD.o (t_var 4)))))) (as_cons keeps_D (TD.v (t_int)) (as_nil)))) (aC_len (aC_len (aC_len a0_len))) back_D))
    (ss_cons (s_if (b_gtA u64 (TD.o (t_var 7)) (TD.o (t_int))) (ss_cons (s_app 6 (t_callD d__law_near hr hg (as_cons keeps_D (TD.v (t_var 0)) (as_cons keeps_D (TD.v (t_op back_D op_addA o_add (TD.o (t_op back_D op_addA o_add (TD.o (t_var 1)) (TD.o (t_int)))) (TD.o (t_op back_D op_mul o_mul (TD.o (t_int)) (TD.o (t_var 4)))))) (as_cons keeps_D (TD.v (t_ix (TD.o (t_var 5)) (TD.o (t_var 4)))) (as_nil)))) (aC_len (aC_len (aC_len a0_len))) back_D))
    (ss_nil)) (ss_cons (s_if (b_w (w_and (b_eq u64 (TD.o (t_var 7)) (TD.o (t_int))) (w_and1 (b_is (TD.o (t_ix (TD.o (t_ix (TD.o (t_var 5)) (TD.o (t_var 4)))) (TD.o (t_int)))) (TD.o (t_none)))))) (ss_cons (s_app 6 (t_ix (TD.o (t_var 5)) (TD.o (t_var 4))))
    (ss_nil)) (ss_nil))
    (ss_nil)))
    (ss_nil))))
    (ss_cons (s_for hp rfl (i_range1 (by rfl) z.b_range (as_cons keeps_O (TO.v (TD.o (t_callD d__law_draw hr hg (as_cons keeps_D (TD.v (t_var 0)) (as_cons keeps_D (TD.v (t_op back_D op_addA o_add (TD.o (t_var 1)) (TD.o (t_int)))) (as_cons keeps_D (TD.v (t_int)) (as_nil)))) (aC_len (aC_len (aC_len a0_len))) back_D))) (as_nil))) (g_name 4 hN) (ss_cons (s_app 6 (t_callD d__law_bar hr hg (as_cons keeps_D (TD.v (t_var 0)) (as_cons keeps_D (TD.v (t_op back_D op_addA o_add (TD.o (t_op back_D op_addA o_add (TD.o (t_var 1)) (TD.o (t_int)))) (TD.o (t_op back_D op_mul o_mul (TD.o (t_int)) (TD.o (t_var 4)))))) (as_cons keeps_D (TD.v (t_var 3)) (as_nil)))) (aC_len (aC_len (aC_len a0_len))) back_D))
    (ss_nil)))
    (ss_frz 6 (ss_cons (s_own 8 hN (t_lst (as_nil)))
    (ss_cons (s_for hp rfl (i_range1 (by rfl) z.b_range (as_cons keeps_O (TO.v (TD.o (t_len z.b_len (as_cons keeps_O (TO.v (TD.o (t_var 6))) (as_nil))))) (as_nil))) (g_name 4 hN) (ss_cons (xs_ins 8 (xa_cons (x_up (W := W0) (t_callD d__law_draw hr hg (as_cons keeps_D (TD.v (t_var 0)) (as_cons keeps_D (TD.v (t_op back_D op_addA o_add (TD.o (t_op back_D op_addA o_add (TD.o (t_var 1)) (TD.o (t_int)))) (TD.o (t_var 4)))) (as_cons keeps_D (TD.v (t_op back_D op_addA o_add (TD.o (t_var 4)) (TD.o (t_int)))) (as_nil)))) (aC_len (aC_len (aC_len a0_len))) back_D)) (xa_cons (x_up (W := W0) (t_ix (TD.o (t_var 6)) (TD.o (t_var 4)))) (xa_nil))))
    (ss_nil)))
    (ss_frz 8 (ss_cons (s_ret (t_tup (as_cons keeps_D (TD.v (t_var 5)) (as_cons keeps_D (TD.v (t_var 8)) (as_nil)))) rfl)
    (ss_nil))))))))))
abbrev s__law_cost : Stmt := topS 12
theorem sc__law_cost : FnScope ["one", "other"] ["one", "other"] (defScope s__law_cost) := ⟨rfl, rfl, rfl, by decide +kernel, rfl, by decide +kernel, by decide +kernel⟩
set_option maxHeartbeats 400000 in
theorem ok__law_cost {f : Addr} {fd : FuncData} (F : Fun K "_law_cost" "_law_cost" s__law_cost f fd) (z : Zs mg) (gm : mg "_law_cost" = some (.ref f)) : Df P w K mg base 1 "_law_cost" 2 (rD K) F__law_cost := by
  have bb : Binds K fd ["one", "other"] [] := F.binds fun _ _ _ _ _ _ us hl => (match us, hl with | [_, _], _ => rfl)
  refine ⟨f, fd, ["one", "other"], ?_, bb, gm, F.kp⟩
  suffices body : ∀ (cdv : Value) (A : Around) (outer : List PySem.Env) (s : Shared) (H : Hp) (E : XK) (A0 : List Addr), Room 0 (A.deeper (PyProof.Rows.envOfC "_law_cost" (defScope s__law_cost) s.heap.objs.size f cdv)) → A.guards = some [] →
      TSs (cxOf (L2.CX P w) P w K mg base ["one", "other"] "_law_cost" (defScope s__law_cost) f cdv A outer s H E) ⟨fun cls d _ H => E cls d H, rD K, [], H, A0⟩ (defBody s__law_cost) G__law_cost by
    exact fn_rule (k := 0) (G := G__law_cost) (N := ["one", "other"]) (ps := ["one", "other"]) (rl := rD K) (fall := .ok .none) F sc__law_cost (.inl ⟨rfl, rfl⟩) body
  intro cdv A outer s H E A0 hr hg
  have hN := sc__law_cost.nd
  have hu := hr.un
  have u64 : (A.deeper (PyProof.Rows.envOfC "_law_cost" (defScope s__law_cost) s.heap.objs.size f cdv)).units + 64 < cLine := by omega
  have u65 : (A.deeper (PyProof.Rows.envOfC "_law_cost" (defScope s__law_cost) s.heap.objs.size f cdv)).units + 65 < cLine := by omega
  have u66 : (A.deeper (PyProof.Rows.envOfC "_law_cost" (defScope s__law_cost) s.heap.objs.size f cdv)).units + 66 < cLine := by omega
  have tk : Takes (cxOf (L2.CX P w) P w K mg base ["one", "other"] "_law_cost" (defScope s__law_cost) f cdv A outer s H E) (fun cls d _ H => E cls d H) := takes_of rfl rfl rfl rfl
  have hp : PassesOwn (model P w) (cxOf (L2.CX P w) P w K mg base ["one", "other"] "_law_cost" (defScope s__law_cost) f cdv A outer s H E).A (cxOf (L2.CX P w) P w K mg base ["one", "other"] "_law_cost" (defScope s__law_cost) f cdv A outer s H E).env (cxOf (L2.CX P w) P w K mg base ["one", "other"] "_law_cost" (defScope s__law_cost) f cdv A outer s H E).xe := passes_of (X := cxOf (L2.CX P w) P w K mg base ["one", "other"] "_law_cost" (defScope s__law_cost) f cdv A outer s H E) rfl
  exact ss_cons (s_if (b_w (w_or (b_ne u64 (TD.o (t_ix (TD.o (t_var 0)) (TD.o (t_int)))) (TD.o (t_ix (TD.o (t_var 1)) (TD.o (t_int))))) (w_or1 (b_ne u64 (TD.o (t_is (TD.o (t_ix (TD.o (t_var 0)) (TD.o (t_int)))) (TD.o (t_none)))) (TD.o (t_is (TD.o (t_ix (TD.o (t_var 1)) (TD.o (t_int)))) (TD.o (t_none)))))))) (ss_cons (s_ret (t_none) rfl)
    (ss_nil)) (ss_nil))
    (ss_cons (s_if (b_is (TD.o (t_ix (TD.o (t_var 0)) (TD.o (t_int)))) (TD.o (t_none))) (ss_cons (s_ret (t_op back_D op_mul o_mul (TD.o (t_int)) (TD.o (t_abs z.b_abs (as_cons keeps_O (TO.v (TD.o (t_op back_D op_sub o_sub (TD.o (t_ix (TD.o (t_var 0)) (TD.o (t_int)))) (TD.o (t_ix (TD.o (t_var 1)) (TD.o (t_int))))))) (as_nil))))) rfl)
    (ss_nil)) (ss_nil))
    (ss_cons (s_ret (t_op back_D op_mul o_mul (TD.o (t_int)) (TD.o (t_max rfl z.b_max (as_cons keeps_O (TO.v (TD.o (t_abs z.b_abs (as_cons keeps_O (TO.v (TD.o (t_op back_D op_sub o_sub (TD.o (t_ix (TD.o (t_var 0)) (TD.o (t_int)))) (TD.o (t_ix (TD.o (t_var 1)) (TD.o (t_int))))))) (as_nil))))) (as_cons keeps_O (TO.v (TD.o (t_abs z.b_abs (as_cons keeps_O (TO.v (TD.o (t_op back_D op_sub o_sub (TD.o (t_ix (TD.o (t_var 0)) (TD.o (t_int)))) (TD.o (t_ix (TD.o (t_var 1)) (TD.o (t_int))))))) (as_nil))))) (as_nil)))))) rfl)
    (ss_nil)))
abbrev s__law_alone : Stmt := topS 13
theorem sc__law_alone : FnScope ["bar"] ["bar"] (defScope s__law_alone) := ⟨rfl, rfl, rfl, by decide +kernel, rfl, by decide +kernel, by decide +kernel⟩
set_option maxHeartbeats 400000 in
theorem ok__law_alone {f : Addr} {fd : FuncData} (F : Fun K "_law_alone" "_law_alone" s__law_alone f fd) (z : Zs mg) (gm : mg "_law_alone" = some (.ref f)) : Df P w K mg base 1 "_law_alone" 1 (rD K) F__law_alone := by
  have bb : Binds K fd ["bar"] [] := F.binds fun _ _ _ _ _ _ us hl => (match us, hl with | [_], _ => rfl)
  refine ⟨f, fd, ["bar"], ?_, bb, gm, F.kp⟩
  suffices body : ∀ (cdv : Value) (A : Around) (outer : List PySem.Env) (s : Shared) (H : Hp) (E : XK) (A0 : List Addr), Room 0 (A.deeper (PyProof.Rows.envOfC "_law_alone" (defScope s__law_alone) s.heap.objs.size f cdv)) → A.guards = some [] →
      TSs (cxOf (L2.CX P w) P w K mg base ["bar"] "_law_alone" (defScope s__law_alone) f cdv A outer s H E) ⟨fun cls d _ H => E cls d H, rD K, [], H, A0⟩ (defBody s__law_alone) G__law_alone by
    exact fn_rule (k := 0) (G := G__law_alone) (N := ["bar"]) (ps := ["bar"]) (rl := rD K) (fall := .ok .none) F sc__law_alone (.inl ⟨rfl, rfl⟩) body
  intro cdv A outer s H E A0 hr hg
  have hN := sc__law_alone.nd
  have hu := hr.un
  have u64 : (A.deeper (PyProof.Rows.envOfC "_law_alone" (defScope s__law_alone) s.heap.objs.size f cdv)).units + 64 < cLine := by omega
  have u65 : (A.deeper (PyProof.Rows.envOfC "_law_alone" (defScope s__law_alone) s.heap.objs.size f cdv)).units + 65 < cLine := by omega
  have u66 : (A.deeper (PyProof.Rows.envOfC "_law_alone" (defScope s__law_alone) s.heap.objs.size f cdv)).units + 66 < cLine := by omega
  have tk : Takes (cxOf (L2.CX P w) P w K mg base ["bar"] "_law_alone" (defScope s__law_alone) f cdv A outer s H E) (fun cls d _ H => E cls d H) := takes_of rfl rfl rfl rfl
  have hp : PassesOwn (model P w) (cxOf (L2.CX P w) P w K mg base ["bar"] "_law_alone" (defScope s__law_alone) f cdv A outer s H E).A (cxOf (L2.CX P w) P w K mg base ["bar"] "_law_alone" (defScope s__law_alone) f cdv A outer s H E).env (cxOf (L2.CX P w) P w K mg base ["bar"] "_law_alone" (defScope s__law_alone) f cdv A outer s H E).xe := passes_of (X := cxOf (L2.CX P w) P w K mg base ["bar"] "_law_alone" (defScope s__law_alone) f cdv A outer s H E) rfl
  exact ss_cons (s_if (b_is (TD.o (t_ix (TD.o (t_var 0)) (TD.o (t_int)))) (TD.o (t_none))) (ss_cons (s_ret (t_none) rfl)
    (ss_nil)) (ss_nil))
    (ss_cons (s_ret (t_op back_D op_sub o_sub (TD.o (t_ix (TD.o (t_var 0)) (TD.o (t_int)))) (TD.o (t_ix (TD.o (t_var 0)) (TD.o (t_int))))) rfl)
    (ss_nil))
abbrev s__law_needs : Stmt := topS 14
theorem sc__law_needs : FnScope ["bar", "number"] ["bar", "number"] (defScope s__law_needs) := ⟨rfl, rfl, rfl, by decide +kernel, rfl, by decide +kernel, by decide +kernel⟩
set_option maxHeartbeats 400000 in
theorem ok__law_needs {f : Addr} {fd : FuncData} (F : Fun K "_law_needs" "_law_needs" s__law_needs f fd) (z : Zs mg) (gm : mg "_law_needs" = some (.ref f)) : Df P w K mg base 1 "_law_needs" 2 (rD K) F__law_needs := by
  have bb : Binds K fd ["bar", "number"] [] := F.binds fun _ _ _ _ _ _ us hl => (match us, hl with | [_, _], _ => rfl)
  refine ⟨f, fd, ["bar", "number"], ?_, bb, gm, F.kp⟩
  suffices body : ∀ (cdv : Value) (A : Around) (outer : List PySem.Env) (s : Shared) (H : Hp) (E : XK) (A0 : List Addr), Room 0 (A.deeper (PyProof.Rows.envOfC "_law_needs" (defScope s__law_needs) s.heap.objs.size f cdv)) → A.guards = some [] →
      TSs (cxOf (L2.CX P w) P w K mg base ["bar", "number"] "_law_needs" (defScope s__law_needs) f cdv A outer s H E) ⟨fun cls d _ H => E cls d H, rD K, [], H, A0⟩ (defBody s__law_needs) G__law_needs by
    exact fn_rule (k := 0) (G := G__law_needs) (N := ["bar", "number"]) (ps := ["bar", "number"]) (rl := rD K) (fall := .ok .none) F sc__law_needs (.inl ⟨rfl, rfl⟩) body
  intro cdv A outer s H E A0 hr hg
  have hN := sc__law_needs.nd
  have hu := hr.un
  have u64 : (A.deeper (PyProof.Rows.envOfC "_law_needs" (defScope s__law_needs) s.heap.objs.size f cdv)).units + 64 < cLine := by omega
  have u65 : (A.deeper (PyProof.Rows.envOfC "_law_needs" (defScope s__law_needs) s.heap.objs.size f cdv)).units + 65 < cLine := by omega
  have u66 : (A.deeper (PyProof.Rows.envOfC "_law_needs" (defScope s__law_needs) s.heap.objs.size f cdv)).units + 66 < cLine := by omega
  have tk : Takes (cxOf (L2.CX P w) P w K mg base ["bar", "number"] "_law_needs" (defScope s__law_needs) f cdv A outer s H E) (fun cls d _ H => E cls d H) := takes_of rfl rfl rfl rfl
  have hp : PassesOwn (model P w) (cxOf (L2.CX P w) P w K mg base ["bar", "number"] "_law_needs" (defScope s__law_needs) f cdv A outer s H E).A (cxOf (L2.CX P w) P w K mg base ["bar", "number"] "_law_needs" (defScope s__law_needs) f cdv A outer s H E).env (cxOf (L2.CX P w) P w K mg base ["bar", "number"] "_law_needs" (defScope s__law_needs) f cdv A outer s H E).xe := passes_of (X := cxOf (L2.CX P w) P w K mg base ["bar", "number"] "_law_needs" (defScope s__law_needs) f cdv A outer s H E) rfl
  exact ss_cons (s_ret (t_or (t_is (TD.o (t_ix (TD.o (t_var 0)) (TD.o (t_int)))) (TD.o (t_none))) (t_one (t_gtA u64 (TD.o (t_op back_D op_sub o_sub (TD.o (t_ix (TD.o (t_var 0)) (TD.o (t_int)))) (TD.o (t_ix (TD.o (t_var 0)) (TD.o (t_int)))))) (TD.o (t_var 1))))) rfl)
    (ss_nil)
abbrev s__law_partners : Stmt := topS 15
theorem sc__law_partners : FnScope ["bar", "others", "number", "found", "k", "price"] ["bar", "others", "number"] (defScope s__law_partners) := ⟨rfl, rfl, rfl, by decide +kernel, rfl, by decide +kernel, by decide +kernel⟩
set_option maxHeartbeats 400000 in
theorem ok__law_partners {f : Addr} {fd : FuncData} (F : Fun K "_law_partners" "_law_partners" s__law_partners f fd) (z : Zs mg) (d__law_cost : Df P w K mg base 1 "_law_cost" 2 (rD K) F__law_cost) (gm : mg "_law_partners" = some (.ref f)) : Df P w K mg base 2 "_law_partners" 3 (rF K) F__law_partners := by
  have bb : Binds K fd ["bar", "others", "number"] [] := F.binds fun _ _ _ _ _ _ us hl => (match us, hl with | [_, _, _], _ => rfl)
  refine ⟨f, fd, ["bar", "others", "number"], ?_, bb, gm, F.kp⟩
  suffices body : ∀ (cdv : Value) (A : Around) (outer : List PySem.Env) (s : Shared) (H : Hp) (E : XK) (A0 : List Addr), Room 1 (A.deeper (PyProof.Rows.envOfC "_law_partners" (defScope s__law_partners) s.heap.objs.size f cdv)) → A.guards = some [] →
      TSs (cxOf (L2.CX P w) P w K mg base ["bar", "others", "number", "found", "k", "price"] "_law_partners" (defScope s__law_partners) f cdv A outer s H E) ⟨fun cls d _ H => E cls d H, rF K, [], H, A0⟩ (defBody s__law_partners) G__law_partners by
    exact fn_rule (k := 1) (G := G__law_partners) (N := ["bar", "others", "number", "found", "k", "price"]) (ps := ["bar", "others", "number"]) (rl := rF K) (fall := .no) F sc__law_partners (.inr rfl) body
  intro cdv A outer s H E A0 hr hg
  have hN := sc__law_partners.nd
  have hu := hr.un
  have u64 : (A.deeper (PyProof.Rows.envOfC "_law_partners" (defScope s__law_partners) s.heap.objs.size f cdv)).units + 64 < cLine := by omega
  have u65 : (A.deeper (PyProof.Rows.envOfC "_law_partners" (defScope s__law_partners) s.heap.objs.size f cdv)).units + 65 < cLine := by omega
  have u66 : (A.deeper (PyProof.Rows.envOfC "_law_partners" (defScope s__law_partners) s.heap.objs.size f cdv)).units + 66 < cLine := by omega
  have tk : Takes (cxOf (L2.CX P w) P w K mg base ["bar", "others", "number", "found", "k", "price"] "_law_partners" (defScope s__law_partners) f cdv A outer s H E) (fun cls d _ H => E cls d H) := takes_of rfl rfl rfl rfl
  have hp : PassesOwn (model P w) (cxOf (L2.CX P w) P w K mg base ["bar", "others", "number", "found", "k", "price"] "_law_partners" (defScope s__law_partners) f cdv A outer s H E).A (cxOf (L2.CX P w) P w K mg base ["bar", "others", "number", "found", "k", "price"] "_law_partners" (defScope s__law_partners) f cdv A outer s H E).env (cxOf (L2.CX P w) P w K mg base ["bar", "others", "number", "found", "k", "price"] "_law_partners" (defScope s__law_partners) f cdv A outer s H E).xe := passes_of (X := cxOf (L2.CX P w) P w K mg base ["bar", "others", "number", "found", "k", "price"] "_law_partners" (defScope s__law_partners) f cdv A outer s H E) rfl
  exact ss_cons (s_own 3 hN (t_lst (as_nil)))
    (ss_cons (s_for hp rfl (i_range1 (by rfl) z.b_range (as_cons keeps_O (TO.v (TD.o (t_len z.b_len (as_cons keeps_O (TO.v (TD.o (t_var 1))) (as_nil))))) (as_nil))) (g_name 4 hN) (ss_cons (s_set 5 hN (t_callD d__law_cost hr hg (as_cons keeps_D (TD.v (t_var 0)) (as_cons keeps_D (TD.v (t_ix (TD.o (t_var 1)) (TD.o (t_var 4)))) (as_nil))) (aC_len (aC_len a0_len)) back_D))
    (ss_cons (s_if (b_w (w_and (b_isnot (TD.o (t_var 5)) (TD.o (t_none))) (w_and1 (b_leA u64 (TD.o (t_var 5)) (TD.o (t_var 2)))))) (ss_cons (s_app 3 (t_var 4))
    (ss_nil)) (ss_nil))
    (ss_nil))))
    (ss_cons (s_retO 3 rfl)
    (ss_nil)))
abbrev s__law_is : Stmt := topS 16
theorem sc__law_is : FnScope ["actual", "due"] ["actual", "due"] (defScope s__law_is) := ⟨rfl, rfl, rfl, by decide +kernel, rfl, by decide +kernel, by decide +kernel⟩
set_option maxHeartbeats 400000 in
theorem ok__law_is {f : Addr} {fd : FuncData} (F : Fun K "_law_is" "_law_is" s__law_is f fd) (z : Zs mg) (gm : mg "_law_is" = some (.ref f)) : Df P w K mg base 1 "_law_is" 2 (rD K) F__law_is := by
  have bb : Binds K fd ["actual", "due"] [] := F.binds fun _ _ _ _ _ _ us hl => (match us, hl with | [_, _], _ => rfl)
  refine ⟨f, fd, ["actual", "due"], ?_, bb, gm, F.kp⟩
  suffices body : ∀ (cdv : Value) (A : Around) (outer : List PySem.Env) (s : Shared) (H : Hp) (E : XK) (A0 : List Addr), Room 0 (A.deeper (PyProof.Rows.envOfC "_law_is" (defScope s__law_is) s.heap.objs.size f cdv)) → A.guards = some [] →
      TSs (cxOf (L2.CX P w) P w K mg base ["actual", "due"] "_law_is" (defScope s__law_is) f cdv A outer s H E) ⟨fun cls d _ H => E cls d H, rD K, [], H, A0⟩ (defBody s__law_is) G__law_is by
    exact fn_rule (k := 0) (G := G__law_is) (N := ["actual", "due"]) (ps := ["actual", "due"]) (rl := rD K) (fall := .ok .none) F sc__law_is (.inl ⟨rfl, rfl⟩) body
  intro cdv A outer s H E A0 hr hg
  have hN := sc__law_is.nd
  have hu := hr.un
  have u64 : (A.deeper (PyProof.Rows.envOfC "_law_is" (defScope s__law_is) s.heap.objs.size f cdv)).units + 64 < cLine := by omega
  have u65 : (A.deeper (PyProof.Rows.envOfC "_law_is" (defScope s__law_is) s.heap.objs.size f cdv)).units + 65 < cLine := by omega
  have u66 : (A.deeper (PyProof.Rows.envOfC "_law_is" (defScope s__law_is) s.heap.objs.size f cdv)).units + 66 < cLine := by omega
  have tk : Takes (cxOf (L2.CX P w) P w K mg base ["actual", "due"] "_law_is" (defScope s__law_is) f cdv A outer s H E) (fun cls d _ H => E cls d H) := takes_of rfl rfl rfl rfl
  have hp : PassesOwn (model P w) (cxOf (L2.CX P w) P w K mg base ["actual", "due"] "_law_is" (defScope s__law_is) f cdv A outer s H E).A (cxOf (L2.CX P w) P w K mg base ["actual", "due"] "_law_is" (defScope s__law_is) f cdv A outer s H E).env (cxOf (L2.CX P w) P w K mg base ["actual", "due"] "_law_is" (defScope s__law_is) f cdv A outer s H E).xe := passes_of (X := cxOf (L2.CX P w) P w K mg base ["actual", "due"] "_law_is" (defScope s__law_is) f cdv A outer s H E) rfl
  exact ss_cons (s_if (b_is (TD.o (t_var 1)) (TD.o (t_none))) (ss_cons (s_ret (t_is (TD.o (t_var 0)) (TD.o (t_none))) rfl)
    (ss_nil)) (ss_nil))
    (ss_cons (s_ret (t_and (t_isi (T := "int") z.b_isinstance z.b_int (by decide +kernel) (TD.o (t_var 0))) (t_and (t_not (TD.o (t_isi (T := "bool") z.b_isinstance z.b_bool (by decide +kernel) (TD.o (t_var 0))))) (t_one (t_eq u64 (TD.o (t_var 0)) (TD.o (t_var 1)))))) rfl)
    (ss_nil))
abbrev s_law : Stmt := topS 17
theorem sc_law : FnScope ["script", "first", "second", "number", "one", "bound", "handed", "turn", "near", "other"] ["script"] (defScope s_law) := ⟨rfl, rfl, rfl, by decide +kernel, rfl, by decide +kernel, by decide +kernel⟩
set_option maxHeartbeats 400000 in
theorem ok_law {f : Addr} {fd : FuncData} (F : Fun K "law" "law" s_law f fd) (z : Zs mg) (d__law_alone : Df P w K mg base 1 "_law_alone" 1 (rD K) F__law_alone) (d__law_cost : Df P w K mg base 1 "_law_cost" 2 (rD K) F__law_cost) (d__law_draw : Df P w K mg base 1 "_law_draw" 3 (rD K) F__law_draw) (d__law_is : Df P w K mg base 1 "_law_is" 2 (rD K) F__law_is) (d__law_lists : Df P w K mg base 3 "_law_lists" 3 (rD K) F__law_lists) (d__law_needs : Df P w K mg base 1 "_law_needs" 2 (rD K) F__law_needs) (d__law_partners : Df P w K mg base 2 "_law_partners" 3 (rF K) F__law_partners) (d_cost : Df P w K mg base 1 "cost" 2 (rD K) F_cost) (d_cost_alone : Df P w K mg base 1 "cost_alone" 1 (rD K) F_cost_alone) (d_is_bound : Df P w K mg base 2 "is_bound" 2 (rD K) F_is_bound) (d_partners : Df P w K mg base 3 "partners" 3 (rF K) F_partners) : FnG P w K mg base 4 f fd ["script"] (spD K mg (rD K) 1 F_law) := by
  suffices body : ∀ (cdv : Value) (A : Around) (outer : List PySem.Env) (s : Shared) (H : Hp) (E : XK) (A0 : List Addr), Room 3 (A.deeper (PyProof.Rows.envOfC "law" (defScope s_law) s.heap.objs.size f cdv)) → A.guards = some [] →
      TSs (cxOf (L2.CX P w) P w K mg base ["script", "first", "second", "number", "one", "bound", "handed", "turn", "near", "other"] "law" (defScope s_law) f cdv A outer s H E) ⟨fun cls d _ H => E cls d H, rD K, [], H, A0⟩ (defBody s_law) G_law by
    exact fn_rule (k := 3) (G := G_law) (N := ["script", "first", "second", "number", "one", "bound", "handed", "turn", "near", "other"]) (ps := ["script"]) (rl := rD K) (fall := .ok .none) F sc_law (.inl ⟨rfl, rfl⟩) body
  intro cdv A outer s H E A0 hr hg
  have hN := sc_law.nd
  have hu := hr.un
  have u64 : (A.deeper (PyProof.Rows.envOfC "law" (defScope s_law) s.heap.objs.size f cdv)).units + 64 < cLine := by omega
  have u65 : (A.deeper (PyProof.Rows.envOfC "law" (defScope s_law) s.heap.objs.size f cdv)).units + 65 < cLine := by omega
  have u66 : (A.deeper (PyProof.Rows.envOfC "law" (defScope s_law) s.heap.objs.size f cdv)).units + 66 < cLine := by omega
  have tk : Takes (cxOf (L2.CX P w) P w K mg base ["script", "first", "second", "number", "one", "bound", "handed", "turn", "near", "other"] "law" (defScope s_law) f cdv A outer s H E) (fun cls d _ H => E cls d H) := takes_of rfl rfl rfl rfl
  have hp : PassesOwn (model P w) (cxOf (L2.CX P w) P w K mg base ["script", "first", "second", "number", "one", "bound", "handed", "turn", "near", "other"] "law" (defScope s_law) f cdv A outer s H E).A (cxOf (L2.CX P w) P w K mg base ["script", "first", "second", "number", "one", "bound", "handed", "turn", "near", "other"] "law" (defScope s_law) f cdv A outer s H E).env (cxOf (L2.CX P w) P w K mg base ["script", "first", "second", "number", "one", "bound", "handed", "turn", "near", "other"] "law" (defScope s_law) f cdv A outer s H E).xe := passes_of (X := cxOf (L2.CX P w) P w K mg base ["script", "first", "second", "number", "one", "bound", "handed", "turn", "near", "other"] "law" (defScope s_law) f cdv A outer s H E) rfl
  exact ss_cons (s_asg (t_callD d__law_lists hr hg (as_cons keeps_D (TD.v (t_var 0)) (as_cons keeps_D (TD.v (t_int)) (as_cons keeps_D (TD.v (t_int)) (as_nil)))) (aC_len (aC_len (aC_len a0_len))) back_D) (g_tup rfl (g_cons (g_name 1 hN) (g_cons (g_name 2 hN) (g_nil)))))
    (ss_cons (s_set 3 hN (t_callD d__law_draw hr hg (as_cons keeps_D (TD.v (t_var 0)) (as_cons keeps_D (TD.v (t_int)) (as_cons keeps_D (TD.v (t_ix (TD.o (t_tup (as_cons keeps_D (TD.v (t_int)) (as_cons keeps_D (TD.v (t_int)) (as_cons keeps_D (TD.v (t_int)) (as_nil)))))) (TD.o (t_callD d__law_draw hr hg (as_cons keeps_D (TD.v (t_var 0)) (as_cons keeps_D (TD.v (t_int)) (as_cons keeps_D (TD.v (t_int)) (as_nil)))) (aC_len (aC_len (aC_len a0_len))) back_D)))) (as_nil)))) (aC_len (aC_len (aC_len a0_len))) back_D))
    (ss_cons (s_for hp rfl (i_any (t_var 1)) (g_name 4 hN) (ss_cons (s_if (b_not (b_val (TD.o (t_callD d__law_is hr hg (as_cons keeps_D (TD.v (t_callD d_cost_alone hr hg (as_cons keeps_D (TD.v (t_var 4)) (as_nil)) (aC_len a0_len) back_D)) (as_cons keeps_D (TD.v (t_callD d__law_alone hr hg (as_cons keeps_D (TD.v (t_var 4)) (as_nil)) (aC_len a0_len) back_D)) (as_nil))) (aC_len (aC_len a0_len)) back_D)))) (ss_cons (s_ret (t_bool) rfl)
    (ss_nil)) (ss_nil))
    (ss_cons (s_set 5 hN (t_callD d_is_bound hr hg (as_cons keeps_D (TD.v (t_var 4)) (as_cons keeps_D (TD.v (t_var 3)) (as_nil))) (aC_len (aC_len a0_len)) back_D))
    (ss_cons (s_if (b_w (w_or (b_not (b_val (TD.o (t_isi (T := "bool") z.b_isinstance z.b_bool (by decide +kernel) (TD.o (t_var 5)))))) (w_or1 (b_ne u64 (TD.o (t_var 5)) (TD.o (t_callD d__law_needs hr hg (as_cons keeps_D (TD.v (t_var 4)) (as_cons keeps_D (TD.v (t_var 3)) (as_nil))) (aC_len (aC_len a0_len)) back_D)))))) (ss_cons (s_ret (t_bool) rfl)
    (ss_nil)) (ss_nil))
    (ss_cons (s_set 6 hN (TF.d (t_listc z.b_list (as_cons keeps_O (TO.v (TD.o (t_var 2))) (as_nil)))))
    (ss_cons (s_for hp rfl (i_range1 (by rfl) z.b_range (as_cons keeps_O (TO.v (TD.o (t_int))) (as_nil))) (g_name 7 hN) (ss_cons (s_own 8 hN (t_callD d_partners hr hg (as_cons keeps_D (TD.v (t_var 4)) (as_cons keeps_D (TD.v (t_var 6)) (as_cons keeps_D (TD.v (t_var 3)) (as_nil)))) (aC_len (aC_len (aC_len a0_len))) back_F))
    (ss_cons (s_if (b_w (w_or (b_not (b_val (TD.o (t_isi (T := "list") z.b_isinstance z.b_list (by decide +kernel) (t_own 8))))) (w_or (b_ne u64 (TD.o (t_repr hg u66 z.b_repr (as_cons keeps_O (TO.v (t_own 8)) (as_nil)))) (TD.o (t_repr hg u66 z.b_repr (as_cons keeps_O (TO.v (TF.o (t_callD d__law_partners hr hg (as_cons keeps_D (TD.v (t_var 4)) (as_cons keeps_D (TD.v (t_var 2)) (as_cons keeps_D (TD.v (t_var 3)) (as_nil)))) (aC_len (aC_len (aC_len a0_len))) back_F))) (as_nil))))) (w_or1 (b_ne u64 (TD.o (t_var 6)) (TD.o (t_var 2))))))) (ss_cons (s_ret (t_bool) rfl)
    (ss_nil)) (ss_nil))
    (ss_cons (s_app 8 (t_neg (TD.o (t_int))))
    (ss_nil)))))
    (ss_cons (s_for hp rfl (i_any (t_var 2)) (g_name 9 hN) (ss_cons (s_if (b_w (w_or (b_not (b_val (TD.o (t_callD d__law_is hr hg (as_cons keeps_D (TD.v (t_callD d_cost hr hg (as_cons keeps_D (TD.v (t_var 4)) (as_cons keeps_D (TD.v (t_var 9)) (as_nil))) (aC_len (aC_len a0_len)) back_D)) (as_cons keeps_D (TD.v (t_callD d__law_cost hr hg (as_cons keeps_D (TD.v (t_var 4)) (as_cons keeps_D (TD.v (t_var 9)) (as_nil))) (aC_len (aC_len a0_len)) back_D)) (as_nil))) (aC_len (aC_len a0_len)) back_D)))) (w_or1 (b_not (b_val (TD.o (t_callD d__law_is hr hg (as_cons keeps_D (TD.v (t_callD d_cost hr hg (as_cons keeps_D (TD.v (t_var 9)) (as_cons keeps_D (TD.v (t_var 4)) (as_nil))) (aC_len (aC_len a0_len)) back_D)) (as_cons keeps_D (TD.v (t_callD d__law_cost hr hg (as_cons keeps_D (TD.v (t_var 4)) (as_cons keeps_D (TD.v (t_var 9)) (as_nil))) (aC_len (aC_len a0_len)) back_D)) (as_nil))) (aC_len (aC_len a0_len)) back_D))))))) (ss_cons (s_ret (t_bool) rfl)
    (ss_nil)) (ss_nil))
    (ss_nil)))
    (ss_nil))))))))
    (ss_cons (s_ret (t_bool) rfl)
    (ss_nil))))
end
end Bd
namespace Bd
open PySem L2
open Br (Bar bD endD endI Good)
open Nr

theorem e_draw : F__law_draw = Nr.F__law_draw := rfl
theorem e_lists : F__law_lists = Nr.F__law_lists := rfl
theorem e_cost : F__law_cost = Nr.F__law_cost := rfl
theorem e_alone : F__law_alone = Nr.F__law_alone := rfl
theorem e_needs : F__law_needs = Nr.F__law_needs := rfl
theorem e_partners : F__law_partners = Nr.F__law_partners := rfl
/-! ### the program's -/
theorem bD_eq (x : Bar) : bD x = .tuple [.int x.d, .int x.b, endD x.e] := rfl
theorem pcost_ok (x y : Bar) : F_cost [bD x, bD y] = .ok (endD (costB x y)) := by
  refine Wn.eq (wn_runD ?_)
  show Sn (G_cost [.d (bD x), .d (bD y), .no, .no, .no, .no, .no, .no]) _ _ _ _
  unfold G_cost
  simp only [wn_ok, wn_some, wn_only, wn_noex, wn_e2, wn_e1, wn_eN, wn_a0, wn_aC, wn_call, wn_tb, wn_tup, wn_lst, wn_andB, wn_orB, wn_notB, wn_andV, wn_orV, wn_notV, wn_ifV, wn_iA, wn_iR1, wn_iR2, wn_iZ, wn_iEn, wn_iRR, wn_sl, wn_p0, wn_p1, wn_up, wn_upB, wn_upI, wn_x2, wn_x0, wn_xC, wn_xN, wn_xb, wn_xAnd, wn_xOr, wn_xNot, wn_xIf, wn_xCall, wn_xR1, wn_xR2, sn_nx, sn_rt, sn_bk, sn_ct, sn_seq, sn_set, sn_ret, sn_expr, sn_if, sn_for, sn_xSet, sn_xRet, sn_xExpr, sn_xIf, sn_xFor, sn_asg, sn_xAsg, sn_own, sn_xOwn, gv_zero, gv_succ, go_own, go_dat, go_succ, k0_def, gN_def, tru_bool, tru_none, tru_int, tru_list, asSeq_list, asSeq_tup, addV_int, subV_int, ltA_i, leA_i, gtA_i, geA_i, negV_int, intV_int, lenV_list, lenV_tup, ixV_list, ixV_tup, asInt_int, slV_list, slV_tup, slL_list, revV_tup, revV_list, tupleV_list, listV_list, listV_tup, eqV_str, neV_str, eqV_int, List.set_cons_zero, List.set_cons_succ, List.getElem?_cons_zero, List.getElem?_cons_succ, List.length_cons, List.length_nil, ↓reduceIte, Bool.false_eq_true, Bool.not_true, Bool.not_false, wn_ite, gT2, gT3, neV_tup, eqV_tup, in_tup, notin_tup', lineN_eq, Nat.reduceAdd, Nat.reduceLeDiff, Nat.zero_le, true_and, and_true, List.map_nil, List.map_cons, exists_eq_left', Option.some.injEq, PyData.list.injEq, exists_eq_left, PyData.int.injEq, R.ok.injEq, Sl.own.injEq, bD_eq, neV_int, neV_bool, Br.isV_none, abs_ok, mul2, maxV_i]
  obtain ⟨d, b, e⟩ := x
  obtain ⟨d', b', e'⟩ := y
  unfold costB
  by_cases h : d = d'
  · subst h
    cases e with
    | none => cases e' with
      | none => simp [endD]
      | some a' => simp [endD]
    | some a => cases e' with
      | none => simp [endD]
      | some a' =>
        simp only [Option.isNone_some, beq_self_eq_true, Bool.not_true, Bool.or_self, Bool.false_eq_true, ↓reduceIte, endD]
        simp only [wn_ok, wn_some, wn_only, wn_noex, wn_e2, wn_e1, wn_eN, wn_a0, wn_aC, wn_call, wn_tb, wn_tup, wn_lst, wn_andB, wn_orB, wn_notB, wn_andV, wn_orV, wn_notV, wn_ifV, wn_iA, wn_iR1, wn_iR2, wn_iZ, wn_iEn, wn_iRR, wn_sl, wn_p0, wn_p1, wn_up, wn_upB, wn_upI, wn_x2, wn_x0, wn_xC, wn_xN, wn_xb, wn_xAnd, wn_xOr, wn_xNot, wn_xIf, wn_xCall, wn_xR1, wn_xR2, sn_nx, sn_rt, sn_bk, sn_ct, sn_seq, sn_set, sn_ret, sn_expr, sn_if, sn_for, sn_xSet, sn_xRet, sn_xExpr, sn_xIf, sn_xFor, sn_asg, sn_xAsg, sn_own, sn_xOwn, gv_zero, gv_succ, go_own, go_dat, go_succ, k0_def, gN_def, tru_bool, tru_none, tru_int, tru_list, asSeq_list, asSeq_tup, addV_int, subV_int, ltA_i, leA_i, gtA_i, geA_i, negV_int, intV_int, lenV_list, lenV_tup, ixV_list, ixV_tup, asInt_int, slV_list, slV_tup, slL_list, revV_tup, revV_list, tupleV_list, listV_list, listV_tup, eqV_str, neV_str, eqV_int, List.set_cons_zero, List.set_cons_succ, List.getElem?_cons_zero, List.getElem?_cons_succ, List.length_cons, List.length_nil, ↓reduceIte, Bool.false_eq_true, Bool.not_true, Bool.not_false, wn_ite, gT2, gT3, neV_tup, eqV_tup, in_tup, notin_tup', lineN_eq, Nat.reduceAdd, Nat.reduceLeDiff, Nat.zero_le, true_and, and_true, List.map_nil, List.map_cons, exists_eq_left', Option.some.injEq, PyData.list.injEq, exists_eq_left, PyData.int.injEq, R.ok.injEq, Sl.own.injEq, abs_ok, mul2, maxV_i]
  · have h2 : (d == d') = false := by simpa using h
    simp [h2, endD]
theorem palone_ok (x : Bar) : F_cost_alone [bD x] = .ok (endD (aloneB x)) := by
  refine Wn.eq (wn_runD ?_)
  show Sn (G_cost_alone [.d (bD x), .no, .no, .no]) _ _ _ _
  unfold G_cost_alone aloneB
  simp only [wn_ok, wn_some, wn_only, wn_noex, wn_e2, wn_e1, wn_eN, wn_a0, wn_aC, wn_call, wn_tb, wn_tup, wn_lst, wn_andB, wn_orB, wn_notB, wn_andV, wn_orV, wn_notV, wn_ifV, wn_iA, wn_iR1, wn_iR2, wn_iZ, wn_iEn, wn_iRR, wn_sl, wn_p0, wn_p1, wn_up, wn_upB, wn_upI, wn_x2, wn_x0, wn_xC, wn_xN, wn_xb, wn_xAnd, wn_xOr, wn_xNot, wn_xIf, wn_xCall, wn_xR1, wn_xR2, sn_nx, sn_rt, sn_bk, sn_ct, sn_seq, sn_set, sn_ret, sn_expr, sn_if, sn_for, sn_xSet, sn_xRet, sn_xExpr, sn_xIf, sn_xFor, sn_asg, sn_xAsg, sn_own, sn_xOwn, gv_zero, gv_succ, go_own, go_dat, go_succ, k0_def, gN_def, tru_bool, tru_none, tru_int, tru_list, asSeq_list, asSeq_tup, addV_int, subV_int, ltA_i, leA_i, gtA_i, geA_i, negV_int, intV_int, lenV_list, lenV_tup, ixV_list, ixV_tup, asInt_int, slV_list, slV_tup, slL_list, revV_tup, revV_list, tupleV_list, listV_list, listV_tup, eqV_str, neV_str, eqV_int, List.set_cons_zero, List.set_cons_succ, List.getElem?_cons_zero, List.getElem?_cons_succ, List.length_cons, List.length_nil, ↓reduceIte, Bool.false_eq_true, Bool.not_true, Bool.not_false, wn_ite, gT2, gT3, neV_tup, eqV_tup, in_tup, notin_tup', lineN_eq, Nat.reduceAdd, Nat.reduceLeDiff, Nat.zero_le, true_and, and_true, List.map_nil, List.map_cons, exists_eq_left', Option.some.injEq, PyData.list.injEq, exists_eq_left, PyData.int.injEq, R.ok.injEq, Sl.own.injEq, bD_eq, Br.isV_none]
  cases e : x.e with
  | none => simp only [Option.isNone_none, ↓reduceIte]; rfl
  | some z =>
    simp only [Option.isNone_some, Bool.false_eq_true, ↓reduceIte, endD]
    simp only [wn_ok, wn_some, wn_only, wn_noex, wn_e2, wn_e1, wn_eN, wn_a0, wn_aC, wn_call, wn_tb, wn_tup, wn_lst, wn_andB, wn_orB, wn_notB, wn_andV, wn_orV, wn_notV, wn_ifV, wn_iA, wn_iR1, wn_iR2, wn_iZ, wn_iEn, wn_iRR, wn_sl, wn_p0, wn_p1, wn_up, wn_upB, wn_upI, wn_x2, wn_x0, wn_xC, wn_xN, wn_xb, wn_xAnd, wn_xOr, wn_xNot, wn_xIf, wn_xCall, wn_xR1, wn_xR2, sn_nx, sn_rt, sn_bk, sn_ct, sn_seq, sn_set, sn_ret, sn_expr, sn_if, sn_for, sn_xSet, sn_xRet, sn_xExpr, sn_xIf, sn_xFor, sn_asg, sn_xAsg, sn_own, sn_xOwn, gv_zero, gv_succ, go_own, go_dat, go_succ, k0_def, gN_def, tru_bool, tru_none, tru_int, tru_list, asSeq_list, asSeq_tup, addV_int, subV_int, ltA_i, leA_i, gtA_i, geA_i, negV_int, intV_int, lenV_list, lenV_tup, ixV_list, ixV_tup, asInt_int, slV_list, slV_tup, slL_list, revV_tup, revV_list, tupleV_list, listV_list, listV_tup, eqV_str, neV_str, eqV_int, List.set_cons_zero, List.set_cons_succ, List.getElem?_cons_zero, List.getElem?_cons_succ, List.length_cons, List.length_nil, ↓reduceIte, Bool.false_eq_true, Bool.not_true, Bool.not_false, wn_ite, gT2, gT3, neV_tup, eqV_tup, in_tup, notin_tup', lineN_eq, Nat.reduceAdd, Nat.reduceLeDiff, Nat.zero_le, true_and, and_true, List.map_nil, List.map_cons, exists_eq_left', Option.some.injEq, PyData.list.injEq, exists_eq_left, PyData.int.injEq, R.ok.injEq, Sl.own.injEq]
    rfl
def withinO (o : Option Int) (n : Int) : Bool := match o with
  | none => false
  | some p => decide (p ≤ n)
theorem within_ok (o : Option Int) (n : Int) : F__is_within [endD o, .int n] = .ok (.bool (withinO o n)) := by
  refine Wn.eq (wn_runD ?_)
  show Sn (G__is_within [.d (endD o), .d (.int n)]) _ _ _ _
  unfold G__is_within withinO
  simp only [wn_ok, wn_some, wn_only, wn_noex, wn_e2, wn_e1, wn_eN, wn_a0, wn_aC, wn_call, wn_tb, wn_tup, wn_lst, wn_andB, wn_orB, wn_notB, wn_andV, wn_orV, wn_notV, wn_ifV, wn_iA, wn_iR1, wn_iR2, wn_iZ, wn_iEn, wn_iRR, wn_sl, wn_p0, wn_p1, wn_up, wn_upB, wn_upI, wn_x2, wn_x0, wn_xC, wn_xN, wn_xb, wn_xAnd, wn_xOr, wn_xNot, wn_xIf, wn_xCall, wn_xR1, wn_xR2, sn_nx, sn_rt, sn_bk, sn_ct, sn_seq, sn_set, sn_ret, sn_expr, sn_if, sn_for, sn_xSet, sn_xRet, sn_xExpr, sn_xIf, sn_xFor, sn_asg, sn_xAsg, sn_own, sn_xOwn, gv_zero, gv_succ, go_own, go_dat, go_succ, k0_def, gN_def, tru_bool, tru_none, tru_int, tru_list, asSeq_list, asSeq_tup, addV_int, subV_int, ltA_i, leA_i, gtA_i, geA_i, negV_int, intV_int, lenV_list, lenV_tup, ixV_list, ixV_tup, asInt_int, slV_list, slV_tup, slL_list, revV_tup, revV_list, tupleV_list, listV_list, listV_tup, eqV_str, neV_str, eqV_int, List.set_cons_zero, List.set_cons_succ, List.getElem?_cons_zero, List.getElem?_cons_succ, List.length_cons, List.length_nil, ↓reduceIte, Bool.false_eq_true, Bool.not_true, Bool.not_false, wn_ite, gT2, gT3, neV_tup, eqV_tup, in_tup, notin_tup', lineN_eq, Nat.reduceAdd, Nat.reduceLeDiff, Nat.zero_le, true_and, and_true, List.map_nil, List.map_cons, exists_eq_left', Option.some.injEq, PyData.list.injEq, exists_eq_left, PyData.int.injEq, R.ok.injEq, Sl.own.injEq, Nr.isnotV_end]
  cases o with
  | none => simp only [Option.isNone_none, Bool.not_true, Bool.false_eq_true, ↓reduceIte]
  | some z =>
    simp only [Option.isNone_some, Bool.not_false, ↓reduceIte, endD]
    simp only [wn_ok, wn_some, wn_only, wn_noex, wn_e2, wn_e1, wn_eN, wn_a0, wn_aC, wn_call, wn_tb, wn_tup, wn_lst, wn_andB, wn_orB, wn_notB, wn_andV, wn_orV, wn_notV, wn_ifV, wn_iA, wn_iR1, wn_iR2, wn_iZ, wn_iEn, wn_iRR, wn_sl, wn_p0, wn_p1, wn_up, wn_upB, wn_upI, wn_x2, wn_x0, wn_xC, wn_xN, wn_xb, wn_xAnd, wn_xOr, wn_xNot, wn_xIf, wn_xCall, wn_xR1, wn_xR2, sn_nx, sn_rt, sn_bk, sn_ct, sn_seq, sn_set, sn_ret, sn_expr, sn_if, sn_for, sn_xSet, sn_xRet, sn_xExpr, sn_xIf, sn_xFor, sn_asg, sn_xAsg, sn_own, sn_xOwn, gv_zero, gv_succ, go_own, go_dat, go_succ, k0_def, gN_def, tru_bool, tru_none, tru_int, tru_list, asSeq_list, asSeq_tup, addV_int, subV_int, ltA_i, leA_i, gtA_i, geA_i, negV_int, intV_int, lenV_list, lenV_tup, ixV_list, ixV_tup, asInt_int, slV_list, slV_tup, slL_list, revV_tup, revV_list, tupleV_list, listV_list, listV_tup, eqV_str, neV_str, eqV_int, List.set_cons_zero, List.set_cons_succ, List.getElem?_cons_zero, List.getElem?_cons_succ, List.length_cons, List.length_nil, ↓reduceIte, Bool.false_eq_true, Bool.not_true, Bool.not_false, wn_ite, gT2, gT3, neV_tup, eqV_tup, in_tup, notin_tup', lineN_eq, Nat.reduceAdd, Nat.reduceLeDiff, Nat.zero_le, true_and, and_true, List.map_nil, List.map_cons, exists_eq_left', Option.some.injEq, PyData.list.injEq, exists_eq_left, PyData.int.injEq, R.ok.injEq, Sl.own.injEq]
theorem pbound_ok (x : Bar) (n : Int) : F_is_bound [bD x, .int n] = .ok (.bool (needB x n)) := by
  refine Wn.eq (wn_runD ?_)
  show Sn (G_is_bound [.d (bD x), .d (.int n)]) _ _ _ _
  unfold G_is_bound
  simp only [wn_ok, wn_some, wn_only, wn_noex, wn_e2, wn_e1, wn_eN, wn_a0, wn_aC, wn_call, wn_tb, wn_tup, wn_lst, wn_andB, wn_orB, wn_notB, wn_andV, wn_orV, wn_notV, wn_ifV, wn_iA, wn_iR1, wn_iR2, wn_iZ, wn_iEn, wn_iRR, wn_sl, wn_p0, wn_p1, wn_up, wn_upB, wn_upI, wn_x2, wn_x0, wn_xC, wn_xN, wn_xb, wn_xAnd, wn_xOr, wn_xNot, wn_xIf, wn_xCall, wn_xR1, wn_xR2, sn_nx, sn_rt, sn_bk, sn_ct, sn_seq, sn_set, sn_ret, sn_expr, sn_if, sn_for, sn_xSet, sn_xRet, sn_xExpr, sn_xIf, sn_xFor, sn_asg, sn_xAsg, sn_own, sn_xOwn, gv_zero, gv_succ, go_own, go_dat, go_succ, k0_def, gN_def, tru_bool, tru_none, tru_int, tru_list, asSeq_list, asSeq_tup, addV_int, subV_int, ltA_i, leA_i, gtA_i, geA_i, negV_int, intV_int, lenV_list, lenV_tup, ixV_list, ixV_tup, asInt_int, slV_list, slV_tup, slL_list, revV_tup, revV_list, tupleV_list, listV_list, listV_tup, eqV_str, neV_str, eqV_int, List.set_cons_zero, List.set_cons_succ, List.getElem?_cons_zero, List.getElem?_cons_succ, List.length_cons, List.length_nil, ↓reduceIte, Bool.false_eq_true, Bool.not_true, Bool.not_false, wn_ite, gT2, gT3, neV_tup, eqV_tup, in_tup, notin_tup', lineN_eq, Nat.reduceAdd, Nat.reduceLeDiff, Nat.zero_le, true_and, and_true, List.map_nil, List.map_cons, exists_eq_left', Option.some.injEq, PyData.list.injEq, exists_eq_left, PyData.int.injEq, R.ok.injEq, Sl.own.injEq, palone_ok, within_ok]
  unfold needB aloneB withinO
  cases e : x.e with
  | none => rfl
  | some z =>
    simp only [Option.map_some]
    congr 1
    by_cases h : z - x.b ≤ n
    · simp [h]
    · simp [h, Int.not_le.mp h]
theorem pnear_ok (x y : Bar) (n : Int) : F_are_partners [bD x, bD y, .int n] = .ok (.bool (nearB n x y)) := by
  refine Wn.eq (wn_runD ?_)
  show Sn (G_are_partners [.d (bD x), .d (bD y), .d (.int n)]) _ _ _ _
  unfold G_are_partners
  simp only [wn_ok, wn_some, wn_only, wn_noex, wn_e2, wn_e1, wn_eN, wn_a0, wn_aC, wn_call, wn_tb, wn_tup, wn_lst, wn_andB, wn_orB, wn_notB, wn_andV, wn_orV, wn_notV, wn_ifV, wn_iA, wn_iR1, wn_iR2, wn_iZ, wn_iEn, wn_iRR, wn_sl, wn_p0, wn_p1, wn_up, wn_upB, wn_upI, wn_x2, wn_x0, wn_xC, wn_xN, wn_xb, wn_xAnd, wn_xOr, wn_xNot, wn_xIf, wn_xCall, wn_xR1, wn_xR2, sn_nx, sn_rt, sn_bk, sn_ct, sn_seq, sn_set, sn_ret, sn_expr, sn_if, sn_for, sn_xSet, sn_xRet, sn_xExpr, sn_xIf, sn_xFor, sn_asg, sn_xAsg, sn_own, sn_xOwn, gv_zero, gv_succ, go_own, go_dat, go_succ, k0_def, gN_def, tru_bool, tru_none, tru_int, tru_list, asSeq_list, asSeq_tup, addV_int, subV_int, ltA_i, leA_i, gtA_i, geA_i, negV_int, intV_int, lenV_list, lenV_tup, ixV_list, ixV_tup, asInt_int, slV_list, slV_tup, slL_list, revV_tup, revV_list, tupleV_list, listV_list, listV_tup, eqV_str, neV_str, eqV_int, List.set_cons_zero, List.set_cons_succ, List.getElem?_cons_zero, List.getElem?_cons_succ, List.length_cons, List.length_nil, ↓reduceIte, Bool.false_eq_true, Bool.not_true, Bool.not_false, wn_ite, gT2, gT3, neV_tup, eqV_tup, in_tup, notin_tup', lineN_eq, Nat.reduceAdd, Nat.reduceLeDiff, Nat.zero_le, true_and, and_true, List.map_nil, List.map_cons, exists_eq_left', Option.some.injEq, PyData.list.injEq, exists_eq_left, PyData.int.injEq, R.ok.injEq, Sl.own.injEq, pcost_ok, within_ok]
  rfl
def eC (n : Int) (x : Bar) : D → Bool
  | .tuple [_, y] => nearB n x (unB y)
  | _ => false
def eG : D → D
  | .tuple [i, _] => i
  | _ => .none
theorem enum_part {n : Int} {x : Bar} : ∀ (cs : List Bar) (i : Nat), ((enumD i (cs.map bD)).filter (eC n x)).map eG = (partB n x i cs).map PyData.int
  | [], _ => rfl
  | y :: cs, i => by
    have ih := enum_part (n := n) (x := x) cs (i + 1)
    have e1 : enumD i ((y :: cs).map bD) = .tuple [.int (i : Int), bD y] :: enumD (i + 1) (cs.map bD) := rfl
    have e2 : eC n x (.tuple [.int (i : Int), bD y]) = nearB n x y := by
      show nearB n x (unB (bD y)) = _
      rw [unB_bD]
    rw [e1, List.filter_cons, e2]
    unfold partB
    split
    · rw [List.map_cons, List.map_cons, ih]
      rfl
    · rw [ih]
      rfl
theorem ppartners_ok {n : Int} {x : Bar} {cs : List Bar} (hl : cs.length ≤ 1000) : F_partners [bD x, .list (cs.map bD), .int n] = .ok (.list ((partB n x 0 cs).map PyData.int)) := by
  refine Wn.eq (wn_runD ?_)
  show Sn (G_partners [.d (bD x), .d (.list (cs.map bD)), .d (.int n), .no, .no]) _ _ _ _
  unfold G_partners
  simp only [wn_ok, wn_some, wn_only, wn_noex, wn_e2, wn_e1, wn_eN, wn_a0, wn_aC, wn_call, wn_tb, wn_tup, wn_lst, wn_andB, wn_orB, wn_notB, wn_andV, wn_orV, wn_notV, wn_ifV, wn_iA, wn_iR1, wn_iR2, wn_iZ, wn_iEn, wn_iRR, wn_sl, wn_p0, wn_p1, wn_up, wn_upB, wn_upI, wn_x2, wn_x0, wn_xC, wn_xN, wn_xb, wn_xAnd, wn_xOr, wn_xNot, wn_xIf, wn_xCall, wn_xR1, wn_xR2, sn_nx, sn_rt, sn_bk, sn_ct, sn_seq, sn_set, sn_ret, sn_expr, sn_if, sn_for, sn_xSet, sn_xRet, sn_xExpr, sn_xIf, sn_xFor, sn_asg, sn_xAsg, sn_own, sn_xOwn, gv_zero, gv_succ, go_own, go_dat, go_succ, k0_def, gN_def, tru_bool, tru_none, tru_int, tru_list, asSeq_list, asSeq_tup, addV_int, subV_int, ltA_i, leA_i, gtA_i, geA_i, negV_int, intV_int, lenV_list, lenV_tup, ixV_list, ixV_tup, asInt_int, slV_list, slV_tup, slL_list, revV_tup, revV_list, tupleV_list, listV_list, listV_tup, eqV_str, neV_str, eqV_int, List.set_cons_zero, List.set_cons_succ, List.getElem?_cons_zero, List.getElem?_cons_succ, List.length_cons, List.length_nil, ↓reduceIte, Bool.false_eq_true, Bool.not_true, Bool.not_false, wn_ite, gT2, gT3, neV_tup, eqV_tup, in_tup, notin_tup', lineN_eq, Nat.reduceAdd, Nat.reduceLeDiff, Nat.zero_le, true_and, and_true, List.map_nil, List.map_cons, exists_eq_left', Option.some.injEq, PyData.list.injEq, exists_eq_left, PyData.int.injEq, R.ok.injEq, Sl.own.injEq]
  refine wn_comp (xs := enumD 0 (cs.map bD)) (eC n x) eG ?_ ?_ ?_ ?_
  · simp only [wn_ok, wn_some, wn_only, wn_noex, wn_e2, wn_e1, wn_eN, wn_a0, wn_aC, wn_call, wn_tb, wn_tup, wn_lst, wn_andB, wn_orB, wn_notB, wn_andV, wn_orV, wn_notV, wn_ifV, wn_iA, wn_iR1, wn_iR2, wn_iZ, wn_iEn, wn_iRR, wn_sl, wn_p0, wn_p1, wn_up, wn_upB, wn_upI, wn_x2, wn_x0, wn_xC, wn_xN, wn_xb, wn_xAnd, wn_xOr, wn_xNot, wn_xIf, wn_xCall, wn_xR1, wn_xR2, sn_nx, sn_rt, sn_bk, sn_ct, sn_seq, sn_set, sn_ret, sn_expr, sn_if, sn_for, sn_xSet, sn_xRet, sn_xExpr, sn_xIf, sn_xFor, sn_asg, sn_xAsg, sn_own, sn_xOwn, gv_zero, gv_succ, go_own, go_dat, go_succ, k0_def, gN_def, tru_bool, tru_none, tru_int, tru_list, asSeq_list, asSeq_tup, addV_int, subV_int, ltA_i, leA_i, gtA_i, geA_i, negV_int, intV_int, lenV_list, lenV_tup, ixV_list, ixV_tup, asInt_int, slV_list, slV_tup, slL_list, revV_tup, revV_list, tupleV_list, listV_list, listV_tup, eqV_str, neV_str, eqV_int, List.set_cons_zero, List.set_cons_succ, List.getElem?_cons_zero, List.getElem?_cons_succ, List.length_cons, List.length_nil, ↓reduceIte, Bool.false_eq_true, Bool.not_true, Bool.not_false, wn_ite, gT2, gT3, neV_tup, eqV_tup, in_tup, notin_tup', lineN_eq, Nat.reduceAdd, Nat.reduceLeDiff, Nat.zero_le, true_and, and_true, List.map_nil, List.map_cons, exists_eq_left', Option.some.injEq, PyData.list.injEq, exists_eq_left, PyData.int.injEq, R.ok.injEq, Sl.own.injEq]
    exact wn_ok.mpr rfl
  · intro y m
    obtain ⟨i, hi⟩ := List.getElem?_of_mem m
    obtain ⟨d, h1, rfl⟩ := enumD_get _ _ _ _ hi
    obtain ⟨c, mc, rfl⟩ := List.mem_map.mp (List.mem_of_getElem? h1)
    refine ⟨[.d (bD x), .d (.list (cs.map bD)), .d (.int n), .d (.int ((0 + i : Nat) : Int)), .d (bD c)], gT2, ?_⟩
    simp only [wn_ok, wn_some, wn_only, wn_noex, wn_e2, wn_e1, wn_eN, wn_a0, wn_aC, wn_call, wn_tb, wn_tup, wn_lst, wn_andB, wn_orB, wn_notB, wn_andV, wn_orV, wn_notV, wn_ifV, wn_iA, wn_iR1, wn_iR2, wn_iZ, wn_iEn, wn_iRR, wn_sl, wn_p0, wn_p1, wn_up, wn_upB, wn_upI, wn_x2, wn_x0, wn_xC, wn_xN, wn_xb, wn_xAnd, wn_xOr, wn_xNot, wn_xIf, wn_xCall, wn_xR1, wn_xR2, sn_nx, sn_rt, sn_bk, sn_ct, sn_seq, sn_set, sn_ret, sn_expr, sn_if, sn_for, sn_xSet, sn_xRet, sn_xExpr, sn_xIf, sn_xFor, sn_asg, sn_xAsg, sn_own, sn_xOwn, gv_zero, gv_succ, go_own, go_dat, go_succ, k0_def, gN_def, tru_bool, tru_none, tru_int, tru_list, asSeq_list, asSeq_tup, addV_int, subV_int, ltA_i, leA_i, gtA_i, geA_i, negV_int, intV_int, lenV_list, lenV_tup, ixV_list, ixV_tup, asInt_int, slV_list, slV_tup, slL_list, revV_tup, revV_list, tupleV_list, listV_list, listV_tup, eqV_str, neV_str, eqV_int, List.set_cons_zero, List.set_cons_succ, List.getElem?_cons_zero, List.getElem?_cons_succ, List.length_cons, List.length_nil, ↓reduceIte, Bool.false_eq_true, Bool.not_true, Bool.not_false, wn_ite, gT2, gT3, neV_tup, eqV_tup, in_tup, notin_tup', lineN_eq, Nat.reduceAdd, Nat.reduceLeDiff, Nat.zero_le, true_and, and_true, List.map_nil, List.map_cons, exists_eq_left', Option.some.injEq, PyData.list.injEq, exists_eq_left, PyData.int.injEq, R.ok.injEq, Sl.own.injEq, pnear_ok]
    refine ⟨?_, fun _ => rfl⟩
    show nearB n x c = nearB n x (unB (bD c))
    rw [unB_bD]
  · have : ∀ (k : Nat) (l : List D), (enumD k l).length = l.length := fun k l => by
      induction l generalizing k with
      | nil => rfl
      | cons a l ih => show (enumD (k + 1) l).length + 1 = _; rw [ih, List.length_cons]
    rw [this, List.length_map, lineN_eq]
    omega
  · rw [show (0 : Nat) = 0 from rfl, enum_part cs 0]
    rfl
theorem law_is_ok (o : Option Int) : F__law_is [endD o, endD o] = .ok (.bool true) := by
  refine Wn.eq (wn_runD ?_)
  show Sn (G__law_is [.d (endD o), .d (endD o)]) _ _ _ _
  unfold G__law_is
  simp only [wn_ok, wn_some, wn_only, wn_noex, wn_e2, wn_e1, wn_eN, wn_a0, wn_aC, wn_call, wn_tb, wn_tup, wn_lst, wn_andB, wn_orB, wn_notB, wn_andV, wn_orV, wn_notV, wn_ifV, wn_iA, wn_iR1, wn_iR2, wn_iZ, wn_iEn, wn_iRR, wn_sl, wn_p0, wn_p1, wn_up, wn_upB, wn_upI, wn_x2, wn_x0, wn_xC, wn_xN, wn_xb, wn_xAnd, wn_xOr, wn_xNot, wn_xIf, wn_xCall, wn_xR1, wn_xR2, sn_nx, sn_rt, sn_bk, sn_ct, sn_seq, sn_set, sn_ret, sn_expr, sn_if, sn_for, sn_xSet, sn_xRet, sn_xExpr, sn_xIf, sn_xFor, sn_asg, sn_xAsg, sn_own, sn_xOwn, gv_zero, gv_succ, go_own, go_dat, go_succ, k0_def, gN_def, tru_bool, tru_none, tru_int, tru_list, asSeq_list, asSeq_tup, addV_int, subV_int, ltA_i, leA_i, gtA_i, geA_i, negV_int, intV_int, lenV_list, lenV_tup, ixV_list, ixV_tup, asInt_int, slV_list, slV_tup, slL_list, revV_tup, revV_list, tupleV_list, listV_list, listV_tup, eqV_str, neV_str, eqV_int, List.set_cons_zero, List.set_cons_succ, List.getElem?_cons_zero, List.getElem?_cons_succ, List.length_cons, List.length_nil, ↓reduceIte, Bool.false_eq_true, Bool.not_true, Bool.not_false, wn_ite, gT2, gT3, neV_tup, eqV_tup, in_tup, notin_tup', lineN_eq, Nat.reduceAdd, Nat.reduceLeDiff, Nat.zero_le, true_and, and_true, List.map_nil, List.map_cons, exists_eq_left', Option.some.injEq, PyData.list.injEq, exists_eq_left, PyData.int.injEq, R.ok.injEq, Sl.own.injEq, Br.isV_none]
  cases o with
  | none => simp only [Option.isNone_none, ↓reduceIte]
  | some z =>
    simp only [Option.isNone_some, Bool.false_eq_true, ↓reduceIte, endD]
    simp only [wn_ok, wn_some, wn_only, wn_noex, wn_e2, wn_e1, wn_eN, wn_a0, wn_aC, wn_call, wn_tb, wn_tup, wn_lst, wn_andB, wn_orB, wn_notB, wn_andV, wn_orV, wn_notV, wn_ifV, wn_iA, wn_iR1, wn_iR2, wn_iZ, wn_iEn, wn_iRR, wn_sl, wn_p0, wn_p1, wn_up, wn_upB, wn_upI, wn_x2, wn_x0, wn_xC, wn_xN, wn_xb, wn_xAnd, wn_xOr, wn_xNot, wn_xIf, wn_xCall, wn_xR1, wn_xR2, sn_nx, sn_rt, sn_bk, sn_ct, sn_seq, sn_set, sn_ret, sn_expr, sn_if, sn_for, sn_xSet, sn_xRet, sn_xExpr, sn_xIf, sn_xFor, sn_asg, sn_xAsg, sn_own, sn_xOwn, gv_zero, gv_succ, go_own, go_dat, go_succ, k0_def, gN_def, tru_bool, tru_none, tru_int, tru_list, asSeq_list, asSeq_tup, addV_int, subV_int, ltA_i, leA_i, gtA_i, geA_i, negV_int, intV_int, lenV_list, lenV_tup, ixV_list, ixV_tup, asInt_int, slV_list, slV_tup, slL_list, revV_tup, revV_list, tupleV_list, listV_list, listV_tup, eqV_str, neV_str, eqV_int, List.set_cons_zero, List.set_cons_succ, List.getElem?_cons_zero, List.getElem?_cons_succ, List.length_cons, List.length_nil, ↓reduceIte, Bool.false_eq_true, Bool.not_true, Bool.not_false, wn_ite, gT2, gT3, neV_tup, eqV_tup, in_tup, notin_tup', lineN_eq, Nat.reduceAdd, Nat.reduceLeDiff, Nat.zero_le, true_and, and_true, List.map_nil, List.map_cons, exists_eq_left', Option.some.injEq, PyData.list.injEq, exists_eq_left, PyData.int.injEq, R.ok.injEq, Sl.own.injEq, isi_int, isi_bool, show kInt (.int z) = true from rfl, show kBool (.int z) = false from rfl, beq_self_eq_true]
theorem fine_part {n : Int} {x : Bar} {cs : List Bar} (hl : cs.length ≤ 100) : Fine 1 5000 (.list ((partB n x 0 cs).map PyData.int)) := by
  have lp := partB_len (n := n) (x := x) (ys := cs) (i := 0)
  have f := fine_list (k := 0) (n := 41) (xs := (partB n x 0 cs).map PyData.int) fun d m => by
    obtain ⟨j, mj, rfl⟩ := List.mem_map.mp m
    have := partB_in j mj
    exact fine_int (by omega) (by omega)
  refine f.mono (Nat.le_refl _) ?_
  rw [List.length_map]
  omega
theorem isi_list (l : List D) : isiV "list" (.list l) = some (.bool true) := by
  have h : ∀ s, kitB s "list" = some (s == "list") → (kitB s "list").map PyData.bool = some (.bool (s == "list")) := fun s e => by rw [e]; rfl
  exact h "list" (by decide +kernel)
theorem law_true (ns : List Int) (hl : ns.length ≤ 63) : F_law [.list (ns.map PyData.int)] = .ok (.bool true) := by
  refine Wn.eq (wn_runD ?_)
  show Sn (G_law [.d (.list (ns.map PyData.int)), .no, .no, .no, .no, .no, .no, .no, .no, .no]) _ _ _ _
  unfold G_law
  rw [e_draw, e_lists, e_cost, e_alone, e_needs, e_partners]
  simp only [wn_ok, wn_some, wn_only, wn_noex, wn_e2, wn_e1, wn_eN, wn_a0, wn_aC, wn_call, wn_tb, wn_tup, wn_lst, wn_andB, wn_orB, wn_notB, wn_andV, wn_orV, wn_notV, wn_ifV, wn_iA, wn_iR1, wn_iR2, wn_iZ, wn_iEn, wn_iRR, wn_sl, wn_p0, wn_p1, wn_up, wn_upB, wn_upI, wn_x2, wn_x0, wn_xC, wn_xN, wn_xb, wn_xAnd, wn_xOr, wn_xNot, wn_xIf, wn_xCall, wn_xR1, wn_xR2, sn_nx, sn_rt, sn_bk, sn_ct, sn_seq, sn_set, sn_ret, sn_expr, sn_if, sn_for, sn_xSet, sn_xRet, sn_xExpr, sn_xIf, sn_xFor, sn_asg, sn_xAsg, sn_own, sn_xOwn, gv_zero, gv_succ, go_own, go_dat, go_succ, k0_def, gN_def, tru_bool, tru_none, tru_int, tru_list, asSeq_list, asSeq_tup, addV_int, subV_int, ltA_i, leA_i, gtA_i, geA_i, negV_int, intV_int, lenV_list, lenV_tup, ixV_list, ixV_tup, asInt_int, slV_list, slV_tup, slL_list, revV_tup, revV_list, tupleV_list, listV_list, listV_tup, eqV_str, neV_str, eqV_int, List.set_cons_zero, List.set_cons_succ, List.getElem?_cons_zero, List.getElem?_cons_succ, List.length_cons, List.length_nil, ↓reduceIte, Bool.false_eq_true, Bool.not_true, Bool.not_false, wn_ite, gT2, gT3, neV_tup, eqV_tup, in_tup, notin_tup', lineN_eq, Nat.reduceAdd, Nat.reduceLeDiff, Nat.zero_le, true_and, and_true, List.map_nil, List.map_cons, exists_eq_left', Option.some.injEq, PyData.list.injEq, exists_eq_left, PyData.int.injEq, R.ok.injEq, Sl.own.injEq]
  refine lists_w (by decide) (by decide) (by decide) fun bs cs gb gc lb lc => ?_
  have lb : bs.length ≤ 7 := lb
  have lc : cs.length ≤ 9 := lc
  refine ⟨_, gT2, ?_⟩
  simp only [wn_ok, wn_some, wn_only, wn_noex, wn_e2, wn_e1, wn_eN, wn_a0, wn_aC, wn_call, wn_tb, wn_tup, wn_lst, wn_andB, wn_orB, wn_notB, wn_andV, wn_orV, wn_notV, wn_ifV, wn_iA, wn_iR1, wn_iR2, wn_iZ, wn_iEn, wn_iRR, wn_sl, wn_p0, wn_p1, wn_up, wn_upB, wn_upI, wn_x2, wn_x0, wn_xC, wn_xN, wn_xb, wn_xAnd, wn_xOr, wn_xNot, wn_xIf, wn_xCall, wn_xR1, wn_xR2, sn_nx, sn_rt, sn_bk, sn_ct, sn_seq, sn_set, sn_ret, sn_expr, sn_if, sn_for, sn_xSet, sn_xRet, sn_xExpr, sn_xIf, sn_xFor, sn_asg, sn_xAsg, sn_own, sn_xOwn, gv_zero, gv_succ, go_own, go_dat, go_succ, k0_def, gN_def, tru_bool, tru_none, tru_int, tru_list, asSeq_list, asSeq_tup, addV_int, subV_int, ltA_i, leA_i, gtA_i, geA_i, negV_int, intV_int, lenV_list, lenV_tup, ixV_list, ixV_tup, asInt_int, slV_list, slV_tup, slL_list, revV_tup, revV_list, tupleV_list, listV_list, listV_tup, eqV_str, neV_str, eqV_int, List.set_cons_zero, List.set_cons_succ, List.getElem?_cons_zero, List.getElem?_cons_succ, List.length_cons, List.length_nil, ↓reduceIte, Bool.false_eq_true, Bool.not_true, Bool.not_false, wn_ite, gT2, gT3, neV_tup, eqV_tup, in_tup, notin_tup', lineN_eq, Nat.reduceAdd, Nat.reduceLeDiff, Nat.zero_le, true_and, and_true, List.map_nil, List.map_cons, exists_eq_left', Option.some.injEq, PyData.list.injEq, exists_eq_left, PyData.int.injEq, R.ok.injEq, Sl.own.injEq]
  refine draw_w (by decide) (by decide) fun i0 i00 i01 => ?_
  obtain ⟨w, w0, ew⟩ : ∃ w : Int, 0 < w ∧ atD [.int 6, .int 30, .int 900] i0 = some (.int w) := by
    have : i0 = 0 ∨ i0 = 1 ∨ i0 = 2 := by omega
    rcases this with rfl | rfl | rfl <;> exact ⟨_, by decide, rfl⟩
  simp only [wn_ok, wn_some, wn_only, wn_noex, wn_e2, wn_e1, wn_eN, wn_a0, wn_aC, wn_call, wn_tb, wn_tup, wn_lst, wn_andB, wn_orB, wn_notB, wn_andV, wn_orV, wn_notV, wn_ifV, wn_iA, wn_iR1, wn_iR2, wn_iZ, wn_iEn, wn_iRR, wn_sl, wn_p0, wn_p1, wn_up, wn_upB, wn_upI, wn_x2, wn_x0, wn_xC, wn_xN, wn_xb, wn_xAnd, wn_xOr, wn_xNot, wn_xIf, wn_xCall, wn_xR1, wn_xR2, sn_nx, sn_rt, sn_bk, sn_ct, sn_seq, sn_set, sn_ret, sn_expr, sn_if, sn_for, sn_xSet, sn_xRet, sn_xExpr, sn_xIf, sn_xFor, sn_asg, sn_xAsg, sn_own, sn_xOwn, gv_zero, gv_succ, go_own, go_dat, go_succ, k0_def, gN_def, tru_bool, tru_none, tru_int, tru_list, asSeq_list, asSeq_tup, addV_int, subV_int, ltA_i, leA_i, gtA_i, geA_i, negV_int, intV_int, lenV_list, lenV_tup, ixV_list, ixV_tup, asInt_int, slV_list, slV_tup, slL_list, revV_tup, revV_list, tupleV_list, listV_list, listV_tup, eqV_str, neV_str, eqV_int, List.set_cons_zero, List.set_cons_succ, List.getElem?_cons_zero, List.getElem?_cons_succ, List.length_cons, List.length_nil, ↓reduceIte, Bool.false_eq_true, Bool.not_true, Bool.not_false, wn_ite, gT2, gT3, neV_tup, eqV_tup, in_tup, notin_tup', lineN_eq, Nat.reduceAdd, Nat.reduceLeDiff, Nat.zero_le, true_and, and_true, List.map_nil, List.map_cons, exists_eq_left', Option.some.injEq, PyData.list.injEq, exists_eq_left, PyData.int.injEq, R.ok.injEq, Sl.own.injEq, ew]
  refine draw_w (by decide) w0 fun n n0 n1 => ?_
  generalize hS : (PyData.list (ns.map PyData.int)) = S
  refine sn_loop (fun rest η => ∃ (xs : List Bar) (s4 s5 s6 s7 s8 s9 : Sl), rest = xs.map bD ∧ η = [.d S, .d (.list (bs.map bD)), .d (.list (cs.map bD)), .d (.int n), s4, s5, s6, s7, s8, s9]) ?_ ?_ _ _ ⟨bs, _, _, _, _, _, _, rfl, rfl⟩
  · rintro y rest η ⟨xs, s4, s5, s6, s7, s8, s9, e1, rfl⟩
    cases xs with
    | nil => cases e1
    | cons x xs =>
      rw [List.map_cons] at e1
      obtain ⟨rfl, rfl⟩ := List.cons.inj e1
      refine ⟨_, rfl, ?_⟩
      simp only [wn_ok, wn_some, wn_only, wn_noex, wn_e2, wn_e1, wn_eN, wn_a0, wn_aC, wn_call, wn_tb, wn_tup, wn_lst, wn_andB, wn_orB, wn_notB, wn_andV, wn_orV, wn_notV, wn_ifV, wn_iA, wn_iR1, wn_iR2, wn_iZ, wn_iEn, wn_iRR, wn_sl, wn_p0, wn_p1, wn_up, wn_upB, wn_upI, wn_x2, wn_x0, wn_xC, wn_xN, wn_xb, wn_xAnd, wn_xOr, wn_xNot, wn_xIf, wn_xCall, wn_xR1, wn_xR2, sn_nx, sn_rt, sn_bk, sn_ct, sn_seq, sn_set, sn_ret, sn_expr, sn_if, sn_for, sn_xSet, sn_xRet, sn_xExpr, sn_xIf, sn_xFor, sn_asg, sn_xAsg, sn_own, sn_xOwn, gv_zero, gv_succ, go_own, go_dat, go_succ, k0_def, gN_def, tru_bool, tru_none, tru_int, tru_list, asSeq_list, asSeq_tup, addV_int, subV_int, ltA_i, leA_i, gtA_i, geA_i, negV_int, intV_int, lenV_list, lenV_tup, ixV_list, ixV_tup, asInt_int, slV_list, slV_tup, slL_list, revV_tup, revV_list, tupleV_list, listV_list, listV_tup, eqV_str, neV_str, eqV_int, List.set_cons_zero, List.set_cons_succ, List.getElem?_cons_zero, List.getElem?_cons_succ, List.length_cons, List.length_nil, ↓reduceIte, Bool.false_eq_true, Bool.not_true, Bool.not_false, wn_ite, gT2, gT3, neV_tup, eqV_tup, in_tup, notin_tup', lineN_eq, Nat.reduceAdd, Nat.reduceLeDiff, Nat.zero_le, true_and, and_true, List.map_nil, List.map_cons, exists_eq_left', Option.some.injEq, PyData.list.injEq, exists_eq_left, PyData.int.injEq, R.ok.injEq, Sl.own.injEq, palone_ok, alone_ok, law_is_ok, pbound_ok, needs_ok, isi_bool, show ∀ b, kBool (.bool b) = true from fun _ => rfl, neV_bool, beq_self_eq_true, show listV [.list (cs.map bD)] = some (.list (cs.map bD)) from rfl]
      rw [wn_rng1 (by decide) (by decide)]
      refine sn_loop (fun rest η => ∃ (s7 s8 s9 : Sl), η = [.d S, .d (.list (bs.map bD)), .d (.list (cs.map bD)), .d (.int n), .d (bD x), .d (.bool (needB x n)), .d (.list (cs.map bD)), s7, s8, s9]) ?_ ?_ _ _ ⟨_, _, _, rfl⟩
      · rintro y rest η ⟨s7, s8, s9, rfl⟩
        refine ⟨_, rfl, ?_⟩
        simp only [wn_ok, wn_some, wn_only, wn_noex, wn_e2, wn_e1, wn_eN, wn_a0, wn_aC, wn_call, wn_tb, wn_tup, wn_lst, wn_andB, wn_orB, wn_notB, wn_andV, wn_orV, wn_notV, wn_ifV, wn_iA, wn_iR1, wn_iR2, wn_iZ, wn_iEn, wn_iRR, wn_sl, wn_p0, wn_p1, wn_up, wn_upB, wn_upI, wn_x2, wn_x0, wn_xC, wn_xN, wn_xb, wn_xAnd, wn_xOr, wn_xNot, wn_xIf, wn_xCall, wn_xR1, wn_xR2, sn_nx, sn_rt, sn_bk, sn_ct, sn_seq, sn_set, sn_ret, sn_expr, sn_if, sn_for, sn_xSet, sn_xRet, sn_xExpr, sn_xIf, sn_xFor, sn_asg, sn_xAsg, sn_own, sn_xOwn, gv_zero, gv_succ, go_own, go_dat, go_succ, k0_def, gN_def, tru_bool, tru_none, tru_int, tru_list, asSeq_list, asSeq_tup, addV_int, subV_int, ltA_i, leA_i, gtA_i, geA_i, negV_int, intV_int, lenV_list, lenV_tup, ixV_list, ixV_tup, asInt_int, slV_list, slV_tup, slL_list, revV_tup, revV_list, tupleV_list, listV_list, listV_tup, eqV_str, neV_str, eqV_int, List.set_cons_zero, List.set_cons_succ, List.getElem?_cons_zero, List.getElem?_cons_succ, List.length_cons, List.length_nil, ↓reduceIte, Bool.false_eq_true, Bool.not_true, Bool.not_false, wn_ite, gT2, gT3, neV_tup, eqV_tup, in_tup, notin_tup', lineN_eq, Nat.reduceAdd, Nat.reduceLeDiff, Nat.zero_le, true_and, and_true, List.map_nil, List.map_cons, exists_eq_left', Option.some.injEq, PyData.list.injEq, exists_eq_left, PyData.int.injEq, R.ok.injEq, Sl.own.injEq, ppartners_ok (n := n) (x := x) (cs := cs) (by omega), partners_ok (n := n) (x := x) (cs := cs) (by omega), isi_list, (fine_part (n := n) (x := x) (cs := cs) (by omega)).repr (by decide) (by decide), same_bars gc (show cs.length ≤ 100 by omega), decide_true]
        refine sn_app rfl ?_
        simp only [wn_ok, wn_some, wn_only, wn_noex, wn_e2, wn_e1, wn_eN, wn_a0, wn_aC, wn_call, wn_tb, wn_tup, wn_lst, wn_andB, wn_orB, wn_notB, wn_andV, wn_orV, wn_notV, wn_ifV, wn_iA, wn_iR1, wn_iR2, wn_iZ, wn_iEn, wn_iRR, wn_sl, wn_p0, wn_p1, wn_up, wn_upB, wn_upI, wn_x2, wn_x0, wn_xC, wn_xN, wn_xb, wn_xAnd, wn_xOr, wn_xNot, wn_xIf, wn_xCall, wn_xR1, wn_xR2, sn_nx, sn_rt, sn_bk, sn_ct, sn_seq, sn_set, sn_ret, sn_expr, sn_if, sn_for, sn_xSet, sn_xRet, sn_xExpr, sn_xIf, sn_xFor, sn_asg, sn_xAsg, sn_own, sn_xOwn, gv_zero, gv_succ, go_own, go_dat, go_succ, k0_def, gN_def, tru_bool, tru_none, tru_int, tru_list, asSeq_list, asSeq_tup, addV_int, subV_int, ltA_i, leA_i, gtA_i, geA_i, negV_int, intV_int, lenV_list, lenV_tup, ixV_list, ixV_tup, asInt_int, slV_list, slV_tup, slL_list, revV_tup, revV_list, tupleV_list, listV_list, listV_tup, eqV_str, neV_str, eqV_int, List.set_cons_zero, List.set_cons_succ, List.getElem?_cons_zero, List.getElem?_cons_succ, List.length_cons, List.length_nil, ↓reduceIte, Bool.false_eq_true, Bool.not_true, Bool.not_false, wn_ite, gT2, gT3, neV_tup, eqV_tup, in_tup, notin_tup', lineN_eq, Nat.reduceAdd, Nat.reduceLeDiff, Nat.zero_le, true_and, and_true, List.map_nil, List.map_cons, exists_eq_left', Option.some.injEq, PyData.list.injEq, exists_eq_left, PyData.int.injEq, R.ok.injEq, Sl.own.injEq]
        have lp := partB_len (n := n) (x := x) (ys := cs) (i := 0)
        exact ⟨by rw [List.length_map]; omega, _, _, _, rfl⟩
      · rintro η ⟨s7, s8, s9, rfl⟩
        simp only [wn_ok, wn_some, wn_only, wn_noex, wn_e2, wn_e1, wn_eN, wn_a0, wn_aC, wn_call, wn_tb, wn_tup, wn_lst, wn_andB, wn_orB, wn_notB, wn_andV, wn_orV, wn_notV, wn_ifV, wn_iA, wn_iR1, wn_iR2, wn_iZ, wn_iEn, wn_iRR, wn_sl, wn_p0, wn_p1, wn_up, wn_upB, wn_upI, wn_x2, wn_x0, wn_xC, wn_xN, wn_xb, wn_xAnd, wn_xOr, wn_xNot, wn_xIf, wn_xCall, wn_xR1, wn_xR2, sn_nx, sn_rt, sn_bk, sn_ct, sn_seq, sn_set, sn_ret, sn_expr, sn_if, sn_for, sn_xSet, sn_xRet, sn_xExpr, sn_xIf, sn_xFor, sn_asg, sn_xAsg, sn_own, sn_xOwn, gv_zero, gv_succ, go_own, go_dat, go_succ, k0_def, gN_def, tru_bool, tru_none, tru_int, tru_list, asSeq_list, asSeq_tup, addV_int, subV_int, ltA_i, leA_i, gtA_i, geA_i, negV_int, intV_int, lenV_list, lenV_tup, ixV_list, ixV_tup, asInt_int, slV_list, slV_tup, slL_list, revV_tup, revV_list, tupleV_list, listV_list, listV_tup, eqV_str, neV_str, eqV_int, List.set_cons_zero, List.set_cons_succ, List.getElem?_cons_zero, List.getElem?_cons_succ, List.length_cons, List.length_nil, ↓reduceIte, Bool.false_eq_true, Bool.not_true, Bool.not_false, wn_ite, gT2, gT3, neV_tup, eqV_tup, in_tup, notin_tup', lineN_eq, Nat.reduceAdd, Nat.reduceLeDiff, Nat.zero_le, true_and, and_true, List.map_nil, List.map_cons, exists_eq_left', Option.some.injEq, PyData.list.injEq, exists_eq_left, PyData.int.injEq, R.ok.injEq, Sl.own.injEq]
        refine sn_loop (fun rest η => ∃ (ys : List Bar) (s9 : Sl), rest = ys.map bD ∧ η = [.d S, .d (.list (bs.map bD)), .d (.list (cs.map bD)), .d (.int n), .d (bD x), .d (.bool (needB x n)), .d (.list (cs.map bD)), s7, s8, s9]) ?_ ?_ _ _ ⟨cs, _, rfl, rfl⟩
        · rintro y rest η ⟨ys, s9, e1, rfl⟩
          cases ys with
          | nil => cases e1
          | cons y ys =>
            rw [List.map_cons] at e1
            obtain ⟨rfl, rfl⟩ := List.cons.inj e1
            refine ⟨_, rfl, ?_⟩
            simp only [wn_ok, wn_some, wn_only, wn_noex, wn_e2, wn_e1, wn_eN, wn_a0, wn_aC, wn_call, wn_tb, wn_tup, wn_lst, wn_andB, wn_orB, wn_notB, wn_andV, wn_orV, wn_notV, wn_ifV, wn_iA, wn_iR1, wn_iR2, wn_iZ, wn_iEn, wn_iRR, wn_sl, wn_p0, wn_p1, wn_up, wn_upB, wn_upI, wn_x2, wn_x0, wn_xC, wn_xN, wn_xb, wn_xAnd, wn_xOr, wn_xNot, wn_xIf, wn_xCall, wn_xR1, wn_xR2, sn_nx, sn_rt, sn_bk, sn_ct, sn_seq, sn_set, sn_ret, sn_expr, sn_if, sn_for, sn_xSet, sn_xRet, sn_xExpr, sn_xIf, sn_xFor, sn_asg, sn_xAsg, sn_own, sn_xOwn, gv_zero, gv_succ, go_own, go_dat, go_succ, k0_def, gN_def, tru_bool, tru_none, tru_int, tru_list, asSeq_list, asSeq_tup, addV_int, subV_int, ltA_i, leA_i, gtA_i, geA_i, negV_int, intV_int, lenV_list, lenV_tup, ixV_list, ixV_tup, asInt_int, slV_list, slV_tup, slL_list, revV_tup, revV_list, tupleV_list, listV_list, listV_tup, eqV_str, neV_str, eqV_int, List.set_cons_zero, List.set_cons_succ, List.getElem?_cons_zero, List.getElem?_cons_succ, List.length_cons, List.length_nil, ↓reduceIte, Bool.false_eq_true, Bool.not_true, Bool.not_false, wn_ite, gT2, gT3, neV_tup, eqV_tup, in_tup, notin_tup', lineN_eq, Nat.reduceAdd, Nat.reduceLeDiff, Nat.zero_le, true_and, and_true, List.map_nil, List.map_cons, exists_eq_left', Option.some.injEq, PyData.list.injEq, exists_eq_left, PyData.int.injEq, R.ok.injEq, Sl.own.injEq, pcost_ok, cost_ok, costB_sym y x, law_is_ok]
            exact ⟨ys, _, rfl, rfl⟩
        · rintro η ⟨ys, s9, e1, rfl⟩
          exact ⟨xs, _, _, _, _, _, _, rfl, rfl⟩
  · rintro η ⟨xs, s4, s5, s6, s7, s8, s9, e1, rfl⟩
    simp only [wn_ok, wn_some, wn_only, wn_noex, wn_e2, wn_e1, wn_eN, wn_a0, wn_aC, wn_call, wn_tb, wn_tup, wn_lst, wn_andB, wn_orB, wn_notB, wn_andV, wn_orV, wn_notV, wn_ifV, wn_iA, wn_iR1, wn_iR2, wn_iZ, wn_iEn, wn_iRR, wn_sl, wn_p0, wn_p1, wn_up, wn_upB, wn_upI, wn_x2, wn_x0, wn_xC, wn_xN, wn_xb, wn_xAnd, wn_xOr, wn_xNot, wn_xIf, wn_xCall, wn_xR1, wn_xR2, sn_nx, sn_rt, sn_bk, sn_ct, sn_seq, sn_set, sn_ret, sn_expr, sn_if, sn_for, sn_xSet, sn_xRet, sn_xExpr, sn_xIf, sn_xFor, sn_asg, sn_xAsg, sn_own, sn_xOwn, gv_zero, gv_succ, go_own, go_dat, go_succ, k0_def, gN_def, tru_bool, tru_none, tru_int, tru_list, asSeq_list, asSeq_tup, addV_int, subV_int, ltA_i, leA_i, gtA_i, geA_i, negV_int, intV_int, lenV_list, lenV_tup, ixV_list, ixV_tup, asInt_int, slV_list, slV_tup, slL_list, revV_tup, revV_list, tupleV_list, listV_list, listV_tup, eqV_str, neV_str, eqV_int, List.set_cons_zero, List.set_cons_succ, List.getElem?_cons_zero, List.getElem?_cons_succ, List.length_cons, List.length_nil, ↓reduceIte, Bool.false_eq_true, Bool.not_true, Bool.not_false, wn_ite, gT2, gT3, neV_tup, eqV_tup, in_tup, notin_tup', lineN_eq, Nat.reduceAdd, Nat.reduceLeDiff, Nat.zero_le, true_and, and_true, List.map_nil, List.map_cons, exists_eq_left', Option.some.injEq, PyData.list.injEq, exists_eq_left, PyData.int.injEq, R.ok.injEq, Sl.own.injEq]
end Bd
namespace Bd
open PySem L2
set_option maxHeartbeats 4000000 in
theorem all_mk {l : PySem.W.OpenLaw} {w : World} {K : PySem.W.Frag} {h : Heap} {mg : Str → Option Value} {fa : Addr} (X : K.In h) (Gm : h.Ns mainGlobals mg) (hfa : mg "law" = some (.ref fa))
    {f1 f2 f3 f4 f5 f6 f7 f8 f9 f10 f11 f12 f13 f14 f15 f16 : Addr} {od1 an1 od2 an2 od3 an3 od4 an4 od5 an5 od6 an6 od7 an7 od8 an8 od9 an9 od10 an10 od11 an11 od12 an12 od13 an13 od14 an14 od15 an15 od16 an16 : Option Addr} {sl1 sl2 sl3 sl4 sl5 sl6 sl7 sl8 sl9 sl10 sl11 sl12 sl13 sl14 sl15 sl16 : Array (Option Value)} {oc1 kV1 dc1 pm1 cd1 ct1 oc2 kV2 dc2 pm2 cd2 ct2 oc3 kV3 dc3 pm3 cd3 ct3 oc4 kV4 dc4 pm4 cd4 ct4 oc5 kV5 dc5 pm5 cd5 ct5 oc6 kV6 dc6 pm6 cd6 ct6 oc7 kV7 dc7 pm7 cd7 ct7 oc8 kV8 dc8 pm8 cd8 ct8 oc9 kV9 dc9 pm9 cd9 ct9 oc10 kV10 dc10 pm10 cd10 ct10 oc11 kV11 dc11 pm11 cd11 ct11 oc12 kV12 dc12 pm12 cd12 ct12 oc13 kV13 dc13 pm13 cd13 ct13 oc14 kV14 dc14 pm14 cd14 ct14 oc15 kV15 dc15 pm15 cd15 ct15 oc16 kV16 dc16 pm16 cd16 ct16 : Value}
    (a1 : PySem.W.nsIn K mainGlobals "cost" = some (some (.ref f1))) (l1 : K.lookup f1 = some ⟨oc1, od1, .func (PySem.W.fnOf "cost" "cost" (defArgs s_cost) (defBody s_cost) (defScope s_cost) .none kV1 dc1 pm1 an1 cd1 ct1), sl1⟩) (c1 : PySem.W.codeIn K cd1 "cost" = true) (k1 : PySem.W.keepIn K (.ref f1) = true)
    (a2 : PySem.W.nsIn K mainGlobals "cost_alone" = some (some (.ref f2))) (l2 : K.lookup f2 = some ⟨oc2, od2, .func (PySem.W.fnOf "cost_alone" "cost_alone" (defArgs s_cost_alone) (defBody s_cost_alone) (defScope s_cost_alone) .none kV2 dc2 pm2 an2 cd2 ct2), sl2⟩) (c2 : PySem.W.codeIn K cd2 "cost_alone" = true) (k2 : PySem.W.keepIn K (.ref f2) = true)
    (a3 : PySem.W.nsIn K mainGlobals "_is_within" = some (some (.ref f3))) (l3 : K.lookup f3 = some ⟨oc3, od3, .func (PySem.W.fnOf "_is_within" "_is_within" (defArgs s__is_within) (defBody s__is_within) (defScope s__is_within) .none kV3 dc3 pm3 an3 cd3 ct3), sl3⟩) (c3 : PySem.W.codeIn K cd3 "_is_within" = true) (k3 : PySem.W.keepIn K (.ref f3) = true)
    (a4 : PySem.W.nsIn K mainGlobals "is_bound" = some (some (.ref f4))) (l4 : K.lookup f4 = some ⟨oc4, od4, .func (PySem.W.fnOf "is_bound" "is_bound" (defArgs s_is_bound) (defBody s_is_bound) (defScope s_is_bound) .none kV4 dc4 pm4 an4 cd4 ct4), sl4⟩) (c4 : PySem.W.codeIn K cd4 "is_bound" = true) (k4 : PySem.W.keepIn K (.ref f4) = true)
    (a5 : PySem.W.nsIn K mainGlobals "are_partners" = some (some (.ref f5))) (l5 : K.lookup f5 = some ⟨oc5, od5, .func (PySem.W.fnOf "are_partners" "are_partners" (defArgs s_are_partners) (defBody s_are_partners) (defScope s_are_partners) .none kV5 dc5 pm5 an5 cd5 ct5), sl5⟩) (c5 : PySem.W.codeIn K cd5 "are_partners" = true) (k5 : PySem.W.keepIn K (.ref f5) = true)
    (a6 : PySem.W.nsIn K mainGlobals "partners" = some (some (.ref f6))) (l6 : K.lookup f6 = some ⟨oc6, od6, .func (PySem.W.fnOf "partners" "partners" (defArgs s_partners) (defBody s_partners) (defScope s_partners) .none kV6 dc6 pm6 an6 cd6 ct6), sl6⟩) (c6 : PySem.W.codeIn K cd6 "partners" = true) (k6 : PySem.W.keepIn K (.ref f6) = true)
    (a7 : PySem.W.nsIn K mainGlobals "_law_draw" = some (some (.ref f7))) (l7 : K.lookup f7 = some ⟨oc7, od7, .func (PySem.W.fnOf "_law_draw" "_law_draw" (defArgs s__law_draw) (defBody s__law_draw) (defScope s__law_draw) .none kV7 dc7 pm7 an7 cd7 ct7), sl7⟩) (c7 : PySem.W.codeIn K cd7 "_law_draw" = true) (k7 : PySem.W.keepIn K (.ref f7) = true)
    (a8 : PySem.W.nsIn K mainGlobals "_law_bar" = some (some (.ref f8))) (l8 : K.lookup f8 = some ⟨oc8, od8, .func (PySem.W.fnOf "_law_bar" "_law_bar" (defArgs s__law_bar) (defBody s__law_bar) (defScope s__law_bar) .none kV8 dc8 pm8 an8 cd8 ct8), sl8⟩) (c8 : PySem.W.codeIn K cd8 "_law_bar" = true) (k8 : PySem.W.keepIn K (.ref f8) = true)
    (a9 : PySem.W.nsIn K mainGlobals "_law_near" = some (some (.ref f9))) (l9 : K.lookup f9 = some ⟨oc9, od9, .func (PySem.W.fnOf "_law_near" "_law_near" (defArgs s__law_near) (defBody s__law_near) (defScope s__law_near) .none kV9 dc9 pm9 an9 cd9 ct9), sl9⟩) (c9 : PySem.W.codeIn K cd9 "_law_near" = true) (k9 : PySem.W.keepIn K (.ref f9) = true)
    (a10 : PySem.W.nsIn K mainGlobals "_law_lists" = some (some (.ref f10))) (l10 : K.lookup f10 = some ⟨oc10, od10, .func (PySem.W.fnOf "_law_lists" "_law_lists" (defArgs s__law_lists) (defBody s__law_lists) (defScope s__law_lists) .none kV10 dc10 pm10 an10 cd10 ct10), sl10⟩) (c10 : PySem.W.codeIn K cd10 "_law_lists" = true) (k10 : PySem.W.keepIn K (.ref f10) = true)
    (a11 : PySem.W.nsIn K mainGlobals "_law_cost" = some (some (.ref f11))) (l11 : K.lookup f11 = some ⟨oc11, od11, .func (PySem.W.fnOf "_law_cost" "_law_cost" (defArgs s__law_cost) (defBody s__law_cost) (defScope s__law_cost) .none kV11 dc11 pm11 an11 cd11 ct11), sl11⟩) (c11 : PySem.W.codeIn K cd11 "_law_cost" = true) (k11 : PySem.W.keepIn K (.ref f11) = true)
    (a12 : PySem.W.nsIn K mainGlobals "_law_alone" = some (some (.ref f12))) (l12 : K.lookup f12 = some ⟨oc12, od12, .func (PySem.W.fnOf "_law_alone" "_law_alone" (defArgs s__law_alone) (defBody s__law_alone) (defScope s__law_alone) .none kV12 dc12 pm12 an12 cd12 ct12), sl12⟩) (c12 : PySem.W.codeIn K cd12 "_law_alone" = true) (k12 : PySem.W.keepIn K (.ref f12) = true)
    (a13 : PySem.W.nsIn K mainGlobals "_law_needs" = some (some (.ref f13))) (l13 : K.lookup f13 = some ⟨oc13, od13, .func (PySem.W.fnOf "_law_needs" "_law_needs" (defArgs s__law_needs) (defBody s__law_needs) (defScope s__law_needs) .none kV13 dc13 pm13 an13 cd13 ct13), sl13⟩) (c13 : PySem.W.codeIn K cd13 "_law_needs" = true) (k13 : PySem.W.keepIn K (.ref f13) = true)
    (a14 : PySem.W.nsIn K mainGlobals "_law_partners" = some (some (.ref f14))) (l14 : K.lookup f14 = some ⟨oc14, od14, .func (PySem.W.fnOf "_law_partners" "_law_partners" (defArgs s__law_partners) (defBody s__law_partners) (defScope s__law_partners) .none kV14 dc14 pm14 an14 cd14 ct14), sl14⟩) (c14 : PySem.W.codeIn K cd14 "_law_partners" = true) (k14 : PySem.W.keepIn K (.ref f14) = true)
    (a15 : PySem.W.nsIn K mainGlobals "_law_is" = some (some (.ref f15))) (l15 : K.lookup f15 = some ⟨oc15, od15, .func (PySem.W.fnOf "_law_is" "_law_is" (defArgs s__law_is) (defBody s__law_is) (defScope s__law_is) .none kV15 dc15 pm15 an15 cd15 ct15), sl15⟩) (c15 : PySem.W.codeIn K cd15 "_law_is" = true) (k15 : PySem.W.keepIn K (.ref f15) = true)
    (a16 : PySem.W.nsIn K mainGlobals "law" = some (some (.ref f16))) (l16 : K.lookup f16 = some ⟨oc16, od16, .func (PySem.W.fnOf "law" "law" (defArgs s_law) (defBody s_law) (defScope s_law) .none kV16 dc16 pm16 an16 cd16 ct16), sl16⟩) (c16 : PySem.W.codeIn K cd16 "law" = true) (k16 : PySem.W.keepIn K (.ref f16) = true)
    (z_abs : PySem.W.nsIn K mainGlobals "abs" = some none)
    (z_bool : PySem.W.nsIn K mainGlobals "bool" = some none)
    (z_enumerate : PySem.W.nsIn K mainGlobals "enumerate" = some none)
    (z_int : PySem.W.nsIn K mainGlobals "int" = some none)
    (z_isinstance : PySem.W.nsIn K mainGlobals "isinstance" = some none)
    (z_len : PySem.W.nsIn K mainGlobals "len" = some none)
    (z_list : PySem.W.nsIn K mainGlobals "list" = some none)
    (z_max : PySem.W.nsIn K mainGlobals "max" = some none)
    (z_min : PySem.W.nsIn K mainGlobals "min" = some none)
    (z_range : PySem.W.nsIn K mainGlobals "range" = some none)
    (z_repr : PySem.W.nsIn K mainGlobals "repr" = some none)
    : ∃ fd : FuncData, (∀ (s : Shared) (v : Value), BindsTo s fd ⟨[v], []⟩ [("script", v)]) ∧ ∀ base : Heap, K.In base → base.Ns mainGlobals mg → FnG l.prog w K mg base 4 fa fd ["script"] (spD K mg (rD K) 1 F_law) := by
  have e := hfa.symm.trans (PySem.W.mg_of X Gm a16)
  cases e
  have z : Zs mg := ⟨PySem.W.mg_none_of X Gm z_abs, PySem.W.mg_none_of X Gm z_bool, PySem.W.mg_none_of X Gm z_enumerate, PySem.W.mg_none_of X Gm z_int, PySem.W.mg_none_of X Gm z_isinstance, PySem.W.mg_none_of X Gm z_len, PySem.W.mg_none_of X Gm z_list, PySem.W.mg_none_of X Gm z_max, PySem.W.mg_none_of X Gm z_min, PySem.W.mg_none_of X Gm z_range, PySem.W.mg_none_of X Gm z_repr⟩
  refine ⟨PySem.W.fnOf "law" "law" (defArgs s_law) (defBody s_law) (defScope s_law) .none kV16 dc16 pm16 an16 cd16 ct16, fun s v => .of_eq rfl, fun base _ _ => ?_⟩
  have d_cost := ok_cost (P := l.prog) (w := w) (base := base) (fun_mk (st := s_cost) l1 c1 k1) z  (PySem.W.mg_of X Gm a1)
  have d_cost_alone := ok_cost_alone (P := l.prog) (w := w) (base := base) (fun_mk (st := s_cost_alone) l2 c2 k2) z  (PySem.W.mg_of X Gm a2)
  have d__is_within := ok__is_within (P := l.prog) (w := w) (base := base) (fun_mk (st := s__is_within) l3 c3 k3) z  (PySem.W.mg_of X Gm a3)
  have d_is_bound := ok_is_bound (P := l.prog) (w := w) (base := base) (fun_mk (st := s_is_bound) l4 c4 k4) z d__is_within d_cost_alone (PySem.W.mg_of X Gm a4)
  have d_are_partners := ok_are_partners (P := l.prog) (w := w) (base := base) (fun_mk (st := s_are_partners) l5 c5 k5) z d__is_within d_cost (PySem.W.mg_of X Gm a5)
  have d_partners := ok_partners (P := l.prog) (w := w) (base := base) (fun_mk (st := s_partners) l6 c6 k6) z d_are_partners (PySem.W.mg_of X Gm a6)
  have d__law_draw := ok__law_draw (P := l.prog) (w := w) (base := base) (fun_mk (st := s__law_draw) l7 c7 k7) z  (PySem.W.mg_of X Gm a7)
  have d__law_bar := ok__law_bar (P := l.prog) (w := w) (base := base) (fun_mk (st := s__law_bar) l8 c8 k8) z d__law_draw (PySem.W.mg_of X Gm a8)
  have d__law_near := ok__law_near (P := l.prog) (w := w) (base := base) (fun_mk (st := s__law_near) l9 c9 k9) z d__law_draw (PySem.W.mg_of X Gm a9)
  have d__law_lists := ok__law_lists (P := l.prog) (w := w) (base := base) (fun_mk (st := s__law_lists) l10 c10 k10) z d__law_bar d__law_draw d__law_near (PySem.W.mg_of X Gm a10)
  have d__law_cost := ok__law_cost (P := l.prog) (w := w) (base := base) (fun_mk (st := s__law_cost) l11 c11 k11) z  (PySem.W.mg_of X Gm a11)
  have d__law_alone := ok__law_alone (P := l.prog) (w := w) (base := base) (fun_mk (st := s__law_alone) l12 c12 k12) z  (PySem.W.mg_of X Gm a12)
  have d__law_needs := ok__law_needs (P := l.prog) (w := w) (base := base) (fun_mk (st := s__law_needs) l13 c13 k13) z  (PySem.W.mg_of X Gm a13)
  have d__law_partners := ok__law_partners (P := l.prog) (w := w) (base := base) (fun_mk (st := s__law_partners) l14 c14 k14) z d__law_cost (PySem.W.mg_of X Gm a14)
  have d__law_is := ok__law_is (P := l.prog) (w := w) (base := base) (fun_mk (st := s__law_is) l15 c15 k15) z  (PySem.W.mg_of X Gm a15)
  exact ok_law (P := l.prog) (w := w) (base := base) (fun_mk (st := s_law) l16 c16 k16) z d__law_alone d__law_cost d__law_draw d__law_is d__law_lists d__law_needs d__law_partners d_cost d_cost_alone d_is_bound d_partners
end Bd
open PySem PySem.W
set_option maxRecDepth 100000 in
set_option maxHeartbeats 0 in
theorem PySem.Challenge.cw_barstay_k51_costs_of_bars_holds : PySem.Challenge.rw_barstay_k51_costs_of_bars.Holds := by
  w_on; o_law; k_head; (case hw => w_witness2)
  k_fill
  refine Bd.walk_end (l := PySem.Challenge.rw_barstay_k51_costs_of_bars) (n := 63) (k := 4) (x := "script") (Fn := Bd.F_law) rfl (by decide) rfl ⟨rfl, by decide, by decide⟩ (fun w h Y => PySem.W.kIn_of Y) ?F (fun ns hl => Bd.law_true ns hl)
  case F =>
    intro w mg fa h KX G hmg
    refine' Bd.all_mk KX G hmg ?a1 ?l1 ?c1 ?k1 ?a2 ?l2 ?c2 ?k2 ?a3 ?l3 ?c3 ?k3 ?a4 ?l4 ?c4 ?k4 ?a5 ?l5 ?c5 ?k5 ?a6 ?l6 ?c6 ?k6 ?a7 ?l7 ?c7 ?k7 ?a8 ?l8 ?c8 ?k8 ?a9 ?l9 ?c9 ?k9 ?a10 ?l10 ?c10 ?k10 ?a11 ?l11 ?c11 ?k11 ?a12 ?l12 ?c12 ?k12 ?a13 ?l13 ?c13 ?k13 ?a14 ?l14 ?c14 ?k14 ?a15 ?l15 ?c15 ?k15 ?a16 ?l16 ?c16 ?k16 ?z_abs ?z_bool ?z_enumerate ?z_int ?z_isinstance ?z_len ?z_list ?z_max ?z_min ?z_range ?z_repr
    (case a1 => k_is)
    (case l1 => k_is)
    (case c1 => k_is)
    (case k1 => k_is)
    (case a2 => k_is)
    (case l2 => k_is)
    (case c2 => k_is)
    (case k2 => k_is)
    (case a3 => k_is)
    (case l3 => k_is)
    (case c3 => k_is)
    (case k3 => k_is)
    (case a4 => k_is)
    (case l4 => k_is)
    (case c4 => k_is)
    (case k4 => k_is)
    (case a5 => k_is)
    (case l5 => k_is)
    (case c5 => k_is)
    (case k5 => k_is)
    (case a6 => k_is)
    (case l6 => k_is)
    (case c6 => k_is)
    (case k6 => k_is)
    (case a7 => k_is)
    (case l7 => k_is)
    (case c7 => k_is)
    (case k7 => k_is)
    (case a8 => k_is)
    (case l8 => k_is)
    (case c8 => k_is)
    (case k8 => k_is)
    (case a9 => k_is)
    (case l9 => k_is)
    (case c9 => k_is)
    (case k9 => k_is)
    (case a10 => k_is)
    (case l10 => k_is)
    (case c10 => k_is)
    (case k10 => k_is)
    (case a11 => k_is)
    (case l11 => k_is)
    (case c11 => k_is)
    (case k11 => k_is)
    (case a12 => k_is)
    (case l12 => k_is)
    (case c12 => k_is)
    (case k12 => k_is)
    (case a13 => k_is)
    (case l13 => k_is)
    (case c13 => k_is)
    (case k13 => k_is)
    (case a14 => k_is)
    (case l14 => k_is)
    (case c14 => k_is)
    (case k14 => k_is)
    (case a15 => k_is)
    (case l15 => k_is)
    (case c15 => k_is)
    (case k15 => k_is)
    (case a16 => k_is)
    (case l16 => k_is)
    (case c16 => k_is)
    (case k16 => k_is)
    (case z_abs => k_is)
    (case z_bool => k_is)
    (case z_enumerate => k_is)
    (case z_int => k_is)
    (case z_isinstance => k_is)
    (case z_len => k_is)
    (case z_list => k_is)
    (case z_max => k_is)
    (case z_min => k_is)
    (case z_range => k_is)
    (case z_repr => k_is)
