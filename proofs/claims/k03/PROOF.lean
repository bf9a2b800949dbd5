import PyProof.Rows.All
import Wide.All
import OpenK.AllK
import Wide.FinOn
import HandS.ForMost
import HandS.ForExc
import HandS.ExcInit
import HandS.IsInst
import HandS.Flow
import HandS.Wide
import HandS.Defaults
import HandS.CallSlots
import HandS.TupAny
import HandS.TupMul
import HandS.Strs
import HandS.SetKeys
import HandS.Deep
import HandS.FStr
import HandS.Conv
import HandS.Style
import HandS.WideBits
import HandS.Zip
import HandS.NoneIn
import KE.KTupSum
import HandS.RaiseMore
import PyProof.CallFns
import HandS.EndBits
import HandS.SortInts
import KE.KSortedM
import PyProof.TupleOfStr
import HandS.Small
import PyProof.StrOps2
import KE.GoesMore
import PyProof.EnumMake
import PyProof.Draws
import HandS.OwnEq
import OpenK.KOps
import KE.KCallOwn
import KE.GoesEnumKw
import HandS.ExcIs
import HandS.ExcField
import KE.KExcIs
import HandS.Codes
import OpenK.KCls
import KE.KExcHand
import HandS.HeadHook4
import HandS.HeadEnd
import KE.DataFind
import PyProof.EqKinds
import PyProof.NeKinds
import KE.KStateDown
import KE.KIsAll
import HandS.Head0
import HandS.Head1
import HandS.Head2
import HandS.HeadHook1
import HandS.HeadHook2
import HandS.HeadHook3
import PySem.Challenge.RW_kindlestair_k03_webs_built_and_alike
set_option Elab.async false
set_option linter.all false
set_option maxRecDepth 100000
set_option maxHeartbeats 2000000
/-! Value semantics over the hand layer: data as plain trees (D), local lists owned by one slot (MO), each construct as a function upon an environment of slots; what such a function answers the program answers. -/
namespace VS
open PySem L2
/-! ### data -/
inductive D where
  | non | bl (b : Bool) | int (i : Int) | str (x : Str)
  | tup (xs : List D) | lst (xs : List D) | frl (xs : List D) | dct (kvs : List (Key × D))
  | ins (c : Nat) (xs : List D) | exc (c : Nat) (xs : List D)
instance : Inhabited D := ⟨.non⟩
/-- what stands in a slot and may be changed there -/
inductive MO where
  | lst (xs : List D) | dct (kvs : List (Key × D)) | ins (c : Nat) (xs : List D)
def MO.frz : MO → D
  | .lst xs => .lst xs
  | .dct kvs => .dct kvs
  | .ins c xs => .ins c xs
inductive Sl where
  | val (d : D) | own (lent : Bool) (m : MO)
abbrev VEnv := List (Option Sl)
/-- the classes' places, their fields in order; an exception's record by its class and dict -/
structure Txt where
  cl : Nat → Addr
  fl : Nat → List Str
def Ex (F H : Hp) : Prop := ∀ a o, F a = some o → H a = some o
theorem Ex.refl (F : Hp) : Ex F F := fun _ _ h => h
theorem Ex.trans {F G H : Hp} (a : Ex F G) (b : Ex G H) : Ex F H := fun x o h => b x o (a x o h)
theorem Ex.new {F : Hp} {p : Addr} {o : HO} (h : F p = none) : Ex F (upd F p o) := fun a u e => by
  rw [upd_ne (ne_of_none e h)]; exact e
theorem Ex.none {F H : Hp} (e : Ex F H) {p : Addr} (h : H p = none) : F p = none := by
  cases q : F p with
  | none => rfl
  | some o => rw [e p o q] at h; cases h
theorem Ex.rd {F H : Hp} {a : Addr} {u : HO} (e : Ex F H) (h : Rd F a u) : Rd H a u := by
  rcases h with h | ⟨o, h⟩
  · exact .inl (e a _ h)
  · exact .inr ⟨o, e a _ h⟩
theorem Ex.sqT {K : PySem.W.Frag} {F H : Hp} {a : Addr} {xs : List V} (e : Ex F H) (h : SqT K F a xs) : SqT K H a xs := by
  rcases h with h | h
  · exact .inl (e.rd h)
  · exact .inr h
theorem Ex.sqL {K : PySem.W.Frag} {F H : Hp} {a : Addr} {xs : List V} (e : Ex F H) (h : SqL K F a xs) : SqL K H a xs := by
  rcases h with h | h
  · exact .inl (e.rd h)
  · exact .inr h
/-- an exception that is held: at a an object of the class at C, its dict at d (or none) -/
def exH (a C : Addr) (d : Option Addr) : HO := .ext fun h => ∃ o, h.get? a = some o ∧ Zc (.ref C) d o ∧ ∃ vs, o.data = .fields vs
mutual
def Rep (K : PySem.W.Frag) (T : Txt) (F : Hp) : D → V → Prop
  | .non, v => v = .non
  | .bl b, v => v = .bl b
  | .int i, v => v = .int i
  | .str x, v => v = .str x
  | .tup xs, v => ∃ a vs, v = .ref a ∧ SqT K F a vs ∧ Reps K T F xs vs
  | .lst xs, v => ∃ a vs, v = .ref a ∧ F a = some (.lst vs) ∧ Reps K T F xs vs
  | .frl xs, v => ∃ a vs, v = .ref a ∧ SqL K F a vs ∧ Reps K T F xs vs
  | .dct kvs, v => ∃ a ws, v = .ref a ∧ F a = some (.dK ws) ∧ RepK K T F kvs ws
  | .ins c xs, v => ∃ a dx vs, v = .ref a ∧ F a = some (.ins (T.cl c) dx ((T.fl c).zip vs)) ∧ vs.length ≤ (T.fl c).length ∧ Reps K T F xs vs
  | .exc c xs, v => ∃ a dd vs, v = .ref a ∧ F a = some (exH a (T.cl c) dd) ∧ (∀ d, dd = some d → F d = some (.xd ((T.fl c).zip vs))) ∧ (dd = none → vs = []) ∧ Reps K T F xs vs
def Reps (K : PySem.W.Frag) (T : Txt) (F : Hp) : List D → List V → Prop
  | [], vs => vs = []
  | d :: ds, vs => ∃ v ws, vs = v :: ws ∧ Rep K T F d v ∧ Reps K T F ds ws
def RepK (K : PySem.W.Frag) (T : Txt) (F : Hp) : List (Key × D) → List (Key × V) → Prop
  | [], ws => ws = []
  | (k, d) :: ds, ws => ∃ v us, ws = (k, v) :: us ∧ Rep K T F d v ∧ RepK K T F ds us
end
section
variable {K : PySem.W.Frag} {T : Txt} {F F' G : Hp}
mutual
theorem Rep.mono (e : Ex F F') : ∀ {d : D} {v : V}, Rep K T F d v → Rep K T F' d v
  | .non, v, h => h
  | .bl b, v, h => h
  | .int i, v, h => h
  | .str x, v, h => h
  | .tup xs, v, ⟨a, vs, e1, h, r⟩ => ⟨a, vs, e1, e.sqT h, Reps.mono e r⟩
  | .lst xs, v, ⟨a, vs, e1, h, r⟩ => ⟨a, vs, e1, e _ _ h, Reps.mono e r⟩
  | .frl xs, v, ⟨a, vs, e1, h, r⟩ => ⟨a, vs, e1, e.sqL h, Reps.mono e r⟩
  | .dct kvs, v, ⟨a, ws, e1, h, r⟩ => ⟨a, ws, e1, e _ _ h, RepK.mono e r⟩
  | .ins c xs, v, ⟨a, dx, vs, e1, h, l, r⟩ => ⟨a, dx, vs, e1, e _ _ h, l, Reps.mono e r⟩
  | .exc c xs, v, ⟨a, dd, vs, e1, h, h2, h3, r⟩ => ⟨a, dd, vs, e1, e _ _ h, fun d q => e _ _ (h2 d q), h3, Reps.mono e r⟩
theorem Reps.mono (e : Ex F F') : ∀ {ds : List D} {vs : List V}, Reps K T F ds vs → Reps K T F' ds vs
  | [], vs, h => h
  | d :: ds, vs, ⟨v, ws, e1, h, r⟩ => ⟨v, ws, e1, Rep.mono e h, Reps.mono e r⟩
theorem RepK.mono (e : Ex F F') : ∀ {ds : List (Key × D)} {vs : List (Key × V)}, RepK K T F ds vs → RepK K T F' ds vs
  | [], vs, h => h
  | (k, d) :: ds, vs, ⟨v, ws, e1, h, r⟩ => ⟨v, ws, e1, Rep.mono e h, RepK.mono e r⟩
end
theorem Reps.length : ∀ {ds : List D} {vs : List V}, Reps K T F ds vs → vs.length = ds.length
  | [], _, h => by rw [show _ = ([] : List V) from h]; rfl
  | d :: ds, _, ⟨v, ws, e1, h, r⟩ => by rw [e1]; simp [Reps.length r]
theorem Reps.get : ∀ {ds : List D} {vs : List V} {i : Nat} {d : D}, Reps K T F ds vs → ds[i]? = some d → ∃ v, vs[i]? = some v ∧ Rep K T F d v
  | [], _, i, d, _, h => by simp at h
  | x :: ds, _, 0, d, ⟨v, ws, e1, h, r⟩, e => by simp at e; subst e; exact ⟨v, by rw [e1]; rfl, h⟩
  | x :: ds, _, i + 1, d, ⟨v, ws, e1, h, r⟩, e => by
    obtain ⟨u, h1, h2⟩ := Reps.get (i := i) (d := d) r (by simpa using e)
    exact ⟨u, by rw [e1]; simpa using h1, h2⟩
theorem Reps.getV : ∀ {ds : List D} {vs : List V} {i : Nat} {v : V}, Reps K T F ds vs → vs[i]? = some v → ∃ d, ds[i]? = some d ∧ Rep K T F d v
  | [], _, i, d, h, e => by rw [show _ = ([] : List V) from h] at e; simp at e
  | x :: ds, _, 0, d, ⟨v, ws, e1, h, r⟩, e => by rw [e1] at e; simp at e; subst e; exact ⟨x, rfl, h⟩
  | x :: ds, _, i + 1, d, ⟨v, ws, e1, h, r⟩, e => by
    rw [e1] at e
    obtain ⟨u, h1, h2⟩ := Reps.getV (i := i) (v := d) r (by simpa using e)
    exact ⟨u, by simpa using h1, h2⟩
theorem Reps.append : ∀ {ds es : List D} {vs ws : List V}, Reps K T F ds vs → Reps K T F es ws → Reps K T F (ds ++ es) (vs ++ ws)
  | [], _, _, _, h, r => by rw [show _ = ([] : List V) from h]; exact r
  | d :: ds, _, _, _, ⟨v, us, e1, h, r⟩, s => by rw [e1]; exact ⟨v, _, rfl, h, Reps.append r s⟩
theorem Reps.take : ∀ {ds : List D} {vs : List V} (n : Nat), Reps K T F ds vs → Reps K T F (ds.take n) (vs.take n)
  | _, _, 0, _ => by simp [Reps]
  | [], _, n + 1, h => by rw [show _ = ([] : List V) from h]; simp [Reps]
  | d :: ds, _, n + 1, ⟨v, ws, e1, h, r⟩ => by rw [e1]; exact ⟨v, _, rfl, h, Reps.take n r⟩
theorem Reps.drop : ∀ {ds : List D} {vs : List V} (n : Nat), Reps K T F ds vs → Reps K T F (ds.drop n) (vs.drop n)
  | _, _, 0, h => h
  | [], _, n + 1, h => by rw [show _ = ([] : List V) from h]; simp [Reps]
  | d :: ds, _, n + 1, ⟨v, ws, e1, h, r⟩ => by rw [e1]; exact Reps.drop n r
theorem Reps.set {d : D} {v : V} (q : Rep K T F d v) : ∀ {ds : List D} {vs : List V} (n : Nat), Reps K T F ds vs → Reps K T F (ds.set n d) (vs.set n v)
  | [], _, n, h => by rw [show _ = ([] : List V) from h]; simp [Reps]
  | x :: ds, _, 0, ⟨u, ws, e1, h, r⟩ => by rw [e1]; exact ⟨v, _, rfl, q, r⟩
  | x :: ds, _, n + 1, ⟨u, ws, e1, h, r⟩ => by rw [e1]; exact ⟨u, _, rfl, h, Reps.set q n r⟩
theorem Reps.one {d : D} {v : V} (q : Rep K T F d v) : Reps K T F [d] [v] := ⟨v, [], rfl, q, rfl⟩
theorem Reps.nil : Reps K T F [] [] := rfl
theorem Reps.cons {d : D} {v : V} {ds : List D} {vs : List V} (q : Rep K T F d v) (r : Reps K T F ds vs) : Reps K T F (d :: ds) (v :: vs) := ⟨v, vs, rfl, q, r⟩
def RepO (K : PySem.W.Frag) (T : Txt) (F : Hp) : MO → HO → Prop
  | .lst xs, o => ∃ vs, o = .lst vs ∧ Reps K T F xs vs
  | .dct kvs, o => ∃ ws, o = .dK ws ∧ RepK K T F kvs ws
  | .ins c xs, o => ∃ dx vs, o = .ins (T.cl c) dx ((T.fl c).zip vs) ∧ vs.length ≤ (T.fl c).length ∧ Reps K T F xs vs
theorem RepO.mono (e : Ex F F') {m : MO} {o : HO} (h : RepO K T F m o) : RepO K T F' m o := by
  cases m with
  | lst xs => obtain ⟨vs, e1, r⟩ := h; exact ⟨vs, e1, r.mono e⟩
  | dct kvs => obtain ⟨vs, e1, r⟩ := h; exact ⟨vs, e1, r.mono e⟩
  | ins c xs => obtain ⟨dx, vs, e1, l, r⟩ := h; exact ⟨dx, vs, e1, l, r.mono e⟩
/-- what is owned may be let go as data -/
theorem RepO.frz {m : MO} {o : HO} {a : Addr} (h : RepO K T F m o) (n : F a = none) : Rep K T (upd F a o) m.frz (.ref a) := by
  have e : Ex F (upd F a o) := Ex.new n
  cases m with
  | lst xs => obtain ⟨vs, e1, r⟩ := h; exact ⟨a, vs, rfl, by rw [upd_same, e1], r.mono e⟩
  | dct kvs => obtain ⟨vs, e1, r⟩ := h; exact ⟨a, vs, rfl, by rw [upd_same, e1], r.mono e⟩
  | ins c xs => obtain ⟨dx, vs, e1, l, r⟩ := h; exact ⟨a, dx, vs, rfl, by rw [upd_same, e1], l, r.mono e⟩
/-! ### the state -/
structure Rel (K : PySem.W.Frag) (T : Txt) (F Z : Hp) (L : Nat → Option Addr) (σ : L2.St) (ρ : VEnv) (H : Hp) : Prop where
  exF : Ex F H
  exZ : Ex Z H
  dis : ∀ a o, F a = some o → Z a = none
  len : ρ.length = σ.length
  val : ∀ (i : Nat) (d : D), ρ[i]? = some (some (Sl.val d)) → ∃ v, σ[i]? = some (some v) ∧ Rep K T F d v
  own : ∀ (i : Nat) (l : Bool) (m : MO), ρ[i]? = some (some (Sl.own l m)) → ∃ a o, σ[i]? = some (some (.ref a)) ∧ F a = none ∧ Z a = none ∧ H a = some o ∧ RepO K T F m o
  sep : ∀ (i j : Nat) (l : Bool) (m : MO) (l' : Bool) (m' : MO) (a : Addr), ρ[i]? = some (some (Sl.own l m)) → ρ[j]? = some (some (Sl.own l' m')) → σ[i]? = some (some (.ref a)) → σ[j]? = some (some (.ref a)) → i = j
  lent : ∀ (i : Nat) (a : Addr), L i = some a → σ[i]? = some (some (.ref a)) ∧ ∃ m, ρ[i]? = some (some (Sl.own true m))
variable {Z H H' : Hp} {L : Nat → Option Addr} {σ : L2.St} {ρ : VEnv}
/-- a new object, let go at once -/
theorem Rel.new {p : Addr} {o : HO} (r : Rel K T F Z L σ ρ H) (n : H p = none) : Rel K T (upd F p o) Z L σ ρ (upd H p o) where
  exF := fun a u e => by
    by_cases h : a = p
    · subst h; rw [upd_same] at e ⊢; exact e
    · rw [upd_ne h] at e ⊢; exact r.exF a u e
  exZ := fun a u e => by rw [upd_ne (ne_of_none (r.exZ a u e) n)]; exact r.exZ a u e
  dis := fun a u e => by
    by_cases h : a = p
    · subst h; exact r.exZ.none n
    · rw [upd_ne h] at e; exact r.dis a u e
  len := r.len
  val := fun i d e => by
    obtain ⟨v, h1, h2⟩ := r.val i d e
    exact ⟨v, h1, h2.mono (Ex.new (r.exF.none n))⟩
  own := fun i l m e => by
    obtain ⟨a, u, h1, h2, h3, h4, h5⟩ := r.own i l m e
    have ne : a ≠ p := ne_of_none h4 n
    exact ⟨a, u, h1, by rw [upd_ne ne]; exact h2, h3, by rw [upd_ne ne]; exact h4, h5.mono (Ex.new (r.exF.none n))⟩
  sep := r.sep
  lent := r.lent
/-- the frozen part and the heap have grown alike -/
def Grow (K : PySem.W.Frag) (T : Txt) (F H F' H' : Hp) : Prop := Ex F F' ∧ ∀ Z L σ ρ, Rel K T F Z L σ ρ H → Rel K T F' Z L σ ρ H'
theorem Grow.refl : Grow K T F H F H := ⟨Ex.refl F, fun _ _ _ _ r => r⟩
theorem Grow.trans {F2 H2 : Hp} (a : Grow K T F H F' H') (b : Grow K T F' H' F2 H2) : Grow K T F H F2 H2 := ⟨a.1.trans b.1, fun Z L σ ρ r => b.2 Z L σ ρ (a.2 Z L σ ρ r)⟩
theorem Grow.new {p : Addr} {o : HO} (e : Ex F H) (n : H p = none) : Grow K T F H (upd F p o) (upd H p o) := ⟨Ex.new (e.none n), fun _ _ _ _ r => r.new n⟩
end
/-! ### answers -/
inductive R (α : Type) where
  | ok (a : α) (ρ : VEnv) | ex (c : Nat) (ds : List D) (ρ : VEnv) | stuck
def R.bind {α β : Type} (r : R α) (k : α → VEnv → R β) : R β := match r with
  | .ok a ρ => k a ρ
  | .ex c ds ρ => .ex c ds ρ
  | .stuck => .stuck
def R.of {α : Type} (o : Option α) (ρ : VEnv) : R α := match o with
  | some a => .ok a ρ
  | none => .stuck
@[simp] theorem R.bind_ok {α β : Type} (a : α) (ρ : VEnv) (k : α → VEnv → R β) : (R.ok a ρ).bind k = k a ρ := id rfl
@[simp] theorem R.bind_ex {α β : Type} (c : Nat) (ds : List D) (ρ : VEnv) (k : α → VEnv → R β) : (R.ex c ds ρ : R α).bind k = R.ex c ds ρ := id rfl
@[simp] theorem R.bind_stuck {α β : Type} (k : α → VEnv → R β) : (R.stuck : R α).bind k = R.stuck := id rfl
@[simp] theorem R.of_some {α : Type} (a : α) (ρ : VEnv) : R.of (some a) ρ = R.ok a ρ := id rfl
@[simp] theorem R.of_none {α : Type} (ρ : VEnv) : R.of (none : Option α) ρ = R.stuck := id rfl
abbrev Ev (α : Type) := VEnv → R α
/-- an exception in flight -/
def ExR (K : PySem.W.Frag) (T : Txt) (F : Hp) (cls : Value) (dd : Option Addr) (c : Nat) (ds : List D) : Prop :=
  cls = Value.ref (T.cl c) ∧ ∃ vs, (∀ d, dd = some d → F d = some (.xd ((T.fl c).zip vs))) ∧ (dd = none → vs = []) ∧ Reps K T F ds vs
def rdE (K : PySem.W.Frag) (T : Txt) (W : WX) (ρ : VEnv) : R D → TE
  | .stuck => fun _ _ _ => False
  | .ok d ρ' => fun σ H Q => ∃ F Z L, Rel K T F Z L σ ρ H ∧ ∀ v F' H', Ex F F' → Rel K T F' Z L σ ρ' H' → Rep K T F' d v → Q v H'
  | .ex c ds ρ' => fun σ H _ => ∃ F Z L, Rel K T F Z L σ ρ H ∧ ∀ cls dd F' H', Ex F F' → Rel K T F' Z L σ ρ' H' → ExR K T F' cls dd c ds → W cls dd σ H'
def rdT (K : PySem.W.Frag) (T : Txt) (W : WX) (ρ : VEnv) : R Bool → TT
  | .stuck => fun _ _ _ => False
  | .ok b ρ' => fun σ H Q => ∃ F Z L, Rel K T F Z L σ ρ H ∧ ∀ F' H', Ex F F' → Rel K T F' Z L σ ρ' H' → Q b H'
  | .ex c ds ρ' => fun σ H _ => ∃ F Z L, Rel K T F Z L σ ρ H ∧ ∀ cls dd F' H', Ex F F' → Rel K T F' Z L σ ρ' H' → ExR K T F' cls dd c ds → W cls dd σ H'
def rdA (K : PySem.W.Frag) (T : Txt) (W : WX) (ρ : VEnv) : R (List D) → TA
  | .stuck => fun _ _ _ => False
  | .ok ds ρ' => fun σ H Q => ∃ F Z L, Rel K T F Z L σ ρ H ∧ ∀ vs F' H', Ex F F' → Rel K T F' Z L σ ρ' H' → Reps K T F' ds vs → Q vs H'
  | .ex c ds ρ' => fun σ H _ => ∃ F Z L, Rel K T F Z L σ ρ H ∧ ∀ cls dd F' H', Ex F F' → Rel K T F' Z L σ ρ' H' → ExR K T F' cls dd c ds → W cls dd σ H'
/-- e answers as g does -/
def JE (T : Txt) (X : Cx) (W : WX) (e : Expr) (g : Ev D) : Prop := ∀ ρ, PE X e (rdE X.K T W ρ (g ρ))
def JT (T : Txt) (X : Cx) (W : WX) (e : Expr) (g : Ev Bool) : Prop := ∀ ρ, PT X e (rdT X.K T W ρ (g ρ))
def JW (T : Txt) (X : Cx) (W : WX) (e : Expr) (g : Ev Bool) : Prop := ∀ ρ, PW X e (rdT X.K T W ρ (g ρ))
def JA (T : Txt) (X : Cx) (W : WX) (es : List Expr) (g : Ev (List D)) : Prop := ∀ ρ, PA X es (rdA X.K T W ρ (g ρ))
section
variable {T : Txt} {X : Cx} {W : WX} {e a b : Expr}
theorem pe_weak {t t' : TE} (h : PE X e t) (w : ∀ σ H Q, t' σ H Q → t σ H Q) : PE X e t' := ⟨fun pins s σ H Q I q => h.run pins s σ H Q I (w σ H Q q)⟩
theorem pt_weak {t t' : TT} (h : PT X e t) (w : ∀ σ H Q, t' σ H Q → t σ H Q) : PT X e t' := ⟨fun pins s σ H Q I q => h.run pins s σ H Q I (w σ H Q q)⟩
theorem pw_weak {t t' : TT} (h : PW X e t) (w : ∀ σ H Q, t' σ H Q → t σ H Q) : PW X e t' := ⟨fun wh pins s σ H Q I q => h.run wh pins s σ H Q I (w σ H Q q)⟩
theorem pa_weak {es : List Expr} {t t' : TA} (h : PA X es t) (w : ∀ σ H Q, t' σ H Q → t σ H Q) : PA X es t' := ⟨fun pos pins s σ H Q I q => h.run pos pins s σ H Q I (w σ H Q q)⟩
theorem pe_no : PE X e (fun _ _ _ => False) := ⟨fun _ _ _ _ _ _ h => h.elim⟩
theorem pt_no : PT X e (fun _ _ _ => False) := ⟨fun _ _ _ _ _ _ h => h.elim⟩
theorem pw_no : PW X e (fun _ _ _ => False) := ⟨fun _ _ _ _ _ _ _ h => h.elim⟩
theorem pa_no {es : List Expr} : PA X es (fun _ _ _ => False) := ⟨fun _ _ _ _ _ _ _ h => h.elim⟩
/-! ### names and constants -/
def mVar (i : Nat) : Ev D := fun ρ => match ρ[i]? with
  | some (some (Sl.val d)) => .ok d ρ
  | _ => .stuck
theorem je_pe_var {i : Nat} (h : PE X e (tVar i)) : JE T X W e (mVar i) := by
  intro ρ
  unfold mVar
  split
  · rename_i d q
    refine pe_weak h fun σ H Q ⟨F, Z, L, r, k⟩ => ?_
    obtain ⟨v, h1, h2⟩ := r.val i d q
    exact ⟨v, h1, k v F H (Ex.refl F) r h2⟩
  · exact pe_no
def mC (d : D) : Ev D := fun ρ => .ok d ρ
/-- flat data -/
def flatD : D → Option V
  | .non => some .non
  | .bl b => some (.bl b)
  | .int i => some (.int i)
  | .str x => some (.str x)
  | _ => none
theorem flat_rep {K : PySem.W.Frag} {F : Hp} {d : D} {v : V} (h : flatD d = some v) : Rep K T F d v := by
  cases d <;> simp [flatD] at h <;> (subst h; rfl)
theorem je_const {d : D} {v : V} (h : PE X e (tC v)) (q : flatD d = some v) : JE T X W e (mC d) := fun ρ =>
  pe_weak h fun σ H Q ⟨F, Z, L, r, k⟩ => k v F H (Ex.refl F) r (flat_rep q)
/-! ### two operands -/
def mOp (f : D → D → Option D) (ga gb : Ev D) : Ev D := fun ρ => (ga ρ).bind fun x ρ1 => (gb ρ1).bind fun y ρ2 => R.of (f x y) ρ2
/-- an operation upon values answers as f does -/
def OpV (K : PySem.W.Frag) (T : Txt) (r : R2) (f : D → D → Option D) : Prop := ∀ x y z, f x y = some z → ∀ F H v w Q, Ex F H → Rep K T F x v → Rep K T F y w →
  (∀ u F' H', Grow K T F H F' H' → Rep K T F' z u → Q u H') → r v w H Q
theorem je_op {r : R2} {f : D → D → Option D} {ga gb : Ev D} (rule : ∀ ta tb, PE X a ta → PE X b tb → PE X e (tOp r ta tb)) (hr : OpV X.K T r f) (ha : JE T X W a ga) (hb : JE T X W b gb) : JE T X W e (mOp f ga gb) := by
  intro ρ
  have h1 := ha ρ
  unfold mOp
  cases q1 : ga ρ with
  | stuck => exact pe_no
  | ex c ds ρ1 =>
    rw [q1] at h1
    exact pe_weak (rule _ _ h1 pe_no) fun σ H Q ⟨F, Z, L, r, k⟩ => ⟨F, Z, L, r, k⟩
  | ok x ρ1 =>
    rw [q1] at h1
    have h2 := hb ρ1
    show PE X e (rdE X.K T W ρ ((gb ρ1).bind fun y ρ2 => R.of (f x y) ρ2))
    cases q2 : gb ρ1 with
    | stuck => exact pe_no
    | ex c ds ρ2 =>
      rw [q2] at h2
      exact pe_weak (rule _ _ h1 h2) fun σ H Q ⟨F, Z, L, r, k⟩ => ⟨F, Z, L, r, fun v F1 H1 e1 r1 p1 => ⟨F1, Z, L, r1, fun cls dd F2 H2 e2 r2 x2 => k cls dd F2 H2 (e1.trans e2) r2 x2⟩⟩
    | ok y ρ2 =>
      rw [q2] at h2
      show PE X e (rdE X.K T W ρ (R.of (f x y) ρ2))
      cases q3 : f x y with
      | none => exact pe_no
      | some z =>
        exact pe_weak (rule _ _ h1 h2) fun σ H Q ⟨F, Z, L, r, k⟩ => ⟨F, Z, L, r, fun v F1 H1 e1 r1 p1 => ⟨F1, Z, L, r1, fun w F2 H2 e2 r2 p2 =>
          hr x y z q3 F2 H2 v w Q r2.exF (p1.mono e2) p2 fun u F3 H3 g p3 => k u F3 H3 ((e1.trans e2).trans g.1) (g.2 _ _ _ _ r2) p3⟩⟩
end
end VS
set_option maxHeartbeats 2000000
namespace VS
open PySem L2 PySem.Spec PyProof.Rows
def lim : Nat := 16000000
theorem lim_le : lim ≤ sizeLine := by rw [sizeLine_eq]; decide
theorem le_line {n : Nat} (h : n ≤ lim) : n ≤ sizeLine := Nat.le_trans h lim_le
theorem lt_line {n : Nat} (h : n < lim) : n < sizeLine := Nat.lt_of_lt_of_le h lim_le
/-! ### operators -/
def addD : D → D → Option D
  | .int i, .int j => some (.int (i + j))
  | .str x, .str y => if x.length + y.length ≤ lim then some (.str (x ++ y)) else none
  | .tup xs, .tup ys => if xs.length + ys.length ≤ lim then some (.tup (xs ++ ys)) else none
  | .lst xs, .lst ys => if xs.length + ys.length ≤ lim then some (.lst (xs ++ ys)) else none
  | _, _ => none
def subD : D → D → Option D
  | .int i, .int j => some (.int (i - j))
  | _, _ => none
def big : Nat := 2 ^ 250
def mulD : D → D → Option D
  | .int i, .int j => if i.natAbs < big ∧ j.natAbs < big then some (.int (i * j)) else none
  | .tup xs, .int j => if 1 < j ∧ 0 < xs.length ∧ j ≤ 1000 ∧ xs.length ≤ 1000 then some (.tup (List.replicate j.toNat xs).flatten) else none
  | _, _ => none
def modD : D → D → Option D
  | .int i, .int j => if 0 < j then some (.int (i % j)) else none
  | _, _ => none
def fdivD : D → D → Option D
  | .int i, .int j => if 0 < j ∧ j.natAbs < big then some (.int (i / j)) else none
  | _, _ => none
def powD : D → D → Option D
  | .int i, .int j => if 0 ≤ j ∧ j ≤ 1000 ∧ i.natAbs < 1000000 then some (.int (i ^ j.toNat)) else none
  | _, _ => none
section
variable {X : Cx} {T : Txt} {K : PySem.W.Frag}
theorem opr_or {f : Value → Value → Sem Value} {r r' : R2} (h : OpR X f r) (h' : OpR X f r') : OpR X f (fun x y H Q => r x y H Q ∨ r' x y H Q) := by
  intro pins s σ H x y v u Q I rx ry q
  rcases q with q | q
  · exact h pins s σ H x y v u Q I rx ry q
  · exact h' pins s σ H x y v u Q I rx ry q
def rAddA (K : PySem.W.Frag) : R2 := fun x y H Q => rI0 (fun i j => .int (i + j)) x y H Q ∨ ((∃ i j, x = V.str i ∧ y = V.str j ∧ i.length + j.length ≤ sizeLine ∧ Q (V.str (i ++ j)) H) ∨ (rCatA K x y H Q ∨ rCat x y H Q))
theorem op_addA : OpR X (binaryOp .Add) (rAddA X.K) := opr_or op_add (opr_or op_add_str (opr_or op_catA op_cat))
theorem Reps.eq_nil {F : Hp} {ds : List D} {vs : List V} (r : Reps K T F ds vs) : vs = [] ↔ ds = [] := by
  have := r.length
  constructor
  · intro h; subst h; simp at this; exact List.eq_nil_of_length_eq_zero this.symm
  · intro h; subst h; exact r
theorem opv_add : OpV K T (rAddA K) addD := by
  intro x y z h F H v w Q e rx ry k
  cases x <;> cases y <;> simp only [addD, reduceCtorEq] at h
  · obtain rfl : v = _ := rx
    obtain rfl : w = _ := ry
    cases h
    exact .inl ⟨_, _, rfl, rfl, k _ F H .refl rfl⟩
  · obtain rfl : v = _ := rx
    obtain rfl : w = _ := ry
    split at h
    · rename_i q
      cases h
      exact .inr (.inl ⟨_, _, rfl, rfl, le_line q, k _ F H .refl rfl⟩)
    · cases h
  · rename_i xs ys
    obtain ⟨a, vs, rfl, ha, ra⟩ := rx
    obtain ⟨b, ws, rfl, hb, rb⟩ := ry
    split at h
    · rename_i q
      cases h
      refine .inr (.inr (.inl ⟨a, b, vs, ws, rfl, rfl, e.sqT ha, e.sqT hb, by rw [ra.length, rb.length]; exact le_line q, fun n => ?_, fun n1 n2 => ?_, fun n1 n2 p hp => ?_⟩))
      · refine k _ F H .refl ⟨b, ws, rfl, hb, ?_⟩
        rw [ra.eq_nil.mp n]; exact rb
      · refine k _ F H .refl ⟨a, vs, rfl, ha, ?_⟩
        rw [rb.eq_nil.mp n2, List.append_nil]; exact ra
      · have g := Grow.new (K := K) (T := T) (o := HO.tup (vs ++ ws)) e hp
        exact k _ _ _ g ⟨p, _, rfl, SqT.of upd_same, (ra.append rb).mono g.1⟩
    · cases h
  · rename_i xs ys
    obtain ⟨a, vs, rfl, ha, ra⟩ := rx
    obtain ⟨b, ws, rfl, hb, rb⟩ := ry
    split at h
    · rename_i q
      cases h
      refine .inr (.inr (.inr ⟨a, b, vs, ws, rfl, rfl, e _ _ ha, e _ _ hb, by rw [ra.length, rb.length]; exact le_line q, fun p hp => ?_⟩))
      have g := Grow.new (K := K) (T := T) (o := HO.lst (vs ++ ws)) e hp
      exact k _ _ _ g ⟨p, _, rfl, upd_same, (ra.append rb).mono g.1⟩
    · cases h
theorem opv_sub : OpV K T (rI0 fun i j => .int (i - j)) subD := by
  intro x y z h F H v w Q e rx ry k
  cases x <;> cases y <;> simp only [subD, reduceCtorEq] at h
  obtain rfl : v = _ := rx
  obtain rfl : w = _ := ry
  cases h
  exact ⟨_, _, rfl, rfl, k _ F H .refl rfl⟩
theorem opv_mod : OpV K T (rI (fun _ j => 0 < j) fun i j => .int (i % j)) modD := by
  intro x y z h F H v w Q e rx ry k
  cases x <;> cases y <;> simp only [modD, reduceCtorEq] at h
  obtain rfl : v = _ := rx
  obtain rfl : w = _ := ry
  split at h
  · rename_i q
    cases h
    exact ⟨_, _, rfl, rfl, q, k _ F H .refl rfl⟩
  · cases h
theorem opv_fdiv : OpV K T (rI CDivW fun i j => .int (i / j)) fdivD := by
  intro x y z h F H v w Q e rx ry k
  cases x <;> cases y <;> simp only [fdivD, reduceCtorEq] at h
  obtain rfl : v = _ := rx
  obtain rfl : w = _ := ry
  split at h
  · rename_i q
    cases h
    exact ⟨_, _, rfl, rfl, wide_div q.1 (b := 250) q.2 (by decide) (by decide), k _ F H .refl rfl⟩
  · cases h
theorem opv_pow : OpV K T (rI CPow fun i j => .int (i ^ j.toNat)) powD := by
  intro x y z h F H v w Q e rx ry k
  cases x <;> cases y <;> simp only [powD, reduceCtorEq] at h
  obtain rfl : v = _ := rx
  obtain rfl : w = _ := ry
  split at h
  · rename_i q
    cases h
    exact ⟨_, _, rfl, rfl, ⟨q.1, by have := q.2.1; omega, Nat.lt_trans q.2.2 (by decide)⟩, k _ F H .refl rfl⟩
  · cases h
theorem Reps.rep {F : Hp} {ds : List D} {vs : List V} (r : Reps K T F ds vs) : ∀ n : Nat, Reps K T F (List.replicate n ds).flatten (List.replicate n vs).flatten
  | 0 => rfl
  | n + 1 => by
    rw [List.replicate_succ, List.replicate_succ, List.flatten_cons, List.flatten_cons]
    exact r.append (Reps.rep r n)
def rMulA (K : PySem.W.Frag) : R2 := fun x y H Q => rI CMulW (fun i j => .int (i * j)) x y H Q ∨ rRepT K x y H Q
theorem op_mulA : OpR X (binaryOp .Mult) (rMulA X.K) := opr_or op_mulW op_repT
theorem opv_mul : OpV K T (rMulA K) mulD := by
  intro x y z h F H v w Q e rx ry k
  cases x <;> cases y <;> simp only [mulD, reduceCtorEq] at h
  · obtain rfl : v = _ := rx
    obtain rfl : w = _ := ry
    split at h
    · rename_i q
      cases h
      exact .inl ⟨_, _, rfl, rfl, wide_mul (a := 250) (b := 250) q.1 q.2 (by decide) (by decide) (by decide), k _ F H .refl rfl⟩
    · cases h
  · rename_i xs j
    obtain ⟨a, vs, rfl, ha, ra⟩ := rx
    obtain rfl : w = _ := ry
    split at h
    · rename_i q
      cases h
      refine .inr ⟨_, _, vs, rfl, rfl, e.sqT ha, fun n => ?_, by omega, q.2.2.1, by rw [ra.length]; exact q.2.2.2, fun p hp => ?_⟩
      · rw [ra.eq_nil.mp n] at q; simp at q
      · have g := Grow.new (K := K) (T := T) (o := HO.tup (List.replicate j.toNat vs).flatten) e hp
        exact k _ _ _ g ⟨p, _, rfl, SqT.of upd_same, (ra.rep _).mono g.1⟩
    · cases h
/-! ### comparisons -/
def ltD : D → D → Option D
  | .int i, .int j => some (.bl (decide (i < j)))
  | .str x, .str y => some (.bl (decide (x.cps.toList < y.cps.toList)))
  | _, _ => none
def leD : D → D → Option D
  | .int i, .int j => some (.bl (decide (i ≤ j)))
  | .str x, .str y => some (.bl (!decide (y.cps.toList < x.cps.toList)))
  | _, _ => none
def gtD : D → D → Option D
  | .int i, .int j => some (.bl (decide (j < i)))
  | .str x, .str y => some (.bl (decide (y.cps.toList < x.cps.toList)))
  | _, _ => none
def geD : D → D → Option D
  | .int i, .int j => some (.bl (decide (j ≤ i)))
  | .str x, .str y => some (.bl (!decide (x.cps.toList < y.cps.toList)))
  | _, _ => none
def r2S (g : Str → Str → Bool) : R2 := fun x y H Q => ∃ i j, x = .str i ∧ y = .str j ∧ Q (.bl (g i j)) H
def rCmp (f : Int → Int → Bool) (g : Str → Str → Bool) : R2 := fun x y H Q => rI0 (fun i j => .bl (f i j)) x y H Q ∨ r2S g x y H Q
theorem op_ltA : OpR X (compareOp .Lt) (rCmp (fun i j => decide (i < j)) fun i j => decide (i.cps.toList < j.cps.toList)) := opr_or op_lt op_lt_str
theorem op_leA : OpR X (compareOp .LtE) (rCmp (fun i j => decide (i ≤ j)) fun i j => !decide (j.cps.toList < i.cps.toList)) := opr_or op_le op_le_str
theorem op_gtA : OpR X (compareOp .Gt) (rCmp (fun i j => decide (j < i)) fun i j => decide (j.cps.toList < i.cps.toList)) := opr_or op_gt op_gt_str
theorem op_geA : OpR X (compareOp .GtE) (rCmp (fun i j => decide (j ≤ i)) fun i j => !decide (i.cps.toList < j.cps.toList)) := opr_or op_ge op_ge_str
theorem opv_lt : OpV K T (rCmp (fun i j => decide (i < j)) fun i j => decide (i.cps.toList < j.cps.toList)) ltD := by
  intro x y z h F H v w Q e rx ry k
  cases x <;> cases y <;> simp only [ltD, reduceCtorEq] at h
  · obtain rfl : v = _ := rx
    obtain rfl : w = _ := ry
    cases h
    exact .inl ⟨_, _, rfl, rfl, k _ F H .refl rfl⟩
  · obtain rfl : v = _ := rx
    obtain rfl : w = _ := ry
    cases h
    exact .inr ⟨_, _, rfl, rfl, k _ F H .refl rfl⟩
theorem opv_le : OpV K T (rCmp (fun i j => decide (i ≤ j)) fun i j => !decide (j.cps.toList < i.cps.toList)) leD := by
  intro x y z h F H v w Q e rx ry k
  cases x <;> cases y <;> simp only [leD, reduceCtorEq] at h
  · obtain rfl : v = _ := rx
    obtain rfl : w = _ := ry
    cases h
    exact .inl ⟨_, _, rfl, rfl, k _ F H .refl rfl⟩
  · obtain rfl : v = _ := rx
    obtain rfl : w = _ := ry
    cases h
    exact .inr ⟨_, _, rfl, rfl, k _ F H .refl rfl⟩
theorem opv_gt : OpV K T (rCmp (fun i j => decide (j < i)) fun i j => decide (j.cps.toList < i.cps.toList)) gtD := by
  intro x y z h F H v w Q e rx ry k
  cases x <;> cases y <;> simp only [gtD, reduceCtorEq] at h
  · obtain rfl : v = _ := rx
    obtain rfl : w = _ := ry
    cases h
    exact .inl ⟨_, _, rfl, rfl, k _ F H .refl rfl⟩
  · obtain rfl : v = _ := rx
    obtain rfl : w = _ := ry
    cases h
    exact .inr ⟨_, _, rfl, rfl, k _ F H .refl rfl⟩
theorem opv_ge : OpV K T (rCmp (fun i j => decide (j ≤ i)) fun i j => !decide (i.cps.toList < j.cps.toList)) geD := by
  intro x y z h F H v w Q e rx ry k
  cases x <;> cases y <;> simp only [geD, reduceCtorEq] at h
  · obtain rfl : v = _ := rx
    obtain rfl : w = _ := ry
    cases h
    exact .inl ⟨_, _, rfl, rfl, k _ F H .refl rfl⟩
  · obtain rfl : v = _ := rx
    obtain rfl : w = _ := ry
    cases h
    exact .inr ⟨_, _, rfl, rfl, k _ F H .refl rfl⟩
/-! ### == of data -/
mutual
def toPy : D → Option PyData
  | .non => some .none
  | .bl b => some (.bool b)
  | .int i => some (.int i)
  | .str x => some (.str x)
  | .tup xs => (toPys xs).map .tuple
  | .lst xs => (toPys xs).map .list
  | .frl xs => (toPys xs).map .list
  | _ => none
def toPys : List D → Option (List PyData)
  | [] => some []
  | d :: ds => (toPy d).bind fun p => (toPys ds).map (p :: ·)
end
theorem dpAll_cons {H : Hp} {v : V} {vs : List V} {p : PyData} {ps : List PyData} (h : Dp K H v p) (r : DpAll K H vs ps) : DpAll K H (v :: vs) (p :: ps) := .cons h r
mutual
theorem rep_dp {F H : Hp} (e : Ex F H) : ∀ {d : D} {p : PyData} {v : V}, toPy d = some p → Rep K T F d v → Dp K H v p
  | .non, p, v, h, r => by simp only [toPy] at h; cases h; rw [show v = _ from r]; exact .non
  | .bl b, p, v, h, r => by simp only [toPy] at h; cases h; rw [show v = _ from r]; exact .bl b
  | .int i, p, v, h, r => by simp only [toPy] at h; cases h; rw [show v = _ from r]; exact .int i
  | .str x, p, v, h, r => by simp only [toPy] at h; cases h; rw [show v = _ from r]; exact .str x
  | .tup xs, p, v, h, ⟨a, vs, e1, h1, r⟩ => by
    simp only [toPy] at h
    cases q : toPys xs with
    | none => rw [q] at h; cases h
    | some ps => rw [q] at h; cases h; rw [e1]; exact .tup (e.sqT h1) (reps_dp e q r)
  | .lst xs, p, v, h, ⟨a, vs, e1, h1, r⟩ => by
    simp only [toPy] at h
    cases q : toPys xs with
    | none => rw [q] at h; cases h
    | some ps => rw [q] at h; cases h; rw [e1]; exact .lst (SqL.of (e _ _ h1)) (reps_dp e q r)
  | .frl xs, p, v, h, ⟨a, vs, e1, h1, r⟩ => by
    simp only [toPy] at h
    cases q : toPys xs with
    | none => rw [q] at h; cases h
    | some ps => rw [q] at h; cases h; rw [e1]; exact .lst (e.sqL h1) (reps_dp e q r)
  | .dct _, p, v, h, _ => by simp [toPy] at h
  | .ins _ _, p, v, h, _ => by simp [toPy] at h
  | .exc _ _, p, v, h, _ => by simp [toPy] at h
theorem reps_dp {F H : Hp} (e : Ex F H) : ∀ {ds : List D} {ps : List PyData} {vs : List V}, toPys ds = some ps → Reps K T F ds vs → DpAll K H vs ps
  | [], ps, vs, h, r => by simp only [toPys] at h; cases h; rw [show vs = _ from r]; exact .nil
  | d :: ds, ps, vs, h, ⟨v, ws, e1, h1, r⟩ => by
    simp only [toPys] at h
    cases q : toPy d with
    | none => rw [q] at h; cases h
    | some p =>
      cases q2 : toPys ds with
      | none => rw [q, q2] at h; cases h
      | some ps' =>
        rw [q, q2] at h
        cases h
        rw [e1]
        exact dpAll_cons (rep_dp e q h1) (reps_dp e q2 r)
end
def eqB0 (x y : D) : Option Bool := (toPy x).bind fun a => (toPy y).bind fun b => if (SeqAt.shaped a && SeqAt.shaped b) = true then some (PyData.eqv a b) else none
def eqB : D → D → Option Bool
  | .str a, .str b => some (decide (a = b))
  | .int i, .int j => some (decide (i = j))
  | .bl a, .bl b => some (decide (a = b))
  | x, y => eqB0 x y
def eqD (x y : D) : Option D := (eqB x y).map .bl
def neD (x y : D) : Option D := (eqB x y).map fun b => .bl (!b)
theorem eqB0_some {x y : D} {b : Bool} (h : eqB0 x y = some b) : ∃ p q, toPy x = some p ∧ toPy y = some q ∧ SeqAt.shaped p = true ∧ SeqAt.shaped q = true ∧ b = PyData.eqv p q := by
  unfold eqB0 at h
  cases q1 : toPy x with
  | none => rw [q1] at h; cases h
  | some p =>
    cases q2 : toPy y with
    | none => rw [q1, q2] at h; cases h
    | some q =>
      rw [q1, q2] at h
      simp only [Option.bind_some] at h
      split at h
      · rename_i c
        rw [Bool.and_eq_true] at c
        cases h
        exact ⟨p, q, rfl, rfl, c.1, c.2, rfl⟩
      · cases h
def rEqA (K : PySem.W.Frag) : R2 := fun x y H Q => rEq x y H Q ∨ rEqD K x y H Q
def rNeA (K : PySem.W.Frag) : R2 := fun x y H Q => rNe x y H Q ∨ rNeD K x y H Q
theorem eq_cases {x y : D} {b : Bool} (h : eqB x y = some b) : (∃ v w, flatD x = some v ∧ flatD y = some w ∧ scal v w = true ∧ b = decide (v = w)) ∨ eqB0 x y = some b := by
  unfold eqB at h
  split at h
  · rename_i a c; cases h; exact .inl ⟨.str a, .str c, rfl, rfl, rfl, by simp⟩
  · rename_i a c; cases h; exact .inl ⟨.int a, .int c, rfl, rfl, rfl, by simp⟩
  · rename_i a c; cases h; exact .inl ⟨.bl a, .bl c, rfl, rfl, rfl, by simp⟩
  · exact .inr h
theorem flat_rep' {F : Hp} {d : D} {v w : V} (h : flatD d = some v) (r : Rep K T F d w) : w = v := by
  cases d <;> simp [flatD] at h <;> (subst h; exact r)
theorem opv_eq : OpV K T (rEqA K) eqD := by
  intro x y z h F H v w Q e rx ry k
  unfold eqD at h
  cases q : eqB x y with
  | none => rw [q] at h; cases h
  | some b =>
    rw [q] at h; cases h
    rcases eq_cases q with ⟨v', w', h1, h2, h3, rfl⟩ | q
    · rw [flat_rep' h1 rx, flat_rep' h2 ry]
      exact .inl ⟨h3, k _ F H .refl rfl⟩
    · obtain ⟨p, p', h1, h2, s1, s2, rfl⟩ := eqB0_some q
      exact .inr ⟨p, p', rep_dp e h1 rx, rep_dp e h2 ry, s1, s2, k _ F H .refl rfl⟩
theorem opv_ne : OpV K T (rNeA K) neD := by
  intro x y z h F H v w Q e rx ry k
  unfold neD at h
  cases q : eqB x y with
  | none => rw [q] at h; cases h
  | some b =>
    rw [q] at h; cases h
    rcases eq_cases q with ⟨v', w', h1, h2, h3, rfl⟩ | q
    · rw [flat_rep' h1 rx, flat_rep' h2 ry]
      exact .inl ⟨h3, k _ F H .refl rfl⟩
    · obtain ⟨p, p', h1, h2, s1, s2, rfl⟩ := eqB0_some q
      exact .inr ⟨p, p', rep_dp e h1 rx, rep_dp e h2 ry, s1, s2, k _ F H .refl rfl⟩
/-! ### data that is read where it stands: an owned list, too -/
def RepB (K : PySem.W.Frag) (T : Txt) (F H : Hp) : D → V → Prop
  | .lst xs, v => ∃ a vs, v = .ref a ∧ H a = some (.lst vs) ∧ Reps K T F xs vs
  | .dct kvs, v => ∃ a ws, v = .ref a ∧ H a = some (.dK ws) ∧ RepK K T F kvs ws
  | .ins c xs, v => ∃ a dx vs, v = .ref a ∧ H a = some (.ins (T.cl c) dx ((T.fl c).zip vs)) ∧ vs.length ≤ (T.fl c).length ∧ Reps K T F xs vs
  | d, v => Rep K T F d v
theorem Rep.b {F H : Hp} (e : Ex F H) {d : D} {v : V} (h : Rep K T F d v) : RepB K T F H d v := by
  cases d with
  | lst xs => obtain ⟨a, vs, e1, h1, r⟩ := h; exact ⟨a, vs, e1, e _ _ h1, r⟩
  | dct xs => obtain ⟨a, vs, e1, h1, r⟩ := h; exact ⟨a, vs, e1, e _ _ h1, r⟩
  | ins c xs => obtain ⟨a, dx, vs, e1, h1, l, r⟩ := h; exact ⟨a, dx, vs, e1, e _ _ h1, l, r⟩
  | _ => exact h
theorem RepO.b {F H : Hp} {m : MO} {o : HO} {a : Addr} (h : RepO K T F m o) (ha : H a = some o) : RepB K T F H m.frz (.ref a) := by
  cases m with
  | lst xs => obtain ⟨vs, e1, r⟩ := h; exact ⟨a, vs, rfl, by rw [ha, e1], r⟩
  | dct kvs => obtain ⟨vs, e1, r⟩ := h; exact ⟨a, vs, rfl, by rw [ha, e1], r⟩
  | ins c xs => obtain ⟨dx, vs, e1, l, r⟩ := h; exact ⟨a, dx, vs, rfl, by rw [ha, e1], l, r⟩
/-- an operation whose left | right operand is read where it stands -/
def OpVL (K : PySem.W.Frag) (T : Txt) (r : R2) (f : D → D → Option D) : Prop := ∀ x y z, f x y = some z → ∀ F H v w Q, Ex F H → RepB K T F H x v → Rep K T F y w →
  (∀ u F' H', Grow K T F H F' H' → Rep K T F' z u → Q u H') → r v w H Q
def OpVR (K : PySem.W.Frag) (T : Txt) (r : R2) (f : D → D → Option D) : Prop := ∀ x y z, f x y = some z → ∀ F H v w Q, Ex F H → Rep K T F x v → RepB K T F H y w →
  (∀ u F' H', Grow K T F H F' H' → Rep K T F' z u → Q u H') → r v w H Q
theorem OpVL.v {r : R2} {f : D → D → Option D} (h : OpVL K T r f) : OpV K T r f := fun x y z q F H v w Q e rx ry k => h x y z q F H v w Q e (rx.b e) ry k
theorem OpVR.v {r : R2} {f : D → D → Option D} (h : OpVR K T r f) : OpV K T r f := fun x y z q F H v w Q e rx ry k => h x y z q F H v w Q e rx (ry.b e) k
/-! ### in -/
/-- all items flat: as values -/
def flats : List D → Option (List V)
  | [] => some []
  | d :: ds => (flatD d).bind fun v => (flats ds).map (v :: ·)
theorem flatD_V {d : D} {v : V} (h : flatD d = some v) : flatV v = true := by cases d <;> simp [flatD] at h <;> (subst h; rfl)
theorem rep_flat {F : Hp} {d : D} {v w : V} (h : flatD d = some v) (r : Rep K T F d w) : w = v := by
  cases d <;> simp [flatD] at h <;> (subst h; exact r)
theorem reps_flat {F : Hp} : ∀ {ds : List D} {vs ws : List V}, flats ds = some vs → Reps K T F ds ws → ws = vs
  | [], vs, ws, h, r => by simp only [flats] at h; cases h; exact r
  | d :: ds, vs, ws, h, ⟨v, us, e1, h1, r⟩ => by
    simp only [flats] at h
    cases q : flatD d with
    | none => rw [q] at h; cases h
    | some x =>
      cases q2 : flats ds with
      | none => rw [q, q2] at h; cases h
      | some xs => rw [q, q2] at h; cases h; rw [e1, rep_flat q h1, reps_flat q2 r]
theorem flats_all : ∀ {ds : List D} {vs : List V}, flats ds = some vs → vs.all flatV = true
  | [], vs, h => by simp only [flats] at h; cases h; rfl
  | d :: ds, vs, h => by
    simp only [flats] at h
    cases q : flatD d with
    | none => rw [q] at h; cases h
    | some x =>
      cases q2 : flats ds with
      | none => rw [q, q2] at h; cases h
      | some xs => rw [q, q2] at h; cases h; simp [flatD_V q, flats_all q2]
def keyD : D → Option Key
  | .int i => some (.inl i)
  | .str x => some (.inr x)
  | _ => none
theorem rep_key {F : Hp} {d : D} {k : Key} {v : V} (h : keyD d = some k) (r : Rep K T F d v) : v = kV k := by
  cases d <;> simp [keyD] at h <;> (subst h; exact r)
/-- a dict's value -/
def valD (kvs : List (Key × D)) (k : Key) : Option D := (kvs.find? fun p => decide (p.1 = k)).map (·.2)
def inB (x : D) : D → Option Bool
  | .tup ys => (flatD x).bind fun v => (flats ys).map fun vs => inV v vs
  | .lst ys => (flatD x).bind fun v => (flats ys).map fun vs => inV v vs
  | .frl ys => (flatD x).bind fun v => (flats ys).map fun vs => inV v vs
  | .dct kvs => (keyD x).map fun k => (valD kvs k).isSome
  | .str z => match x with
    | .str y => some (!(Builtin.Str.occurrences z y 0 z.length 1).isEmpty)
    | _ => none
  | _ => none
def inD (x y : D) : Option D := (inB x y).map .bl
def notInD (x y : D) : Option D := (inB x y).map fun b => .bl (!b)
def rDIn (neg : Bool) : R2 := fun y x H Q => ∃ a o, x = .ref a ∧ DGet H a y o ∧ Q (.bl (if neg then !o.isSome else o.isSome)) H
theorem op_dinA (hu : X.A.units + 1 < cLine) : OpR X (compareOp .In) (rDIn false) := by
  intro pins s σ H y x v u Q I ry rx h
  obtain ⟨a, o, rfl, g, q⟩ := h
  obtain rfl : u = Value.ref a := rx
  exact d_in hu I g ry fun s3 I3 => ⟨.bl o.isSome, H, I3, rfl, q⟩
theorem op_dnotinA (hu : X.A.units + 1 < cLine) : OpR X (compareOp .NotIn) (rDIn true) := by
  intro pins s σ H y x v u Q I ry rx h
  obtain ⟨a, o, rfl, g, q⟩ := h
  obtain rfl : u = Value.ref a := rx
  exact d_notIn hu I g ry fun s3 I3 => ⟨.bl (!o.isSome), H, I3, rfl, q⟩
def rInS (neg : Bool) : R2 := fun x y H Q => ∃ i j, x = .str i ∧ y = .str j ∧ Q (.bl (if neg then !(!(Builtin.Str.occurrences j i 0 j.length 1).isEmpty) else !(Builtin.Str.occurrences j i 0 j.length 1).isEmpty)) H
def rInA (K : PySem.W.Frag) (neg : Bool) : R2 := fun x y H Q => rIn K neg x y H Q ∨ (rInS neg x y H Q ∨ rDIn neg x y H Q)
theorem op_inA (hu : X.A.units + 1 < cLine) : OpR X (compareOp .In) (rInA X.K false) := opr_or op_in_seq (opr_or op_in_str (op_dinA hu))
theorem op_notInA (hu : X.A.units + 1 < cLine) : OpR X (compareOp .NotIn) (rInA X.K true) := opr_or op_notIn_seq (opr_or op_notIn_str (op_dnotinA hu))
theorem repK_val {F : Hp} {k : Key} : ∀ {kvs : List (Key × D)} {ws : List (Key × V)}, RepK K T F kvs ws →
    (∀ d, valD kvs k = some d → ∃ v, valV ws k = some v ∧ Rep K T F d v) ∧ (valD kvs k = none → valV ws k = none)
  | [], ws, r => by
    rw [show ws = _ from r]
    exact ⟨fun d h => by simp [valD] at h, fun _ => rfl⟩
  | (k', d') :: kvs, ws, ⟨v, us, e1, h1, r⟩ => by
    obtain ⟨i1, i2⟩ := repK_val (k := k) r
    rw [e1]
    by_cases h : k' = k
    · subst h
      refine ⟨fun d q => ?_, fun q => ?_⟩
      · simp [valD] at q; subst q
        exact ⟨v, by simp [valV], h1⟩
      · simp [valD] at q
    · refine ⟨fun d q => ?_, fun q => ?_⟩
      · have q' : valD kvs k = some d := by simpa [valD, h] using q
        obtain ⟨u, h2, h3⟩ := i1 d q'
        exact ⟨u, by simpa [valV, h] using h2, h3⟩
      · have q' : valD kvs k = none := by simpa [valD, h] using q
        simpa [valV, h] using i2 q'
theorem repK_some {F : Hp} {k : Key} {kvs : List (Key × D)} {ws : List (Key × V)} (r : RepK K T F kvs ws) : (valV ws k).isSome = (valD kvs k).isSome := by
  cases q : valD kvs k with
  | none => rw [(repK_val r).2 q]; rfl
  | some d => obtain ⟨v, h, _⟩ := (repK_val r).1 d q; rw [h]; rfl
theorem in_of {F H : Hp} {x y : D} {b : Bool} {v w : V} {Q : VK} (neg : Bool) (h : inB x y = some b) (e : Ex F H) (rx : Rep K T F x v) (ry : RepB K T F H y w) (k : Q (.bl (if neg then !b else b)) H) : rInA K neg v w H Q := by
  have seq : ∀ ys : List D, ((flatD x).bind fun v => (flats ys).map fun vs => inV v vs) = some b → (∃ p us, w = .ref p ∧ (SqL K H p us ∨ SqT K H p us) ∧ Reps K T F ys us) → rInA K neg v w H Q := by
    intro ys q ⟨p, us, e1, hs, r⟩
    cases q1 : flatD x with
    | none => rw [q1] at q; cases q
    | some x' =>
      cases q2 : flats ys with
      | none => rw [q1, q2] at q; cases q
      | some vs =>
        rw [q1, q2] at q
        have qb : inV x' vs = b := Option.some.inj q
        rw [reps_flat q2 r] at hs
        rw [rep_flat q1 rx, e1]
        refine .inl ⟨p, vs, rfl, hs, flatD_V q1, flats_all q2, ?_⟩
        rw [qb]; exact k
  cases y with
  | tup ys => obtain ⟨a, us, e1, h1, r⟩ := ry; exact seq ys h ⟨a, us, e1, .inr (e.sqT h1), r⟩
  | lst ys => obtain ⟨a, us, e1, h1, r⟩ := ry; exact seq ys h ⟨a, us, e1, .inl (SqL.of h1), r⟩
  | frl ys => obtain ⟨a, us, e1, h1, r⟩ := ry; exact seq ys h ⟨a, us, e1, .inl (e.sqL h1), r⟩
  | dct kvs =>
    obtain ⟨a, ws, e1, h1, r⟩ := ry
    simp only [inB] at h
    cases q : keyD x with
    | none => rw [q] at h; cases h
    | some key =>
      rw [q] at h
      have hb : (valD kvs key).isSome = b := Option.some.inj h
      rw [rep_key q rx, e1]
      refine .inr (.inr ⟨a, _, rfl, DGet.k h1, ?_⟩)
      rw [repK_some r, hb]; exact k
  | str z =>
    obtain rfl : w = _ := ry
    cases x <;> simp only [inB, reduceCtorEq] at h
    obtain rfl : v = _ := rx
    cases h
    exact .inr (.inl ⟨_, _, rfl, rfl, k⟩)
  | _ => simp [inB] at h
theorem opv_inR : OpVR K T (rInA K false) inD := by
  intro x y z h F H v w Q e rx ry k
  unfold inD at h
  cases q : inB x y with
  | none => rw [q] at h; cases h
  | some b => rw [q] at h; cases h; exact in_of false q e rx ry (k _ F H .refl rfl)
theorem opv_in : OpV K T (rInA K false) inD := opv_inR.v
theorem opv_notInR : OpVR K T (rInA K true) notInD := by
  intro x y z h F H v w Q e rx ry k
  unfold notInD at h
  cases q : inB x y with
  | none => rw [q] at h; cases h
  | some b => rw [q] at h; cases h; exact in_of true q e rx ry (k _ F H .refl rfl)
theorem opv_notIn : OpV K T (rInA K true) notInD := opv_notInR.v
/-! ### is None -/
def isNone : D → Bool
  | .non => true
  | _ => false
def isND (x y : D) : Option D := if isNone y then some (.bl (isNone x)) else none
def notND (x y : D) : Option D := if isNone y then some (.bl (!isNone x)) else none
theorem rep_none {F : Hp} {d : D} {v : V} (r : Rep K T F d v) : decide (v = .non) = isNone d := by
  cases d with
  | non => rw [show v = _ from r]; rfl
  | bl b => rw [show v = _ from r]; rfl
  | int b => rw [show v = _ from r]; rfl
  | str b => rw [show v = _ from r]; rfl
  | tup xs => obtain ⟨a, _, e1, _⟩ := r; rw [e1]; rfl
  | lst xs => obtain ⟨a, _, e1, _⟩ := r; rw [e1]; rfl
  | frl xs => obtain ⟨a, _, e1, _⟩ := r; rw [e1]; rfl
  | dct xs => obtain ⟨a, _, e1, _⟩ := r; rw [e1]; rfl
  | ins c xs => obtain ⟨a, _, _, e1, _⟩ := r; rw [e1]; rfl
  | exc c xs => obtain ⟨a, _, _, e1, _⟩ := r; rw [e1]; rfl
theorem opv_isN : OpV K T (fun x y H Q => y = .non ∧ Q (.bl (decide (x = .non))) H) isND := by
  intro x y z h F H v w Q e rx ry k
  unfold isND at h
  split at h
  · rename_i q
    cases h
    cases y <;> simp [isNone] at q
    refine ⟨ry, ?_⟩
    rw [rep_none rx]
    exact k _ F H .refl rfl
  · cases h
theorem opv_notN : OpV K T (fun x y H Q => y = .non ∧ Q (.bl (!decide (x = .non))) H) notND := by
  intro x y z h F H v w Q e rx ry k
  unfold notND at h
  split at h
  · rename_i q
    cases h
    cases y <;> simp [isNone] at q
    refine ⟨ry, ?_⟩
    rw [rep_none rx]
    exact k _ F H .refl rfl
  · cases h
/-! ### subscripts -/
theorem ix_dict (hu : X.A.units + 1 < cLine) : IxR X (fun x y H Q => ∃ a v, x = .ref a ∧ DGet H a y (some v) ∧ Q v H) := by
  intro value slice pins s σ H x y v u Q I rx ry h hs
  obtain ⟨a, w, rfl, g, q⟩ := h
  obtain rfl : v = Value.ref a := rx
  have hT := dict_typeIs I g
  unfold subscriptTail
  refine wpAny_bind ?_
  rw [getitemInPython_of_ne hT.not_modules]
  refine wpAny_bind (wpAny_specialOf hT PySem.F.slot_dict_getitem.lookup ?_)
  have fin : wpAny (model X.prog X.w) X.A (subscripted slice false (.ref a) u) (fun r s₃ => wpAny (model X.prog X.w) X.A (letTemporaryGo value (.ref a) r >>= fun _ => pure r) (EP X pins σ Q) X.xe s₃) X.xe s := by
    rw [hs]
    exact wpAny_operating (wpAny_mono (d_getItem hu I g ry fun w' s3 I3 rw' => (⟨w, H, I3, rw', q⟩ : EP X pins σ Q w' s3)) (fun r s₃ h₃ => wpAny_bind (wpAny_letTemporaryGo (wpAny_pure h₃))) fun _ _ x => x)
  first
    | exact wpAny_pure (wpAny_bind fin)
    | exact wpAny_bind (wpAny_pure (wpAny_bind fin))
    | exact wpAny_bind fin
def rIxA (K : PySem.W.Frag) : R2 := fun x y H Q => rIx K x y H Q ∨ ∃ a v, x = .ref a ∧ DGet H a y (some v) ∧ Q v H
theorem ix_any (hu : X.A.units + 1 < cLine) : IxR X (rIxA X.K) := ix_seq.or (ix_dict hu)
def ixD : D → D → Option D
  | .tup xs, .int i => atI xs i
  | .lst xs, .int i => atI xs i
  | .frl xs, .int i => atI xs i
  | .str z, .int i => if z.length ≤ lim then (atI z.cps.toList i).map fun c => .str ⟨#[c]⟩ else none
  | .dct kvs, y => (keyD y).bind fun k => valD kvs k
  | _, _ => none
theorem atI_rep {F : Hp} {ds : List D} {vs : List V} {i : Int} {d : D} (r : Reps K T F ds vs) (h : atI ds i = some d) : ∃ v, atI vs i = some v ∧ Rep K T F d v := by
  unfold atI at h ⊢
  rw [r.length]
  cases q : ixN ds.length i with
  | none => rw [q] at h; cases h
  | some j => rw [q] at h; exact r.get h
theorem opv_ixL : OpVL K T (rIxA K) ixD := by
  intro x y z h F H v w Q e rx ry k
  cases x with
  | tup xs =>
    cases y <;> simp only [ixD, reduceCtorEq] at h
    obtain ⟨a, vs, rfl, ha, ra⟩ := rx
    obtain rfl : w = _ := ry
    obtain ⟨u, h1, h2⟩ := atI_rep ra h
    exact .inl (.inr (.inl ⟨a, vs, _, u, rfl, rfl, e.sqT ha, h1, k _ F H .refl h2⟩))
  | lst xs =>
    cases y <;> simp only [ixD, reduceCtorEq] at h
    obtain ⟨a, vs, rfl, ha, ra⟩ := rx
    obtain rfl : w = _ := ry
    obtain ⟨u, h1, h2⟩ := atI_rep ra h
    exact .inl (.inl ⟨a, vs, _, u, rfl, rfl, SqL.of ha, h1, k _ F H .refl h2⟩)
  | frl xs =>
    cases y <;> simp only [ixD, reduceCtorEq] at h
    obtain ⟨a, vs, rfl, ha, ra⟩ := rx
    obtain rfl : w = _ := ry
    obtain ⟨u, h1, h2⟩ := atI_rep ra h
    exact .inl (.inl ⟨a, vs, _, u, rfl, rfl, e.sqL ha, h1, k _ F H .refl h2⟩)
  | str t =>
    cases y <;> simp only [ixD, reduceCtorEq] at h
    obtain rfl : v = _ := rx
    obtain rfl : w = _ := ry
    split at h
    · rename_i i q
      cases q2 : atI t.cps.toList i with
      | none => rw [q2] at h; cases h
      | some c => rw [q2] at h; cases h; exact .inl (.inr (.inr ⟨_, _, c, rfl, rfl, le_line q, q2, k _ F H .refl rfl⟩))
    · cases h
  | dct kvs =>
    simp only [ixD] at h
    obtain ⟨a, ws, rfl, ha, ra⟩ := rx
    cases q : keyD y with
    | none => rw [q] at h; cases h
    | some key =>
      rw [q] at h
      obtain ⟨u, h1, h2⟩ := (repK_val ra).1 z h
      refine .inr ⟨a, u, rfl, ?_, k _ F H .refl h2⟩
      rw [rep_key q ry, ← h1]
      exact DGet.k ha
  | _ => cases y <;> simp [ixD] at h
theorem opv_ix : OpV K T (rIxA K) ixD := opv_ixL.v
/-! ### slices -/
def cutD (xs : List D) (lo hi : Option Int) : List D := (xs.drop (HT.sIx xs.length 0 lo)).take (HT.sIx xs.length xs.length hi - HT.sIx xs.length 0 lo)
def slD (x : D) (lo hi : Option Int) : Option D := match x with
  | .tup xs => some (.tup (cutD xs lo hi))
  | .lst xs => some (.lst (cutD xs lo hi))
  | .frl xs => some (.lst (cutD xs lo hi))
  | .str z => if z.length ≤ lim then some (.str (cutS z lo hi)) else none
  | _ => none
def rSlAny (K : PySem.W.Frag) : V → Option Int → Option Int → Hp → VK → Prop := fun x lo hi H Q => rSlL K x lo hi H Q ∨ (rSlA K x lo hi H Q ∨ rSlS x lo hi H Q)
theorem sl_any : SlR X (rSlAny X.K) := sl_list.or (sl_tupA.or sl_str)
theorem cut_rep {F : Hp} {ds : List D} {vs : List V} (r : Reps K T F ds vs) (lo hi : Option Int) : Reps K T F (cutD ds lo hi) (cutV vs lo hi) := by
  unfold cutD cutV
  rw [r.length]
  exact (r.drop _).take _
theorem cutD_all {ds : List D} {lo hi : Option Int} (h : HT.sIx ds.length 0 lo = 0 ∧ HT.sIx ds.length ds.length hi = ds.length) : cutD ds lo hi = ds := by
  unfold cutD
  rw [h.1, h.2]
  simp
theorem slv_any {F H : Hp} {x z : D} {lo hi : Option Int} {v : V} {Q : VK} (h : slD x lo hi = some z) (e : Ex F H) (rx : RepB K T F H x v) (k : ∀ u F' H', Grow K T F H F' H' → Rep K T F' z u → Q u H') : rSlAny K v lo hi H Q := by
  cases x with
  | tup xs =>
    obtain ⟨a, vs, rfl, ha, ra⟩ := rx
    cases h
    refine .inr (.inl ⟨a, vs, rfl, e.sqT ha, fun n => ?_, fun n p hp => ?_⟩)
    · refine k _ F H .refl ⟨a, vs, rfl, ha, ?_⟩
      rw [cutD_all (by rw [← ra.length]; exact n)]; exact ra
    · have g := Grow.new (K := K) (T := T) (o := HO.tup (cutV vs lo hi)) e hp
      exact k _ _ _ g ⟨p, _, rfl, SqT.of upd_same, (cut_rep ra lo hi).mono g.1⟩
  | lst xs =>
    obtain ⟨a, vs, rfl, ha, ra⟩ := rx
    cases h
    refine .inl ⟨a, vs, rfl, SqL.of ha, fun p hp => ?_⟩
    have g := Grow.new (K := K) (T := T) (o := HO.lst (cutV vs lo hi)) e hp
    exact k _ _ _ g ⟨p, _, rfl, upd_same, (cut_rep ra lo hi).mono g.1⟩
  | frl xs =>
    obtain ⟨a, vs, rfl, ha, ra⟩ := rx
    cases h
    refine .inl ⟨a, vs, rfl, e.sqL ha, fun p hp => ?_⟩
    have g := Grow.new (K := K) (T := T) (o := HO.lst (cutV vs lo hi)) e hp
    exact k _ _ _ g ⟨p, _, rfl, upd_same, (cut_rep ra lo hi).mono g.1⟩
  | str t =>
    obtain rfl : v = _ := rx
    simp only [slD] at h
    split at h
    · rename_i q
      cases h
      exact .inr (.inr ⟨t, rfl, le_line q, k _ F H .refl rfl⟩)
    · cases h
  | _ => simp [slD] at h
/-- truth -/
def truD : D → Option Bool
  | .non => some false
  | .bl b => some b
  | .int i => some (i != 0)
  | .str x => if x.length ≤ lim then some ((x.length : Int) != 0) else none
  | .tup xs => some (!xs.isEmpty)
  | .lst xs => some (!xs.isEmpty)
  | .frl xs => some (!xs.isEmpty)
  | .dct kvs => some (!kvs.isEmpty)
  | _ => none
theorem reps_isEmpty {F : Hp} {ds : List D} {vs : List V} (r : Reps K T F ds vs) : vs.isEmpty = ds.isEmpty := by
  cases ds with
  | nil => rw [show vs = _ from r]; rfl
  | cons d ds => obtain ⟨v, ws, e1, _⟩ := r; rw [e1]; rfl
theorem repK_isEmpty {F : Hp} {ds : List (Key × D)} {vs : List (Key × V)} (r : RepK K T F ds vs) : vs.isEmpty = ds.isEmpty := by
  cases ds with
  | nil => rw [show vs = _ from r]; rfl
  | cons d ds => obtain ⟨k, d⟩ := d; obtain ⟨v, ws, e1, _⟩ := r; rw [e1]; rfl
theorem truvB {F H : Hp} {d : D} {v : V} {b : Bool} (h : truD d = some b) (e : Ex F H) (r : RepB K T F H d v) : TruV K v H b := by
  cases d with
  | non => rw [show v = _ from r]; cases h; rfl
  | bl b => rw [show v = _ from r]; cases h; rfl
  | int b => rw [show v = _ from r]; cases h; rfl
  | str b =>
    rw [show v = _ from r]
    simp only [truD] at h
    split at h
    · rename_i q
      cases h; exact ⟨le_line q, rfl⟩
    · cases h
  | tup xs => obtain ⟨a, vs, rfl, h1, r⟩ := r; cases h; exact .inr (.inl ⟨vs, e.sqT h1, by rw [reps_isEmpty r]⟩)
  | lst xs => obtain ⟨a, vs, rfl, h1, r⟩ := r; cases h; exact .inl ⟨vs, SqL.of h1, by rw [reps_isEmpty r]⟩
  | frl xs => obtain ⟨a, vs, rfl, h1, r⟩ := r; cases h; exact .inl ⟨vs, e.sqL h1, by rw [reps_isEmpty r]⟩
  | dct xs => obtain ⟨a, vs, rfl, h1, r⟩ := r; cases h; exact .inr (.inr ⟨vs, h1, by rw [repK_isEmpty r]⟩)
  | _ => simp [truD] at h
theorem truv {F H : Hp} {d : D} {v : V} {b : Bool} (h : truD d = some b) (e : Ex F H) (r : Rep K T F d v) : TruV K v H b := truvB h e (r.b e)
end
end VS
set_option maxHeartbeats 2000000
namespace VS
open PySem L2 PySem.Spec PyProof.Rows
section
variable {T : Txt} {X : Cx} {W : WX} {e a b c : Expr} {es : List Expr} {pos : Pos}
/-! ### two operands, as a value and as a test -/
theorem op_core {r : R2} {f : D → D → Option D} {ga gb : Ev D} (hr : OpV X.K T r f) (ha : JE T X W a ga) (hb : JE T X W b gb) (ρ : VEnv) :
    ∃ ta tb, PE X a ta ∧ PE X b tb ∧ ∀ σ H Q, rdE X.K T W ρ (mOp f ga gb ρ) σ H Q → tOp r ta tb σ H Q := by
  have h1 := ha ρ
  unfold mOp
  cases q1 : ga ρ with
  | stuck => exact ⟨_, _, pe_no, pe_no, fun σ H Q h => h.elim⟩
  | ex c ds ρ1 =>
    rw [q1] at h1
    exact ⟨_, _, h1, pe_no, fun σ H Q ⟨F, Z, L, r, k⟩ => ⟨F, Z, L, r, k⟩⟩
  | ok x ρ1 =>
    rw [q1] at h1
    have h2 := hb ρ1
    cases q2 : gb ρ1 with
    | stuck => exact ⟨_, _, h1, pe_no, fun σ H Q h => by simp only [R.bind_ok, q2, R.bind_stuck] at h; exact h.elim⟩
    | ex c ds ρ2 =>
      rw [q2] at h2
      refine ⟨_, _, h1, h2, fun σ H Q h => ?_⟩
      simp only [R.bind_ok, q2, R.bind_ex] at h
      obtain ⟨F, Z, L, r, k⟩ := h
      exact ⟨F, Z, L, r, fun v F1 H1 e1 r1 p1 => ⟨F1, Z, L, r1, fun cls dd F2 H2 e2 r2 x2 => k cls dd F2 H2 (e1.trans e2) r2 x2⟩⟩
    | ok y ρ2 =>
      rw [q2] at h2
      refine ⟨_, _, h1, h2, fun σ H Q h => ?_⟩
      simp only [R.bind_ok, q2] at h
      cases q3 : f x y with
      | none => rw [q3] at h; exact h.elim
      | some z =>
        rw [q3] at h
        obtain ⟨F, Z, L, r, k⟩ := h
        exact ⟨F, Z, L, r, fun v F1 H1 e1 r1 p1 => ⟨F1, Z, L, r1, fun w F2 H2 e2 r2 p2 =>
          hr x y z q3 F2 H2 v w Q r2.exF (p1.mono e2) p2 fun u F3 H3 g p3 => k u F3 H3 ((e1.trans e2).trans g.1) (g.2 _ _ _ _ r2) p3⟩⟩
def asB (d : D) (ρ : VEnv) : R Bool := match d with
  | .bl b => .ok b ρ
  | _ => .stuck
/-- a truth value as a test -/
def mTest (g : Ev D) : Ev Bool := fun ρ => (g ρ).bind asB
/-- anything as a test -/
def mTruth (g : Ev D) : Ev Bool := fun ρ => (g ρ).bind fun d ρ' => R.of (truD d) ρ'
theorem rdT_test {K : PySem.W.Frag} {ρ : VEnv} {r : R D} {σ : L2.St} {H : Hp} {Q : Bool → Hp → Prop} (h : rdT K T W ρ (r.bind asB) σ H Q) : rdE K T W ρ r σ H (fun x H' => ∃ k, x = .bl k ∧ Q k H') := by
  cases r with
  | stuck => exact h
  | ex c ds ρ' => exact h
  | ok d ρ' =>
    cases d with
    | bl b => obtain ⟨F, Z, L, r, k⟩ := h; exact ⟨F, Z, L, r, fun v F' H' e r' p => ⟨b, p, k F' H' e r'⟩⟩
    | _ => exact h.elim
theorem je_op2 {r : R2} {f : D → D → Option D} {ga gb : Ev D} (rule : ∀ ta tb, PE X a ta → PE X b tb → PE X e (tOp r ta tb)) (hr : OpV X.K T r f) (ha : JE T X W a ga) (hb : JE T X W b gb) : JE T X W e (mOp f ga gb) := fun ρ => by
  obtain ⟨ta, tb, h1, h2, k⟩ := op_core hr ha hb ρ
  exact pe_weak (rule ta tb h1 h2) k
theorem jt_op2 {r : R2} {f : D → D → Option D} {ga gb : Ev D} (rule : ∀ ta tb, PE X a ta → PE X b tb → PT X e (tTest (tOp r ta tb))) (hr : OpV X.K T r f) (ha : JE T X W a ga) (hb : JE T X W b gb) : JT T X W e (mTest (mOp f ga gb)) := fun ρ => by
  obtain ⟨ta, tb, h1, h2, k⟩ := op_core hr ha hb ρ
  exact pt_weak (rule ta tb h1 h2) fun σ H Q h => k σ H _ (rdT_test h)
/-- BinOp -/
theorem je_add {ga gb : Ev D} (ha : JE T X W a ga) (hb : JE T X W b gb) : JE T X W (.BinOp a .Add b pos) (mOp addD ga gb) := je_op2 (fun _ _ h1 h2 => pe_op op_addA h1 h2) opv_add ha hb
theorem je_sub {ga gb : Ev D} (ha : JE T X W a ga) (hb : JE T X W b gb) : JE T X W (.BinOp a .Sub b pos) (mOp subD ga gb) := je_op2 (fun _ _ h1 h2 => pe_op op_sub h1 h2) opv_sub ha hb
theorem je_mul {ga gb : Ev D} (ha : JE T X W a ga) (hb : JE T X W b gb) : JE T X W (.BinOp a .Mult b pos) (mOp mulD ga gb) := je_op2 (fun _ _ h1 h2 => pe_op op_mulA h1 h2) opv_mul ha hb
theorem je_mod {ga gb : Ev D} (ha : JE T X W a ga) (hb : JE T X W b gb) : JE T X W (.BinOp a .Mod b pos) (mOp modD ga gb) := je_op2 (fun _ _ h1 h2 => pe_op op_mod h1 h2) opv_mod ha hb
theorem je_fdiv {ga gb : Ev D} (ha : JE T X W a ga) (hb : JE T X W b gb) : JE T X W (.BinOp a .FloorDiv b pos) (mOp fdivD ga gb) := je_op2 (fun _ _ h1 h2 => pe_op op_fdivW h1 h2) opv_fdiv ha hb
theorem je_pow {ga gb : Ev D} (ha : JE T X W a ga) (hb : JE T X W b gb) : JE T X W (.BinOp a .Pow b pos) (mOp powD ga gb) := je_op2 (fun _ _ h1 h2 => pe_op op_pow h1 h2) opv_pow ha hb
/-- the comparisons by one sign -/
structure Cmp (X : Cx) (T : Txt) (op : CmpOp) (f : D → D → Option D) : Prop where
  ex : ∃ r, OpR X (compareOp op) r ∧ OpV X.K T r f
theorem cmp_lt : Cmp X T .Lt ltD := ⟨_, op_ltA, opv_lt⟩
theorem cmp_le : Cmp X T .LtE leD := ⟨_, op_leA, opv_le⟩
theorem cmp_gt : Cmp X T .Gt gtD := ⟨_, op_gtA, opv_gt⟩
theorem cmp_ge : Cmp X T .GtE geD := ⟨_, op_geA, opv_ge⟩
theorem cmp_eq {k : Nat} (hr : Room k X.A) : Cmp X T .Eq eqD := ⟨_, opr_or op_eq (op_eqD hr.units), opv_eq⟩
theorem cmp_ne {k : Nat} (hr : Room k X.A) : Cmp X T .NotEq neD := ⟨_, opr_or op_ne (op_neD hr.units), opv_ne⟩
theorem cmp_in {k : Nat} (hr : Room k X.A) : Cmp X T .In inD := ⟨_, op_inA (hu_of hr), opv_in⟩
theorem cmp_nin {k : Nat} (hr : Room k X.A) : Cmp X T .NotIn notInD := ⟨_, op_notInA (hu_of hr), opv_notIn⟩
theorem cmp_is : Cmp X T .Is isND := ⟨_, op_isN, opv_isN⟩
theorem cmp_isnot : Cmp X T .IsNot notND := ⟨_, op_notN, opv_notN⟩
theorem je_cmp {op : CmpOp} {f : D → D → Option D} {ga gb : Ev D} (q : Cmp X T op f) (ha : JE T X W a ga) (hb : JE T X W b gb) (hm : behindInMarks op b = false := by first | exact nomark _ | rfl) : JE T X W (.Compare a [op] [b] pos) (mOp f ga gb) := by
  obtain ⟨r, h1, h2⟩ := q.ex
  exact je_op2 (fun _ _ p1 p2 => pe_cmpR h1 p1 p2 hm) h2 ha hb
theorem jt_cmp {op : CmpOp} {f : D → D → Option D} {ga gb : Ev D} (q : Cmp X T op f) (ha : JE T X W a ga) (hb : JE T X W b gb) (hm : behindInMarks op b = false := by first | exact nomark _ | rfl) : JT T X W (.Compare a [op] [b] pos) (mTest (mOp f ga gb)) := by
  obtain ⟨r, h1, h2⟩ := q.ex
  exact jt_op2 (fun _ _ p1 p2 => pt_cmpR h1 p1 p2 hm) h2 ha hb
/-! ### a < b < c -/
def mChain (f f' : D → D → Option D) (ga gb gc : Ev D) : Ev D := fun ρ => (ga ρ).bind fun x ρ1 => (gb ρ1).bind fun y ρ2 => match f x y with
  | some (.bl true) => (gc ρ2).bind fun z ρ3 => R.of (f' y z) ρ3
  | some (.bl false) => .ok (.bl false) ρ2
  | _ => .stuck
theorem chain_core {r r' : R2} {f f' : D → D → Option D} {ga gb gc : Ev D} (hr : OpV X.K T r f) (hr' : OpV X.K T r' f') (ha : JE T X W a ga) (hb : JE T X W b gb) (hc : JE T X W c gc) (ρ : VEnv) :
    ∃ ta tb tc, PE X a ta ∧ PE X b tb ∧ PE X c tc ∧ ∀ σ H Q, rdE X.K T W ρ (mChain f f' ga gb gc ρ) σ H Q → tChain r r' ta tb tc σ H Q := by
  have h1 := ha ρ
  unfold mChain
  cases q1 : ga ρ with
  | stuck => exact ⟨_, _, _, pe_no, pe_no, pe_no, fun σ H Q h => h.elim⟩
  | ex c ds ρ1 =>
    rw [q1] at h1
    exact ⟨_, _, _, h1, pe_no, pe_no, fun σ H Q ⟨F, Z, L, r, k⟩ => ⟨F, Z, L, r, k⟩⟩
  | ok x ρ1 =>
    rw [q1] at h1
    have h2 := hb ρ1
    cases q2 : gb ρ1 with
    | stuck => exact ⟨_, _, _, h1, pe_no, pe_no, fun σ H Q h => by simp only [R.bind_ok, q2, R.bind_stuck] at h; exact h.elim⟩
    | ex c ds ρ2 =>
      rw [q2] at h2
      refine ⟨_, _, _, h1, h2, pe_no, fun σ H Q h => ?_⟩
      simp only [R.bind_ok, q2, R.bind_ex] at h
      obtain ⟨F, Z, L, r, k⟩ := h
      exact ⟨F, Z, L, r, fun v F1 H1 e1 r1 p1 => ⟨F1, Z, L, r1, fun cls dd F2 H2 e2 r2 x2 => k cls dd F2 H2 (e1.trans e2) r2 x2⟩⟩
    | ok y ρ2 =>
      rw [q2] at h2
      have h3 := hc ρ2
      simp only [R.bind_ok, q2]
      cases q3 : f x y with
      | none => exact ⟨_, _, _, h1, h2, pe_no, fun σ H Q h => h.elim⟩
      | some z =>
        cases z with
        | bl t =>
          cases t with
          | false =>
            refine ⟨_, _, _, h1, h2, pe_no, fun σ H Q ⟨F, Z, L, r, k⟩ => ?_⟩
            exact ⟨F, Z, L, r, fun v F1 H1 e1 r1 p1 => ⟨F1, Z, L, r1, fun w F2 H2 e2 r2 p2 =>
              hr x y _ q3 F2 H2 v w _ r2.exF (p1.mono e2) p2 fun u F3 H3 g p3 => ⟨false, p3, iteF (k _ F3 H3 ((e1.trans e2).trans g.1) (g.2 _ _ _ _ r2) rfl)⟩⟩⟩
          | true =>
            cases q4 : gc ρ2 with
            | stuck => exact ⟨_, _, _, h1, h2, pe_no, fun σ H Q h => by simp only [R.bind_stuck] at h; exact h.elim⟩
            | ex c ds ρ3 =>
              rw [q4] at h3
              refine ⟨_, _, _, h1, h2, h3, fun σ H Q ⟨F, Z, L, r, k⟩ => ?_⟩
              exact ⟨F, Z, L, r, fun v F1 H1 e1 r1 p1 => ⟨F1, Z, L, r1, fun w F2 H2 e2 r2 p2 =>
                hr x y _ q3 F2 H2 v w _ r2.exF (p1.mono e2) p2 fun u F3 H3 g p3 => ⟨true, p3, iteT ⟨F3, Z, L, g.2 _ _ _ _ r2, fun cls dd F4 H4 e4 r4 x4 => k cls dd F4 H4 (((e1.trans e2).trans g.1).trans e4) r4 x4⟩⟩⟩⟩
            | ok z ρ3 =>
              rw [q4] at h3
              cases q5 : f' y z with
              | none => exact ⟨_, _, _, h1, h2, h3, fun σ H Q h => by simp only [R.bind_ok, q5] at h; exact h.elim⟩
              | some u =>
                refine ⟨_, _, _, h1, h2, h3, fun σ H Q h => ?_⟩
                simp only [R.bind_ok, q5] at h
                obtain ⟨F, Z, L, r, k⟩ := h
                exact ⟨F, Z, L, r, fun v F1 H1 e1 r1 p1 => ⟨F1, Z, L, r1, fun w F2 H2 e2 r2 p2 =>
                  hr x y _ q3 F2 H2 v w _ r2.exF (p1.mono e2) p2 fun u F3 H3 g p3 => ⟨true, p3, iteT ⟨F3, Z, L, g.2 _ _ _ _ r2, fun w2 F4 H4 e4 r4 p4 =>
                    hr' y z _ q5 F4 H4 w w2 _ r4.exF ((p2.mono g.1).mono e4) p4 fun u5 F5 H5 g5 p5 => k u5 F5 H5 ((((e1.trans e2).trans g.1).trans e4).trans g5.1) (g5.2 _ _ _ _ r4) p5⟩⟩⟩⟩
        | _ => exact ⟨_, _, _, h1, h2, pe_no, fun σ H Q h => h.elim⟩
theorem je_chain {op op' : CmpOp} {f f' : D → D → Option D} {ga gb gc : Ev D} (q : Cmp X T op f) (q' : Cmp X T op' f') (ha : JE T X W a ga) (hb : JE T X W b gb) (hc : JE T X W c gc) (hm : lastMarks [op, op'] [b, c] = false := by rfl) :
    JE T X W (.Compare a [op, op'] [b, c] pos) (mChain f f' ga gb gc) := fun ρ => by
  obtain ⟨r, h1, h2⟩ := q.ex
  obtain ⟨r', h1', h2'⟩ := q'.ex
  obtain ⟨ta, tb, tc, p1, p2, p3, k⟩ := chain_core h2 h2' ha hb hc ρ
  exact pe_weak (pe_chain h1 h1' p1 p2 p3 hm) k
theorem jt_chain {op op' : CmpOp} {f f' : D → D → Option D} {ga gb gc : Ev D} (q : Cmp X T op f) (q' : Cmp X T op' f') (ha : JE T X W a ga) (hb : JE T X W b gb) (hc : JE T X W c gc) (hm : lastMarks [op, op'] [b, c] = false := by rfl) :
    JT T X W (.Compare a [op, op'] [b, c] pos) (mTest (mChain f f' ga gb gc)) := fun ρ => by
  obtain ⟨r, h1, h2⟩ := q.ex
  obtain ⟨r', h1', h2'⟩ := q'.ex
  obtain ⟨ta, tb, tc, p1, p2, p3, k⟩ := chain_core h2 h2' ha hb hc ρ
  exact pt_weak (pt_chain h1 h1' p1 p2 p3 hm) fun σ H Q h => k σ H _ (rdT_test h)
/-! ### tests -/
theorem jt_truth {g : Ev D} (h : JE T X W e g) (he : ∀ whole, isTrue e X.env whole = (do let v ← whole; standAt e.pos; holding [v] (truthy v)) := by intro _; rfl) : JT T X W e (mTruth g) := fun ρ => by
  have h1 := h ρ
  unfold mTruth
  refine pt_weak (pt_truth h1 he) fun σ H Q q => ?_
  cases q1 : g ρ with
  | stuck => rw [q1] at q; exact q.elim
  | ex c ds ρ1 => rw [q1] at q; exact q
  | ok d ρ1 =>
    rw [q1] at q
    cases q2 : truD d with
    | none => simp only [R.bind_ok, q2] at q; exact q.elim
    | some b =>
      simp only [R.bind_ok, q2] at q
      obtain ⟨F, Z, L, r, k⟩ := q
      exact ⟨F, Z, L, r, fun v F' H' e r' p => ⟨b, truv q2 r'.exF p, k F' H' e r'⟩⟩
def mAnd (g h : Ev Bool) : Ev Bool := fun ρ => (g ρ).bind fun b ρ' => if b = true then h ρ' else .ok false ρ'
def mOr (g h : Ev Bool) : Ev Bool := fun ρ => (g ρ).bind fun b ρ' => if b = true then .ok true ρ' else h ρ'
def mNot (g : Ev Bool) : Ev Bool := fun ρ => (g ρ).bind fun b ρ' => .ok (!b) ρ'
variable {rest : List Expr}
theorem jt_of_jw {g : Ev Bool} (h : JW T X W e g) : JT T X W e g := fun ρ => (h ρ).pt
theorem jw_and1 {g : Ev Bool} (h : JT T X W a g) : JW T X W (.BoolOp .And [a] pos) g := fun ρ => pw_and1 (h ρ)
theorem jw_or1 {g : Ev Bool} (h : JT T X W a g) : JW T X W (.BoolOp .Or [a] pos) g := fun ρ => pw_or1 (h ρ)
theorem jw_and {g h : Ev Bool} (h1 : JT T X W a g) (h2 : JW T X W (.BoolOp .And (b :: rest) pos) h) : JW T X W (.BoolOp .And (a :: b :: rest) pos) (mAnd g h) := fun ρ => by
  have p1 := h1 ρ
  unfold mAnd
  cases q1 : g ρ with
  | stuck => exact pw_no
  | ex c ds ρ1 => rw [q1] at p1; exact pw_weak (pw_and p1 pw_no) fun σ H Q q => q
  | ok t ρ1 =>
    rw [q1] at p1
    cases t with
    | false => exact pw_weak (pw_and p1 pw_no) fun σ H Q ⟨F, Z, L, r, k⟩ => ⟨F, Z, L, r, fun F' H' e r' => iteF (k F' H' e r')⟩
    | true =>
      have p2 := h2 ρ1
      refine pw_weak (pw_and p1 p2) fun σ H Q q => ?_
      simp only [R.bind_ok, if_true] at q
      cases q2 : h ρ1 with
      | stuck => rw [q2] at q; exact q.elim
      | ex c ds ρ2 =>
        rw [q2] at q
        obtain ⟨F, Z, L, r, k⟩ := q
        exact ⟨F, Z, L, r, fun F1 H1 e1 r1 => iteT ⟨F1, Z, L, r1, fun cls dd F2 H2 e2 r2 x2 => k cls dd F2 H2 (e1.trans e2) r2 x2⟩⟩
      | ok u ρ2 =>
        rw [q2] at q
        obtain ⟨F, Z, L, r, k⟩ := q
        exact ⟨F, Z, L, r, fun F1 H1 e1 r1 => iteT ⟨F1, Z, L, r1, fun F2 H2 e2 r2 => k F2 H2 (e1.trans e2) r2⟩⟩
theorem jw_or {g h : Ev Bool} (h1 : JT T X W a g) (h2 : JW T X W (.BoolOp .Or (b :: rest) pos) h) : JW T X W (.BoolOp .Or (a :: b :: rest) pos) (mOr g h) := fun ρ => by
  have p1 := h1 ρ
  unfold mOr
  cases q1 : g ρ with
  | stuck => exact pw_no
  | ex c ds ρ1 => rw [q1] at p1; exact pw_weak (pw_or p1 pw_no) fun σ H Q q => q
  | ok t ρ1 =>
    rw [q1] at p1
    cases t with
    | true => exact pw_weak (pw_or p1 pw_no) fun σ H Q ⟨F, Z, L, r, k⟩ => ⟨F, Z, L, r, fun F' H' e r' => iteT (k F' H' e r')⟩
    | false =>
      have p2 := h2 ρ1
      refine pw_weak (pw_or p1 p2) fun σ H Q q => ?_
      simp only [R.bind_ok, Bool.false_eq_true, if_false] at q
      cases q2 : h ρ1 with
      | stuck => rw [q2] at q; exact q.elim
      | ex c ds ρ2 =>
        rw [q2] at q
        obtain ⟨F, Z, L, r, k⟩ := q
        exact ⟨F, Z, L, r, fun F1 H1 e1 r1 => iteF ⟨F1, Z, L, r1, fun cls dd F2 H2 e2 r2 x2 => k cls dd F2 H2 (e1.trans e2) r2 x2⟩⟩
      | ok u ρ2 =>
        rw [q2] at q
        obtain ⟨F, Z, L, r, k⟩ := q
        exact ⟨F, Z, L, r, fun F1 H1 e1 r1 => iteF ⟨F1, Z, L, r1, fun F2 H2 e2 r2 => k F2 H2 (e1.trans e2) r2⟩⟩
theorem jt_not {g : Ev Bool} (h : JT T X W a g) : JT T X W (.UnaryOp .Not a pos) (mNot g) := fun ρ => by
  refine pt_weak (pt_not (h ρ)) fun σ H Q q => ?_
  unfold mNot at q
  cases q1 : g ρ with
  | stuck => rw [q1] at q; exact q.elim
  | ex c ds ρ1 => rw [q1] at q; exact q
  | ok t ρ1 => rw [q1] at q; exact q
/-! ### and, or, not as values -/
def mAndV (g h : Ev D) : Ev D := fun ρ => (g ρ).bind fun d ρ' => match truD d with
  | some true => h ρ'
  | some false => .ok d ρ'
  | none => .stuck
def mOrV (g h : Ev D) : Ev D := fun ρ => (g ρ).bind fun d ρ' => match truD d with
  | some true => .ok d ρ'
  | some false => h ρ'
  | none => .stuck
def mNotV (g : Ev D) : Ev D := fun ρ => (g ρ).bind fun d ρ' => R.of ((truD d).map fun b => .bl (!b)) ρ'
theorem je_one {op : BoolOp} {g : Ev D} (h : JE T X W a g) : JE T X W (.BoolOp op [a] pos) g := fun ρ => pe_one (h ρ)
theorem rd_then {K : PySem.W.Frag} {ρ ρ1 : VEnv} {d : D} {r2 : R D} {σ : L2.St} {H : Hp} {Q : VK} {C : V → Hp → Prop}
    (q : rdE K T W ρ r2 σ H Q) (hc : ∀ v F' H', Ex F' H' → Rep K T F' d v → rdE K T W ρ1 r2 σ H' Q → C v H') (ne : r2 ≠ .stuck) : rdE K T W ρ (.ok d ρ1) σ H C := by
  cases r2 with
  | stuck => exact absurd rfl ne
  | ex c ds ρ2 =>
    obtain ⟨F, Z, L, r, k⟩ := q
    exact ⟨F, Z, L, r, fun v F1 H1 e1 r1 p1 => hc v F1 H1 r1.exF p1 ⟨F1, Z, L, r1, fun cls dd F2 H2 e2 r2 x2 => k cls dd F2 H2 (e1.trans e2) r2 x2⟩⟩
  | ok u ρ2 =>
    obtain ⟨F, Z, L, r, k⟩ := q
    exact ⟨F, Z, L, r, fun v F1 H1 e1 r1 p1 => hc v F1 H1 r1.exF p1 ⟨F1, Z, L, r1, fun w F2 H2 e2 r2 p2 => k w F2 H2 (e1.trans e2) r2 p2⟩⟩
theorem je_and {g h : Ev D} (h1 : JE T X W a g) (h2 : JE T X W (.BoolOp .And (b :: rest) pos) h) : JE T X W (.BoolOp .And (a :: b :: rest) pos) (mAndV g h) := fun ρ => by
  have p1 := h1 ρ
  unfold mAndV
  cases q1 : g ρ with
  | stuck => exact pe_no
  | ex c ds ρ1 => rw [q1] at p1; exact pe_weak (pe_andT p1 pe_no) fun σ H Q q => q
  | ok d ρ1 =>
    rw [q1] at p1
    have p2 := h2 ρ1
    simp only [R.bind_ok]
    cases q2 : truD d with
    | none => exact pe_no
    | some t =>
      cases t with
      | false => exact pe_weak (pe_andT p1 pe_no) fun σ H Q ⟨F, Z, L, r, k⟩ => ⟨F, Z, L, r, fun v F' H' e r' p => ⟨false, truv q2 r'.exF p, iteF (k v F' H' e r' p)⟩⟩
      | true =>
        by_cases ne : h ρ1 = .stuck
        · simp only [ne]; exact pe_no
        · exact pe_weak (pe_andT p1 p2) fun σ H Q q => rd_then q (fun v F' H' e p q' => ⟨true, truv q2 e p, iteT q'⟩) ne
theorem je_or {g h : Ev D} (h1 : JE T X W a g) (h2 : JE T X W (.BoolOp .Or (b :: rest) pos) h) : JE T X W (.BoolOp .Or (a :: b :: rest) pos) (mOrV g h) := fun ρ => by
  have p1 := h1 ρ
  unfold mOrV
  cases q1 : g ρ with
  | stuck => exact pe_no
  | ex c ds ρ1 => rw [q1] at p1; exact pe_weak (pe_orT p1 pe_no) fun σ H Q q => q
  | ok d ρ1 =>
    rw [q1] at p1
    have p2 := h2 ρ1
    simp only [R.bind_ok]
    cases q2 : truD d with
    | none => exact pe_no
    | some t =>
      cases t with
      | true => exact pe_weak (pe_orT p1 pe_no) fun σ H Q ⟨F, Z, L, r, k⟩ => ⟨F, Z, L, r, fun v F' H' e r' p => ⟨true, truv q2 r'.exF p, iteT (k v F' H' e r' p)⟩⟩
      | false =>
        by_cases ne : h ρ1 = .stuck
        · simp only [ne]; exact pe_no
        · exact pe_weak (pe_orT p1 p2) fun σ H Q q => rd_then q (fun v F' H' e p q' => ⟨false, truv q2 e p, iteF q'⟩) ne
theorem je_not {g : Ev D} (h : JE T X W a g) : JE T X W (.UnaryOp .Not a pos) (mNotV g) := fun ρ => by
  refine pe_weak (pe_notT (h ρ)) fun σ H Q q => ?_
  unfold mNotV at q
  cases q1 : g ρ with
  | stuck => rw [q1] at q; exact q.elim
  | ex c ds ρ1 => rw [q1] at q; exact q
  | ok d ρ1 =>
    rw [q1] at q
    simp only [R.bind_ok] at q
    cases q2 : truD d with
    | none => rw [q2] at q; exact q.elim
    | some t =>
      rw [q2] at q
      obtain ⟨F, Z, L, r, k⟩ := q
      exact ⟨F, Z, L, r, fun v F' H' e r' p => ⟨t, truv q2 r'.exF p, k _ F' H' e r' rfl⟩⟩
/-- a if t else b -/
def mIf (t : Ev Bool) (g h : Ev D) : Ev D := fun ρ => (t ρ).bind fun b ρ' => if b = true then g ρ' else h ρ'
theorem rdT_then {K : PySem.W.Frag} {ρ ρ1 : VEnv} {t : Bool} {r2 : R D} {σ : L2.St} {H : Hp} {Q : VK} {C : Bool → Hp → Prop}
    (q : rdE K T W ρ r2 σ H Q) (hc : ∀ H', rdE K T W ρ1 r2 σ H' Q → C t H') (ne : r2 ≠ .stuck) : rdT K T W ρ (.ok t ρ1) σ H C := by
  cases r2 with
  | stuck => exact absurd rfl ne
  | ex c ds ρ2 =>
    obtain ⟨F, Z, L, r, k⟩ := q
    exact ⟨F, Z, L, r, fun F1 H1 e1 r1 => hc H1 ⟨F1, Z, L, r1, fun cls dd F2 H2 e2 r2 x2 => k cls dd F2 H2 (e1.trans e2) r2 x2⟩⟩
  | ok u ρ2 =>
    obtain ⟨F, Z, L, r, k⟩ := q
    exact ⟨F, Z, L, r, fun F1 H1 e1 r1 => hc H1 ⟨F1, Z, L, r1, fun w F2 H2 e2 r2 p2 => k w F2 H2 (e1.trans e2) r2 p2⟩⟩
theorem je_if {t : Ev Bool} {g h : Ev D} (hc : JT T X W c t) (ha : JE T X W a g) (hb : JE T X W b h) : JE T X W (.IfExp c a b pos) (mIf t g h) := fun ρ => by
  have p1 := hc ρ
  unfold mIf
  cases q1 : t ρ with
  | stuck => exact pe_no
  | ex c ds ρ1 => rw [q1] at p1; exact pe_weak (pe_ifExp p1 pe_no pe_no) fun σ H Q q => q
  | ok d ρ1 =>
    rw [q1] at p1
    have p2 := ha ρ1
    have p3 := hb ρ1
    simp only [R.bind_ok]
    cases d with
    | true =>
      rw [if_pos rfl]
      by_cases ne : g ρ1 = .stuck
      · simp only [ne]; exact pe_no
      · exact pe_weak (pe_ifExp p1 p2 p3) fun σ H Q q => rdT_then q (fun H' q' => iteT q') ne
    | false =>
      rw [if_neg Bool.false_ne_true]
      by_cases ne : h ρ1 = .stuck
      · simp only [ne]; exact pe_no
      · exact pe_weak (pe_ifExp p1 p2 p3) fun σ H Q q => rdT_then q (fun H' q' => iteF q') ne
/-! ### argument lists, displays -/
def mNil : Ev (List D) := fun ρ => .ok [] ρ
def mCons (g : Ev D) (h : Ev (List D)) : Ev (List D) := fun ρ => (g ρ).bind fun d ρ1 => (h ρ1).bind fun ds ρ2 => .ok (d :: ds) ρ2
theorem ja_nil : JA T X W [] mNil := fun ρ => pa_weak pa_nil fun σ H Q ⟨F, Z, L, r, k⟩ => k [] F H (Ex.refl F) r rfl
theorem ja_cons {g : Ev D} {h : Ev (List D)} (h1 : JE T X W e g) (h2 : JA T X W es h) (hs : starEach (e :: es) X.env = (false, eval e X.env) :: starEach es X.env := by rfl) : JA T X W (e :: es) (mCons g h) := fun ρ => by
  have p1 := h1 ρ
  unfold mCons
  cases q1 : g ρ with
  | stuck => exact pa_no
  | ex c ds ρ1 => rw [q1] at p1; exact pa_weak (pa_cons p1 pa_no hs) fun σ H Q q => q
  | ok d ρ1 =>
    rw [q1] at p1
    have p2 := h2 ρ1
    simp only [R.bind_ok]
    cases q2 : h ρ1 with
    | stuck => exact pa_no
    | ex c ds ρ2 =>
      rw [q2] at p2
      exact pa_weak (pa_cons p1 p2 hs) fun σ H Q ⟨F, Z, L, r, k⟩ => ⟨F, Z, L, r, fun v F1 H1 e1 r1 _ => ⟨F1, Z, L, r1, fun cls dd F2 H2 e2 r2 x2 => k cls dd F2 H2 (e1.trans e2) r2 x2⟩⟩
    | ok ds ρ2 =>
      rw [q2] at p2
      exact pa_weak (pa_cons p1 p2 hs) fun σ H Q ⟨F, Z, L, r, k⟩ => ⟨F, Z, L, r, fun v F1 H1 e1 r1 x1 => ⟨F1, Z, L, r1, fun vs F2 H2 e2 r2 x2 => k _ F2 H2 (e1.trans e2) r2 ⟨v, vs, rfl, x1.mono e2, x2⟩⟩⟩
def mTup (g : Ev (List D)) : Ev D := fun ρ => (g ρ).bind fun ds ρ' => if ds.length ≤ lim then .ok (.tup ds) ρ' else .stuck
def mLst (g : Ev (List D)) : Ev D := fun ρ => (g ρ).bind fun ds ρ' => if ds.length ≤ lim then .ok (.lst ds) ρ' else .stuck
theorem je_tup {n : Nat} {g : Ev (List D)} (h : JA T X W es g) : JE T X W (.Tuple es n pos) (mTup g) := fun ρ => by
  have p1 := h ρ
  unfold mTup
  cases q1 : g ρ with
  | stuck => exact pe_no
  | ex c ds ρ1 => rw [q1] at p1; exact pe_weak (pe_tup p1) fun σ H Q q => q
  | ok ds ρ1 =>
    rw [q1] at p1
    simp only [R.bind_ok]
    split
    · rename_i hz
      refine pe_weak (pe_tup p1) fun σ H Q ⟨F, Z, L, r, k⟩ => ⟨F, Z, L, r, fun vs F1 H1 e1 r1 x1 => ⟨by rw [x1.length]; exact le_line hz, fun p hp => ?_⟩⟩
      have g := Grow.new (K := X.K) (T := T) (o := HO.tup vs) r1.exF hp
      exact k _ _ _ (e1.trans g.1) (g.2 _ _ _ _ r1) ⟨p, vs, rfl, SqT.of upd_same, x1.mono g.1⟩
    · exact pe_no
theorem je_lst {g : Ev (List D)} (h : JA T X W es g) : JE T X W (.List es pos) (mLst g) := fun ρ => by
  have p1 := h ρ
  unfold mLst
  cases q1 : g ρ with
  | stuck => exact pe_no
  | ex c ds ρ1 => rw [q1] at p1; exact pe_weak (pe_lst p1) fun σ H Q q => q
  | ok ds ρ1 =>
    rw [q1] at p1
    simp only [R.bind_ok]
    split
    · rename_i hz
      refine pe_weak (pe_lst p1) fun σ H Q ⟨F, Z, L, r, k⟩ => ⟨F, Z, L, r, fun vs F1 H1 e1 r1 x1 => ⟨by rw [x1.length]; exact le_line hz, fun p hp => ?_⟩⟩
      have g := Grow.new (K := X.K) (T := T) (o := HO.lst vs) r1.exF hp
      exact k _ _ _ (e1.trans g.1) (g.2 _ _ _ _ r1) ⟨p, vs, rfl, upd_same, x1.mono g.1⟩
    · exact pe_no
/-- subscripts -/
theorem je_ix {k : Nat} (hr : Room k X.A) {ga gb : Ev D} (ha : JE T X W a ga) (hb : JE T X W b gb) (hs : PlainIx b := by exact fun _ _ => rfl) : JE T X W (.Subscript a b pos) (mOp ixD ga gb) := je_op2 (fun _ _ p1 p2 => pe_ix (ix_any (hu_of hr)) p1 p2 hs) opv_ix ha hb
/-! ### calls of built-ins -/
def CallV (K : PySem.W.Frag) (T : Txt) (r : List V → Hp → VK → Prop) (f : List D → Option D) : Prop := ∀ ds z, f ds = some z → ∀ F H vs Q, Ex F H → Reps K T F ds vs →
  (∀ u F' H', Grow K T F H F' H' → Rep K T F' z u → Q u H') → r vs H Q
def mCall (f : List D → Option D) (g : Ev (List D)) : Ev D := fun ρ => (g ρ).bind fun ds ρ' => R.of (f ds) ρ'
theorem je_callR {r : List V → Hp → VK → Prop} {f : List D → Option D} {g : Ev (List D)} (rule : ∀ ta, PA X es ta → PE X e (tCB r ta)) (hr : CallV X.K T r f) (ha : JA T X W es g) : JE T X W e (mCall f g) := fun ρ => by
  have p1 := ha ρ
  unfold mCall
  cases q1 : g ρ with
  | stuck => exact pe_no
  | ex c ds ρ1 => rw [q1] at p1; exact pe_weak (rule _ p1) fun σ H Q q => q
  | ok ds ρ1 =>
    rw [q1] at p1
    simp only [R.bind_ok]
    cases q2 : f ds with
    | none => exact pe_no
    | some z => exact pe_weak (rule _ p1) fun σ H Q ⟨F, Z, L, r, k⟩ => ⟨F, Z, L, r, fun vs F1 H1 e1 r1 x1 => hr ds z q2 F1 H1 vs Q r1.exF x1 fun u F2 H2 g x2 => k u F2 H2 (e1.trans g.1) (g.2 _ _ _ _ r1) x2⟩
end
end VS
set_option maxHeartbeats 2000000
namespace VS
open PySem L2 PySem.Spec PyProof.Rows
/-! ### read where it stands -/
def rdB (K : PySem.W.Frag) (T : Txt) (W : WX) (ρ : VEnv) : R D → TE
  | .stuck => fun _ _ _ => False
  | .ok d ρ' => fun σ H Q => ∃ F Z L, Rel K T F Z L σ ρ H ∧ ∀ v F' H', Ex F F' → Rel K T F' Z L σ ρ' H' → RepB K T F' H' d v → Q v H'
  | .ex c ds ρ' => fun σ H _ => ∃ F Z L, Rel K T F Z L σ ρ H ∧ ∀ cls dd F' H', Ex F F' → Rel K T F' Z L σ ρ' H' → ExR K T F' cls dd c ds → W cls dd σ H'
def JB (T : Txt) (X : Cx) (W : WX) (e : Expr) (g : Ev D) : Prop := ∀ ρ, PE X e (rdB X.K T W ρ (g ρ))
def mOwn (i : Nat) : Ev D := fun ρ => match ρ[i]? with
  | some (some (Sl.own _ m)) => .ok m.frz ρ
  | _ => .stuck
section
variable {T : Txt} {X : Cx} {W : WX} {e a b c : Expr} {es : List Expr} {pos p : Pos} {K : PySem.W.Frag}
theorem jb_of {g : Ev D} (h : JE T X W e g) : JB T X W e g := fun ρ => by
  refine pe_weak (h ρ) fun σ H Q q => ?_
  cases q1 : g ρ with
  | stuck => rw [q1] at q; exact q.elim
  | ex c ds ρ1 => rw [q1] at q; exact q
  | ok d ρ1 =>
    rw [q1] at q
    obtain ⟨F, Z, L, r, k⟩ := q
    exact ⟨F, Z, L, r, fun v F' H' e r' p => k v F' H' e r' (p.b r'.exF)⟩
theorem jb_own {i : Nat} (h : PE X e (tVar i)) : JB T X W e (mOwn i) := fun ρ => by
  unfold mOwn
  split
  · rename_i l m q
    refine pe_weak h fun σ H Q ⟨F, Z, L, r, k⟩ => ?_
    obtain ⟨a, o, h1, h2, h3, h4, h5⟩ := r.own i l m q
    exact ⟨_, h1, k _ F H (Ex.refl F) r (h5.b h4)⟩
  · exact pe_no
/-- the right operand read where it stands -/
theorem opR_core {r : R2} {f : D → D → Option D} {ga gb : Ev D} (hr : OpVR X.K T r f) (ha : JE T X W a ga) (hb : JB T X W b gb) (ρ : VEnv) :
    ∃ ta tb, PE X a ta ∧ PE X b tb ∧ ∀ σ H Q, rdE X.K T W ρ (mOp f ga gb ρ) σ H Q → tOp r ta tb σ H Q := by
  have h1 := ha ρ
  unfold mOp
  cases q1 : ga ρ with
  | stuck => exact ⟨_, _, pe_no, pe_no, fun σ H Q h => h.elim⟩
  | ex c ds ρ1 =>
    rw [q1] at h1
    exact ⟨_, _, h1, pe_no, fun σ H Q ⟨F, Z, L, r, k⟩ => ⟨F, Z, L, r, k⟩⟩
  | ok x ρ1 =>
    rw [q1] at h1
    have h2 := hb ρ1
    cases q2 : gb ρ1 with
    | stuck => exact ⟨_, _, h1, pe_no, fun σ H Q h => by simp only [R.bind_ok, q2, R.bind_stuck] at h; exact h.elim⟩
    | ex c ds ρ2 =>
      rw [q2] at h2
      refine ⟨_, _, h1, h2, fun σ H Q h => ?_⟩
      simp only [R.bind_ok, q2, R.bind_ex] at h
      obtain ⟨F, Z, L, r, k⟩ := h
      exact ⟨F, Z, L, r, fun v F1 H1 e1 r1 p1 => ⟨F1, Z, L, r1, fun cls dd F2 H2 e2 r2 x2 => k cls dd F2 H2 (e1.trans e2) r2 x2⟩⟩
    | ok y ρ2 =>
      rw [q2] at h2
      refine ⟨_, _, h1, h2, fun σ H Q h => ?_⟩
      simp only [R.bind_ok, q2] at h
      cases q3 : f x y with
      | none => rw [q3] at h; exact h.elim
      | some z =>
        rw [q3] at h
        obtain ⟨F, Z, L, r, k⟩ := h
        exact ⟨F, Z, L, r, fun v F1 H1 e1 r1 p1 => ⟨F1, Z, L, r1, fun w F2 H2 e2 r2 p2 =>
          hr x y z q3 F2 H2 v w Q r2.exF (p1.mono e2) p2 fun u F3 H3 g p3 => k u F3 H3 ((e1.trans e2).trans g.1) (g.2 _ _ _ _ r2) p3⟩⟩
theorem je_inO {k : Nat} (hr : Room k X.A) {ga gb : Ev D} (ha : JE T X W a ga) (hb : JB T X W b gb) (hm : behindInMarks .In b = false := by rfl) : JE T X W (.Compare a [.In] [b] pos) (mOp inD ga gb) := fun ρ => by
  obtain ⟨ta, tb, h1, h2, k⟩ := opR_core opv_inR ha hb ρ
  exact pe_weak (pe_cmpR (op_inA (hu_of hr)) h1 h2 hm) k
theorem je_ninO {k : Nat} (hr : Room k X.A) {ga gb : Ev D} (ha : JE T X W a ga) (hb : JB T X W b gb) (hm : behindInMarks .NotIn b = false := by rfl) : JE T X W (.Compare a [.NotIn] [b] pos) (mOp notInD ga gb) := fun ρ => by
  obtain ⟨ta, tb, h1, h2, k⟩ := opR_core opv_notInR ha hb ρ
  exact pe_weak (pe_cmpR (op_notInA (hu_of hr)) h1 h2 hm) k
theorem jt_inO {k : Nat} (hr : Room k X.A) {ga gb : Ev D} (ha : JE T X W a ga) (hb : JB T X W b gb) (hm : behindInMarks .In b = false := by rfl) : JT T X W (.Compare a [.In] [b] pos) (mTest (mOp inD ga gb)) := fun ρ => by
  obtain ⟨ta, tb, h1, h2, k⟩ := opR_core opv_inR ha hb ρ
  exact pt_weak (pt_cmpR (op_inA (hu_of hr)) h1 h2 hm) fun σ H Q h => k σ H _ (rdT_test h)
theorem jt_ninO {k : Nat} (hr : Room k X.A) {ga gb : Ev D} (ha : JE T X W a ga) (hb : JB T X W b gb) (hm : behindInMarks .NotIn b = false := by rfl) : JT T X W (.Compare a [.NotIn] [b] pos) (mTest (mOp notInD ga gb)) := fun ρ => by
  obtain ⟨ta, tb, h1, h2, k⟩ := opR_core opv_notInR ha hb ρ
  exact pt_weak (pt_cmpR (op_notInA (hu_of hr)) h1 h2 hm) fun σ H Q h => k σ H _ (rdT_test h)
/-- the left operand an owned name, read behind the right one -/
def mOpO (f : D → D → Option D) (i : Nat) (gb : Ev D) : Ev D := fun ρ => match ρ[i]? with
  | some (some (Sl.own _ _)) => (gb ρ).bind fun y ρ2 => (mOwn i ρ2).bind fun x ρ3 => R.of (f x y) ρ3
  | _ => .stuck
theorem je_opO {i : Nat} {r : R2} {f : D → D → Option D} {gb : Ev D} (rule : ∀ ta tb, PE X a ta → PE X b tb → PE X e (tOp r ta tb)) (hr : OpVL X.K T r f) (ha : PE X a (tVar i)) (hb : JE T X W b gb) : JE T X W e (mOpO f i gb) := fun ρ => by
  have h2 := hb ρ
  unfold mOpO
  split
  · rename_i l0 m0 q0
    cases q2 : gb ρ with
    | stuck => exact pe_no
    | ex c ds ρ2 =>
      rw [q2] at h2
      refine pe_weak (rule _ _ ha h2) fun σ H Q ⟨F, Z, L, r, k⟩ => ?_
      obtain ⟨a0, o0, g1, _⟩ := r.own i l0 m0 q0
      exact ⟨_, g1, ⟨F, Z, L, r, k⟩⟩
    | ok y ρ2 =>
      rw [q2] at h2
      simp only [R.bind_ok]
      unfold mOwn
      split
      · rename_i l m q
        simp only [R.bind_ok]
        cases q3 : f m.frz y with
        | none => exact pe_no
        | some z =>
          refine pe_weak (rule _ _ ha h2) fun σ H Q ⟨F, Z, L, r, k⟩ => ?_
          obtain ⟨a0, o0, g1, _⟩ := r.own i l0 m0 q0
          refine ⟨_, g1, ⟨F, Z, L, r, fun w F2 H2 e2 r2 p2 => ?_⟩⟩
          obtain ⟨a1, o1, g2, g3, g4, g5, g6⟩ := r2.own i l m q
          have ea : a0 = a1 := by rw [g1] at g2; cases g2; rfl
          subst ea
          exact hr _ y z q3 F2 H2 _ w Q r2.exF (g6.b g5) p2 fun u F3 H3 g p3 => k u F3 H3 (e2.trans g.1) (g.2 _ _ _ _ r2) p3
      · exact pe_no
  · exact pe_no
theorem je_ixO {k i : Nat} (hr : Room k X.A) {gb : Ev D} (ha : PE X a (tVar i)) (hb : JE T X W b gb) (hs : PlainIx b := by exact fun _ _ => rfl) : JE T X W (.Subscript a b pos) (mOpO ixD i gb) := je_opO (fun _ _ p1 p2 => pe_ix (ix_any (hu_of hr)) p1 p2 hs) opv_ixL ha hb
/-! ### built-ins of one argument -/
def CallV1 (K : PySem.W.Frag) (T : Txt) (r : List V → Hp → VK → Prop) (f : D → Option D) : Prop := ∀ d z, f d = some z → ∀ F H v Q, Ex F H → RepB K T F H d v →
  (∀ u F' H', Grow K T F H F' H' → Rep K T F' z u → Q u H') → r [v] H Q
def mCall1 (f : D → Option D) (g : Ev D) : Ev D := fun ρ => (g ρ).bind fun d ρ' => R.of (f d) ρ'
theorem je_call1 {r : List V → Hp → VK → Prop} {f : D → Option D} {g : Ev D} (rule : ∀ ta, PA X [a] ta → PE X e (tCB r ta)) (hr : CallV1 X.K T r f) (ha : JB T X W a g) (hs : starEach [a] X.env = (false, eval a X.env) :: starEach [] X.env := by rfl) : JE T X W e (mCall1 f g) := fun ρ => by
  have p1 := ha ρ
  unfold mCall1
  cases q1 : g ρ with
  | stuck => exact pe_no
  | ex c ds ρ1 => rw [q1] at p1; exact pe_weak (rule _ (pa_cons p1 pa_nil hs)) fun σ H Q q => q
  | ok d ρ1 =>
    rw [q1] at p1
    simp only [R.bind_ok]
    cases q2 : f d with
    | none => exact pe_no
    | some z => exact pe_weak (rule _ (pa_cons p1 pa_nil hs)) fun σ H Q ⟨F, Z, L, r, k⟩ => ⟨F, Z, L, r, fun v F1 H1 e1 r1 x1 => hr d z q2 F1 H1 v Q r1.exF x1 fun u F2 H2 g x2 => k u F2 H2 (e1.trans g.1) (g.2 _ _ _ _ r1) x2⟩
theorem callr_or {f : Value} {r r' : List V → Hp → VK → Prop} (h : CallR X f r) (h' : CallR X f r') : CallR X f (fun xs H Q => r xs H Q ∨ r' xs H Q) := by
  intro pins s σ H xs us Q I rs q
  rcases q with q | q
  · exact h pins s σ H xs us Q I rs q
  · exact h' pins s σ H xs us Q I rs q
/-- len -/
def lenD : D → Option D
  | .str x => if x.length ≤ lim then some (.int x.length) else none
  | .tup xs => some (.int xs.length)
  | .lst xs => some (.int xs.length)
  | .frl xs => some (.int xs.length)
  | .dct kvs => some (.int kvs.length)
  | _ => none
def rLenA (K : PySem.W.Frag) : List V → Hp → VK → Prop := fun xs H Q => (∃ x n, xs = [x] ∧ LenV K x H n ∧ Q (.int n) H) ∨ (∃ a kvs, xs = [V.ref a] ∧ H a = some (.dK kvs) ∧ Q (.int kvs.length) H)
theorem call_lenA : CallR X (.builtin "len") (rLenA X.K) := callr_or call_len call_lenD
theorem RepK.length {F : Hp} : ∀ {ds : List (Key × D)} {vs : List (Key × V)}, RepK K T F ds vs → vs.length = ds.length
  | [], _, h => by rw [show _ = ([] : List (Key × V)) from h]; rfl
  | (k, d) :: ds, _, ⟨v, ws, e1, h, r⟩ => by rw [e1]; simp [RepK.length r]
theorem callv_len : CallV1 K T (rLenA K) lenD := by
  intro d z h F H v Q e r k
  cases d with
  | str x =>
    obtain rfl : v = _ := r
    simp only [lenD] at h
    split at h
    · rename_i q; cases h; exact .inl ⟨_, _, rfl, ⟨le_line q, rfl⟩, k _ F H .refl rfl⟩
    · cases h
  | tup xs => obtain ⟨a, vs, rfl, h1, r⟩ := r; cases h; exact .inl ⟨_, _, rfl, .inr ⟨vs, e.sqT h1, rfl⟩, k _ F H .refl (by rw [r.length]; rfl)⟩
  | lst xs => obtain ⟨a, vs, rfl, h1, r⟩ := r; cases h; exact .inl ⟨_, _, rfl, .inl ⟨vs, SqL.of h1, rfl⟩, k _ F H .refl (by rw [r.length]; rfl)⟩
  | frl xs => obtain ⟨a, vs, rfl, h1, r⟩ := r; cases h; exact .inl ⟨_, _, rfl, .inl ⟨vs, e.sqL h1, rfl⟩, k _ F H .refl (by rw [r.length]; rfl)⟩
  | dct xs => obtain ⟨a, vs, rfl, h1, r⟩ := r; cases h; exact .inr ⟨_, _, rfl, h1, k _ F H .refl (by rw [r.length]; rfl)⟩
  | _ => simp [lenD] at h
/-- abs, int, bool, str -/
def absD : D → Option D
  | .int i => some (.int (if i < 0 then -i else i))
  | _ => none
theorem callv_abs : CallV1 K T (fun xs H Q => ∃ i, xs = [.int i] ∧ Q (.int (if i < 0 then -i else i)) H) absD := by
  intro d z h F H v Q e r k
  cases d <;> simp only [absD, reduceCtorEq] at h
  obtain rfl : v = _ := r
  cases h
  exact ⟨_, rfl, k _ F H .refl rfl⟩
def int1D : D → Option D
  | .int i => some (.int i)
  | .bl b => some (.int (if b then 1 else 0))
  | _ => none
theorem callv_int : CallV1 K T (fun xs H Q => (∃ i, xs = [.int i] ∧ Q (.int i) H) ∨ ∃ k, xs = [.bl k] ∧ Q (.int (if k then 1 else 0)) H) int1D := by
  intro d z h F H v Q e r k
  cases d <;> simp only [int1D, reduceCtorEq] at h
  · obtain rfl : v = _ := r
    cases h
    exact .inr ⟨_, rfl, k _ F H .refl rfl⟩
  · obtain rfl : v = _ := r
    cases h
    exact .inl ⟨_, rfl, k _ F H .refl rfl⟩
def strD : D → Option D
  | .int i => if i.natAbs < big then some (.str (toString i)) else none
  | .str x => some (.str x)
  | _ => none
def rStr1 : List V → Hp → VK → Prop := fun xs H Q => (∃ i, xs = [V.int i] ∧ i.natAbs.log2 < 1920 ∧ Q (.str (toString i)) H) ∨ ∃ a, xs = [V.str a] ∧ Q (.str a) H
theorem call_strA : CallR X (.type "str") rStr1 := callr_or call_str_int SkE.call_str_str
theorem big_log {i : Int} (h : i.natAbs < big) : i.natAbs.log2 < 1920 := by
  have := PySem.Flt.log2_lt_of (k := 250) (by decide) h
  omega
theorem callv_str : CallV1 K T rStr1 strD := by
  intro d z h F H v Q e r k
  cases d <;> simp only [strD, reduceCtorEq] at h
  · obtain rfl : v = _ := r
    split at h
    · rename_i q; cases h; exact .inl ⟨_, rfl, big_log q, k _ F H .refl rfl⟩
    · cases h
  · obtain rfl : v = _ := r
    cases h
    exact .inr ⟨_, rfl, k _ F H .refl rfl⟩
/-- tuple(x), list(x) -/
def tupleD : D → Option D
  | .tup xs => some (.tup xs)
  | .lst xs => some (.tup xs)
  | .frl xs => some (.tup xs)
  | _ => none
def listD : D → Option D
  | .tup xs => some (.lst xs)
  | .lst xs => some (.lst xs)
  | .frl xs => some (.lst xs)
  | _ => none
def rTup1 (K : PySem.W.Frag) : List V → Hp → VK → Prop := fun xs H Q => ∃ p ys, xs = [V.ref p] ∧ ((SqL K H p ys ∧ ∀ l, H l = none → Q (.ref l) (upd H l (.tup ys))) ∨ (SqT K H p ys ∧ Q (.ref p) H))
def rLst1 (K : PySem.W.Frag) : List V → Hp → VK → Prop := fun xs H Q => ∃ p ys, xs = [V.ref p] ∧ (SqL K H p ys ∨ SqT K H p ys) ∧ ∀ l, H l = none → Q (.ref l) (upd H l (.lst ys))
theorem callv_tuple : CallV1 K T (rTup1 K) tupleD := by
  intro d z h F H v Q e r k
  cases d <;> simp only [tupleD, reduceCtorEq] at h
  · obtain ⟨a, vs, rfl, h1, r⟩ := r
    cases h
    exact ⟨a, vs, rfl, .inr ⟨e.sqT h1, k _ F H .refl ⟨a, vs, rfl, h1, r⟩⟩⟩
  · obtain ⟨a, vs, rfl, h1, r⟩ := r
    cases h
    refine ⟨a, vs, rfl, .inl ⟨SqL.of h1, fun l hl => ?_⟩⟩
    have g := Grow.new (K := K) (T := T) (o := HO.tup vs) e hl
    exact k _ _ _ g ⟨l, vs, rfl, SqT.of upd_same, r.mono g.1⟩
  · obtain ⟨a, vs, rfl, h1, r⟩ := r
    cases h
    refine ⟨a, vs, rfl, .inl ⟨e.sqL h1, fun l hl => ?_⟩⟩
    have g := Grow.new (K := K) (T := T) (o := HO.tup vs) e hl
    exact k _ _ _ g ⟨l, vs, rfl, SqT.of upd_same, r.mono g.1⟩
theorem callv_list : CallV1 K T (rLst1 K) listD := by
  intro d z h F H v Q e r k
  cases d <;> simp only [listD, reduceCtorEq] at h
  · obtain ⟨a, vs, rfl, h1, r⟩ := r
    cases h
    refine ⟨a, vs, rfl, .inr (e.sqT h1), fun l hl => ?_⟩
    have g := Grow.new (K := K) (T := T) (o := HO.lst vs) e hl
    exact k _ _ _ g ⟨l, vs, rfl, upd_same, r.mono g.1⟩
  · obtain ⟨a, vs, rfl, h1, r⟩ := r
    cases h
    refine ⟨a, vs, rfl, .inl (SqL.of h1), fun l hl => ?_⟩
    have g := Grow.new (K := K) (T := T) (o := HO.lst vs) e hl
    exact k _ _ _ g ⟨l, vs, rfl, upd_same, r.mono g.1⟩
  · obtain ⟨a, vs, rfl, h1, r⟩ := r
    cases h
    refine ⟨a, vs, rfl, .inl (e.sqL h1), fun l hl => ?_⟩
    have g := Grow.new (K := K) (T := T) (o := HO.lst vs) e hl
    exact k _ _ _ g ⟨l, vs, rfl, upd_same, r.mono g.1⟩
/-- lists of ints, of truths -/
def intsOf : List D → Option (List Int)
  | [] => some []
  | .int i :: ds => (intsOf ds).map (i :: ·)
  | _ => none
def blsOf : List D → Option (List Bool)
  | [] => some []
  | .bl b :: ds => (blsOf ds).map (b :: ·)
  | _ => none
theorem ints_rep {F : Hp} : ∀ {ds : List D} {ns : List Int} {vs : List V}, intsOf ds = some ns → Reps K T F ds vs → vs = ns.map V.int
  | [], ns, vs, h, r => by simp only [intsOf] at h; cases h; exact r
  | d :: ds, ns, vs, h, ⟨v, ws, e1, h1, r⟩ => by
    cases d <;> simp only [intsOf, reduceCtorEq] at h
    cases q : intsOf ds with
    | none => rw [q] at h; cases h
    | some ms => rw [q] at h; cases h; rw [e1, ints_rep q r, show v = _ from h1]; rfl
theorem bls_rep {F : Hp} : ∀ {ds : List D} {ns : List Bool} {vs : List V}, blsOf ds = some ns → Reps K T F ds vs → vs = ns.map V.bl
  | [], ns, vs, h, r => by simp only [blsOf] at h; cases h; exact r
  | d :: ds, ns, vs, h, ⟨v, ws, e1, h1, r⟩ => by
    cases d <;> simp only [blsOf, reduceCtorEq] at h
    cases q : blsOf ds with
    | none => rw [q] at h; cases h
    | some ms => rw [q] at h; cases h; rw [e1, bls_rep q r, show v = _ from h1]; rfl
def sumD : D → Option D
  | .lst xs => (intsOf xs).map fun ns => .int ns.sum
  | .tup xs => (intsOf xs).map fun ns => .int ns.sum
  | _ => none
def allD : D → Option D
  | .lst xs => (blsOf xs).map fun ns => .bl (ns.all id)
  | _ => none
def anyD : D → Option D
  | .lst xs => (blsOf xs).map fun ns => .bl (ns.any id)
  | _ => none
def maxD : D → Option D
  | .lst xs => (intsOf xs).bind fun ns => match ns with
    | [] => none
    | n :: r => some (.int (r.foldl max n))
  | _ => none
def minD : D → Option D
  | .lst xs => (intsOf xs).bind fun ns => match ns with
    | [] => none
    | n :: r => some (.int (r.foldl min n))
  | _ => none
def rSumT (K : PySem.W.Frag) : List V → Hp → VK → Prop := fun vs H Q => ∃ (a : Addr) (ns : List Int), vs = [V.ref a] ∧ SqT K H a (ns.map V.int) ∧ Q (.int ns.sum) H
theorem cr_sumT (hc : X.calm = true) : CallR X (.builtin "sum") (rSumT X.K) := by
  intro pins s σ H vs us Q I r h
  obtain ⟨a, ns, rfl, hs, q⟩ := h
  obtain ⟨its, rv, hl, _⟩ := I.tuple hs
  rw [Vals.ref1 r]
  have hi := rv.ints
  obtain ⟨xs, e⟩ := hi.allInts.items
  have hn : numsOf (intItems xs).toList = ns := by rw [← e]; exact hi.numsOf
  rw [nums_intItems] at hn
  rw [e] at hl
  refine PySem.W.ktm_sumG (I.ok.hd hc) hl fun h' tk t' hk => ?_
  refine ⟨.int _, H, I.kept hk, ⟨t', ?_⟩, q⟩
  rw [preSum_eq, List.take_of_length_le (by simp), hn]
def rSumA (K : PySem.W.Frag) : List V → Hp → VK → Prop := fun vs H Q => rSum K vs H Q ∨ rSumT K vs H Q
theorem cr_sumA (hc : X.calm = true) : CallR X (.builtin "sum") (rSumA X.K) := callr_or (cr_sum hc) (cr_sumT hc)
theorem callv_sum : CallV1 K T (rSumA K) sumD := by
  intro d z h F H v Q e r k
  cases d <;> simp only [sumD, reduceCtorEq] at h
  · obtain ⟨a, vs, rfl, h1, r⟩ := r
    rename_i xs
    cases q : intsOf xs with
    | none => rw [q] at h; cases h
    | some ns => rw [q] at h; cases h; rw [ints_rep q r] at h1; exact .inr ⟨a, ns, rfl, e.sqT h1, k _ F H .refl rfl⟩
  · obtain ⟨a, vs, rfl, h1, r⟩ := r
    rename_i xs
    cases q : intsOf xs with
    | none => rw [q] at h; cases h
    | some ns => rw [q] at h; cases h; rw [ints_rep q r] at h1; exact .inl ⟨a, ns, rfl, SqL.of h1, k _ F H .refl rfl⟩
theorem callv_all : CallV1 K T (rAll K) allD := by
  intro d z h F H v Q e r k
  cases d <;> simp only [allD, reduceCtorEq] at h
  obtain ⟨a, vs, rfl, h1, r⟩ := r
  rename_i xs
  cases q : blsOf xs with
  | none => rw [q] at h; cases h
  | some ns => rw [q] at h; cases h; rw [bls_rep q r] at h1; exact ⟨a, ns, rfl, SqL.of h1, k _ F H .refl rfl⟩
theorem callv_any : CallV1 K T (rAny K) anyD := by
  intro d z h F H v Q e r k
  cases d <;> simp only [anyD, reduceCtorEq] at h
  obtain ⟨a, vs, rfl, h1, r⟩ := r
  rename_i xs
  cases q : blsOf xs with
  | none => rw [q] at h; cases h
  | some ns => rw [q] at h; cases h; rw [bls_rep q r] at h1; exact ⟨a, ns, rfl, SqL.of h1, k _ F H .refl rfl⟩
theorem foldl_max_mem : ∀ (r : List Int) (n : Int), r.foldl max n ∈ n :: r ∧ ∀ y ∈ n :: r, y ≤ r.foldl max n
  | [], n => ⟨by simp, by simp⟩
  | m :: r, n => by
    obtain ⟨h1, h2⟩ := foldl_max_mem r (max n m)
    have e : (m :: r).foldl max n = r.foldl max (max n m) := rfl
    rw [e]
    refine ⟨?_, fun y hy => ?_⟩
    · rcases List.mem_cons.mp h1 with q | q
      · rw [q]
        by_cases c : n ≤ m
        · rw [Int.max_eq_right c]; simp
        · rw [Int.max_eq_left (by omega)]; simp
      · simp [q]
    · have b := h2 (max n m) (by simp)
      rcases List.mem_cons.mp hy with q | q
      · subst q; have := Int.le_max_left y m; omega
      · rcases List.mem_cons.mp q with q | q
        · subst q; have := Int.le_max_right n y; omega
        · exact h2 y (by simp [q])
theorem foldl_min_mem : ∀ (r : List Int) (n : Int), r.foldl min n ∈ n :: r ∧ ∀ y ∈ n :: r, r.foldl min n ≤ y
  | [], n => ⟨by simp, by simp⟩
  | m :: r, n => by
    obtain ⟨h1, h2⟩ := foldl_min_mem r (min n m)
    have e : (m :: r).foldl min n = r.foldl min (min n m) := rfl
    rw [e]
    refine ⟨?_, fun y hy => ?_⟩
    · rcases List.mem_cons.mp h1 with q | q
      · rw [q]
        by_cases c : n ≤ m
        · rw [Int.min_eq_left c]; simp
        · rw [Int.min_eq_right (by omega)]; simp
      · simp [q]
    · have b := h2 (min n m) (by simp)
      rcases List.mem_cons.mp hy with q | q
      · subst q; have := Int.min_le_left y m; omega
      · rcases List.mem_cons.mp q with q | q
        · subst q; have := Int.min_le_right n y; omega
        · exact h2 y (by simp [q])
theorem callv_max : CallV1 K T (rMax K) maxD := by
  intro d z h F H v Q e r k
  cases d <;> simp only [maxD, reduceCtorEq] at h
  obtain ⟨a, vs, rfl, h1, r⟩ := r
  rename_i xs
  cases q : intsOf xs with
  | none => rw [q] at h; cases h
  | some ns =>
    rw [q] at h
    cases ns with
    | nil => cases h
    | cons n ns =>
      cases h
      rw [ints_rep q r] at h1
      refine ⟨a, _, rfl, SqL.of h1, by simp, fun m hm hy => ?_⟩
      obtain ⟨g1, g2⟩ := foldl_max_mem ns n
      have em : m = ns.foldl max n := Int.le_antisymm (g2 m hm) (hy _ g1)
      rw [em]
      exact k _ F H .refl rfl
theorem callv_min : CallV1 K T (rMin K) minD := by
  intro d z h F H v Q e r k
  cases d <;> simp only [minD, reduceCtorEq] at h
  obtain ⟨a, vs, rfl, h1, r⟩ := r
  rename_i xs
  cases q : intsOf xs with
  | none => rw [q] at h; cases h
  | some ns =>
    rw [q] at h
    cases ns with
    | nil => cases h
    | cons n ns =>
      cases h
      rw [ints_rep q r] at h1
      refine ⟨a, _, rfl, SqL.of h1, by simp, fun m hm hy => ?_⟩
      obtain ⟨g1, g2⟩ := foldl_min_mem ns n
      have em : m = ns.foldl min n := Int.le_antisymm (hy _ g1) (g2 m hm)
      rw [em]
      exact k _ F H .refl rfl
/-- repr of data -/
def reprD (d : D) : Option D := (toPy d).bind fun p => if (p.showable && !p.hasDict && decide (p.depth ≤ 64) && decide (p.shown.length ≤ lim)) = true then some (.str p.shown) else none
def rRepr (K : PySem.W.Frag) : List V → Hp → VK → Prop := fun xs H Q => ∃ v p, xs = [v] ∧ Dp K H v p ∧ p.showable = true ∧ p.hasDict = false ∧ p.depth ≤ 64 ∧ p.shown.length ≤ sizeLine ∧ Q (.str p.shown) H
theorem dpB {F H : Hp} (e : Ex F H) {d : D} {p : PyData} {v : V} (h : toPy d = some p) (r : RepB K T F H d v) : Dp K H v p := by
  cases d with
  | lst xs =>
    obtain ⟨a, vs, e1, h1, r⟩ := r
    simp only [toPy] at h
    cases q : toPys xs with
    | none => rw [q] at h; cases h
    | some ps => rw [q] at h; cases h; rw [e1]; exact .lst (SqL.of h1) (reps_dp e q r)
  | dct _ => simp [toPy] at h
  | ins _ _ => simp [toPy] at h
  | _ => exact rep_dp (T := T) e h r
theorem callv_repr : CallV1 K T (rRepr K) reprD := by
  intro d z h F H v Q e r k
  unfold reprD at h
  cases q : toPy d with
  | none => rw [q] at h; cases h
  | some p =>
    rw [q] at h
    simp only [Option.bind_some] at h
    split at h
    · rename_i c
      simp only [Bool.and_eq_true, decide_eq_true_eq, Bool.not_eq_true'] at c
      cases h
      exact ⟨v, p, rfl, dpB e q r, c.1.1.1, c.1.1.2, c.1.2, le_line c.2, k _ F H .refl rfl⟩
    · cases h
end
end VS
set_option maxHeartbeats 2000000
namespace VS
open PySem L2 PySem.Spec PyProof.Rows
/-! ### what is walked -/
structure ItD (K : PySem.W.Frag) (T : Txt) (F : Hp) (J : It) (ds : List D) : Prop where
  go : ∀ (i : Nat) (H : Hp), Ex F H → i < ds.length → J.go i H
  stop : ∀ H, Ex F H → J.stop ds.length H
  yld : ∀ (i : Nat) (d : D) (G H : Hp) (x : V) (H' : Hp), Ex F G → Ex G H → ds[i]? = some d → J.yld i H x H' → ∃ G', Grow K T G H G' H' ∧ Rep K T G' d x
def rdI (K : PySem.W.Frag) (T : Txt) (W : WX) (ρ : VEnv) : R (List D) → TI
  | .stuck => fun _ _ _ => False
  | .ok ds ρ' => fun σ H Q => ∃ F Z L, Rel K T F Z L σ ρ H ∧ ∀ J F' H', Ex F F' → Rel K T F' Z L σ ρ' H' → ItD K T F' J ds → Q J H'
  | .ex c ds ρ' => fun σ H _ => ∃ F Z L, Rel K T F Z L σ ρ H ∧ ∀ cls dd F' H', Ex F F' → Rel K T F' Z L σ ρ' H' → ExR K T F' cls dd c ds → W cls dd σ H'
def JI (T : Txt) (X : Cx) (W : WX) (tg iter : Expr) (g : Ev (List D)) : Prop := ∀ ρ, PI X tg iter (rdI X.K T W ρ (g ρ))
section
variable {T : Txt} {X : Cx} {W : WX} {tg e a b c : Expr} {es : List Expr} {pos p : Pos} {K : PySem.W.Frag} {F : Hp}
theorem pi_weak {w w' : TI} (h : PI X tg e w) (k : ∀ σ H R, w' σ H R → w σ H R) : PI X tg e w' := ⟨fun pins s σ H R I q => h.run pins s σ H R I (k σ H R q)⟩
theorem pi_no : PI X tg e (fun _ _ _ => False) := ⟨fun _ _ _ _ _ _ h => h.elim⟩
def signs (z : Str) : List D := z.cps.toList.map fun c => .str ⟨#[c]⟩
def seqOf : D → Option (List D)
  | .tup xs => some xs
  | .lst xs => some xs
  | .frl xs => some xs
  | .str z => some (signs z)
  | _ => none
def mSeqOf (g : Ev D) : Ev (List D) := fun ρ => (g ρ).bind fun d ρ' => R.of (seqOf d) ρ'
theorem itd_list {a : Addr} {vs : List V} {ds : List D} (hs : SqL K F a vs) (r : Reps K T F ds vs) : ItD K T F (Itl K a) ds where
  go := fun i H e hi => by
    have : i < vs.length := by rw [r.length]; exact hi
    exact ⟨vs, vs[i], e.sqL hs, by simp [this]⟩
  stop := fun H e => ⟨vs, e.sqL hs, by rw [r.length]; exact Nat.le_refl _⟩
  yld := fun i d G H x H' e1 e2 hd y => by
    obtain ⟨rfl, q⟩ := y
    obtain ⟨v, h1, h2⟩ := r.get hd
    have hx := q vs ((e1.trans e2).sqL hs)
    rw [h1] at hx; cases hx
    exact ⟨G, .refl, h2.mono e1⟩
theorem itd_tup {a : Addr} {vs : List V} {ds : List D} (hs : SqT K F a vs) (r : Reps K T F ds vs) : ItD K T F (Itt K a) ds where
  go := fun i H e hi => by
    have : i < vs.length := by rw [r.length]; exact hi
    exact ⟨vs, vs[i], e.sqT hs, by simp [this]⟩
  stop := fun H e => ⟨vs, e.sqT hs, by rw [r.length]; exact Nat.le_refl _⟩
  yld := fun i d G H x H' e1 e2 hd y => by
    obtain ⟨rfl, q⟩ := y
    obtain ⟨v, h1, h2⟩ := r.get hd
    have hx := q vs ((e1.trans e2).sqT hs)
    rw [h1] at hx; cases hx
    exact ⟨G, .refl, h2.mono e1⟩
theorem itd_str (z : Str) : ItD K T F (Its z) (signs z) where
  go := fun i H e hi => by
    have h : i < z.cps.size := by simpa [signs] using hi
    exact h
  stop := fun H e => by simp [signs, Its]
  yld := fun i d G H x H' e1 e2 hd y => by
    obtain ⟨rfl, c, hc, rfl⟩ := y
    refine ⟨G, .refl, ?_⟩
    have hd' : (z.cps.toList.map fun c => (D.str ⟨#[c]⟩))[i]? = some d := hd
    rw [List.getElem?_map] at hd'
    rw [show z.cps.toList[i]? = some c by simpa using hc] at hd'
    cases hd'
    rfl
theorem ji_seq {g : Ev D} (h : JE T X W e g) : JI T X W tg e (mSeqOf g) := fun ρ => by
  have p1 := h ρ
  unfold mSeqOf
  cases q1 : g ρ with
  | stuck => exact pi_no
  | ex c ds ρ1 => rw [q1] at p1; exact pi_weak (pi_list p1) fun σ H Q q => q
  | ok d ρ1 =>
    rw [q1] at p1
    simp only [R.bind_ok]
    cases d with
    | tup xs =>
      refine pi_weak (pi_tup p1) fun σ H Q ⟨F, Z, L, r, k⟩ => ⟨F, Z, L, r, fun v F' H' e r' p => ?_⟩
      obtain ⟨a, vs, rfl, h1, rr⟩ := p
      exact ⟨a, rfl, ⟨vs, r'.exF.sqT h1⟩, k _ F' H' e r' (itd_tup h1 rr)⟩
    | lst xs =>
      refine pi_weak (pi_list p1) fun σ H Q ⟨F, Z, L, r, k⟩ => ⟨F, Z, L, r, fun v F' H' e r' p => ?_⟩
      obtain ⟨a, vs, rfl, h1, rr⟩ := p
      exact ⟨a, rfl, ⟨vs, SqL.of (r'.exF _ _ h1)⟩, k _ F' H' e r' (itd_list (SqL.of h1) rr)⟩
    | frl xs =>
      refine pi_weak (pi_list p1) fun σ H Q ⟨F, Z, L, r, k⟩ => ⟨F, Z, L, r, fun v F' H' e r' p => ?_⟩
      obtain ⟨a, vs, rfl, h1, rr⟩ := p
      exact ⟨a, rfl, ⟨vs, r'.exF.sqL h1⟩, k _ F' H' e r' (itd_list h1 rr)⟩
    | str z =>
      refine pi_weak (pi_str p1) fun σ H Q ⟨F, Z, L, r, k⟩ => ⟨F, Z, L, r, fun v F' H' e r' p => ?_⟩
      exact ⟨z, p, k _ F' H' e r' (itd_str z)⟩
    | _ => exact pi_no
/-- range(n), range(a, b) -/
@[irreducible] def small (i : Int) : Bool := decide (-(2 ^ 62) ≤ i ∧ i < 2 ^ 62)
theorem small_iff {i : Int} (h : small i = true) : -(2 ^ 62) ≤ i ∧ i < 2 ^ 62 := by unfold small at h; exact of_decide_eq_true h
def upFrom (lo : Int) : Nat → List D
  | n => (List.range n).map fun i => .int (lo + (i : Nat))
def range1D : D → Option (List D)
  | .int j => if small j = true then some (upFrom 0 j.toNat) else none
  | _ => none
def range2D : List D → Option (List D)
  | [.int i, .int j] => if small i = true ∧ small j = true then some (upFrom i (j - i).toNat) else none
  | _ => none
def mRange1 (g : Ev D) : Ev (List D) := fun ρ => (g ρ).bind fun d ρ' => R.of (range1D d) ρ'
def mRange2 (g : Ev (List D)) : Ev (List D) := fun ρ => (g ρ).bind fun ds ρ' => R.of (range2D ds) ρ'
theorem upFrom_length (lo : Int) (n : Nat) : (upFrom lo n).length = n := by simp [upFrom]
theorem itd_range (lo : Int) (n : Nat) : ItD K T F (Itr lo n) (upFrom lo n) where
  go := fun i H e hi => by rw [upFrom_length] at hi; exact hi
  stop := fun H e => by rw [upFrom_length]; exact Nat.le_refl _
  yld := fun i d G H x H' e1 e2 hd y => by
    obtain ⟨rfl, rfl⟩ := y
    refine ⟨G, .refl, ?_⟩
    have hi : i < n := by
      have := (List.getElem?_eq_some_iff.mp hd).1
      rw [upFrom_length] at this; exact this
    have e3 : (upFrom lo n)[i]? = some (.int (lo + (i : Nat))) := by simp [upFrom, hi]
    rw [e3] at hd; cases hd
    rfl
theorem ji_range1 {g : Ev D} (hg : Gl X "range") (hm : X.mg "range" = none) (h : JE T X W a g) (hs : starEach [a] X.env = [(false, eval a X.env)] := by rfl) (hs1 : starEach [a] X.env = (false, eval a X.env) :: starEach [] X.env := by rfl) :
    JI T X W tg (.Call (.Name "range" p) [a] [] pos) (mRange1 g) := fun ρ => by
  have p1 := h ρ
  unfold mRange1
  cases q1 : g ρ with
  | stuck => exact pi_no
  | ex c ds ρ1 => rw [q1] at p1; exact pi_weak (pi_range1 hg hm (pa_cons p1 pa_nil hs1) hs) fun σ H Q q => q
  | ok d ρ1 =>
    rw [q1] at p1
    simp only [R.bind_ok]
    cases d with
    | int j =>
      simp only [range1D]
      split
      · rename_i c
        have c' := small_iff c
        refine pi_weak (pi_range1 hg hm (pa_cons p1 pa_nil hs1) hs) fun σ H Q ⟨F, Z, L, r, k⟩ => ⟨F, Z, L, r, fun v F' H' e r' x => ?_⟩
        exact ⟨j, by rw [show v = _ from x], c'.1, c'.2, k _ F' H' e r' (itd_range 0 _)⟩
      · exact pi_no
    | _ => exact pi_no
theorem ji_range2 {g : Ev (List D)} (hg : Gl X "range") (hm : X.mg "range" = none) (h : JA T X W [a, b] g) (hs : starEach [a, b] X.env = [(false, eval a X.env), (false, eval b X.env)] := by rfl) (hs2 : starEach [b] X.env = [(false, eval b X.env)] := by rfl) :
    JI T X W tg (.Call (.Name "range" p) [a, b] [] pos) (mRange2 g) := fun ρ => by
  have p1 := h ρ
  unfold mRange2
  cases q1 : g ρ with
  | stuck => exact pi_no
  | ex c ds ρ1 => rw [q1] at p1; exact pi_weak (pi_range2 hg hm p1 hs hs2) fun σ H Q q => q
  | ok ds ρ1 =>
    rw [q1] at p1
    simp only [R.bind_ok]
    cases q2 : range2D ds with
    | none => exact pi_no
    | some is =>
      refine pi_weak (pi_range2 hg hm p1 hs hs2) fun σ H Q ⟨F, Z, L, r, k⟩ => ⟨F, Z, L, r, fun vs F' H' e r' x => ?_⟩
      unfold range2D at q2
      split at q2
      · rename_i i j
        split at q2
        · rename_i c
          cases q2
          have c1 := small_iff c.1
          have c2 := small_iff c.2
          obtain ⟨v, ws, e1, h1, v2, ws2, e2, h2, h3⟩ := x
          refine ⟨i, j, ?_, ⟨c1.1, c1.2, c2.1, c2.2⟩, k _ F' H' e r' (itd_range i _)⟩
          rw [e1, show v = _ from h1, e2, show v2 = _ from h2, show ws2 = _ from h3]
        · cases q2
      · cases q2
/-- enumerate of a list -/
def enumFrom (n : Nat) : List D → List D
  | [] => []
  | d :: ds => .tup [.int n, d] :: enumFrom (n + 1) ds
theorem enumFrom_get : ∀ (n : Nat) (ds : List D) (i : Nat), (enumFrom n ds)[i]? = ds[i]?.map fun d => .tup [.int ((n + i : Nat) : Int), d]
  | n, [], i => by simp [enumFrom]
  | n, d :: ds, 0 => by simp [enumFrom]
  | n, d :: ds, i + 1 => by
    simp only [enumFrom, List.getElem?_cons_succ]
    rw [enumFrom_get (n + 1) ds i]
    congr 2
    funext d
    congr 3
    omega
theorem enumFrom_length : ∀ (n : Nat) (ds : List D), (enumFrom n ds).length = ds.length
  | n, [] => rfl
  | n, d :: ds => by simp [enumFrom, enumFrom_length]
theorem itd_enum {a : Addr} {vs : List V} {ds : List D} (hs : SqL K F a vs) (r : Reps K T F ds vs) : ItD K T F (Ite K a) (enumFrom 0 ds) where
  go := fun i H e hi => by
    rw [enumFrom_length] at hi
    have : i < vs.length := by rw [r.length]; exact hi
    exact ⟨vs, vs[i], e.sqL hs, by simp [this]⟩
  stop := fun H e => ⟨vs, e.sqL hs, by rw [r.length, enumFrom_length]; exact Nat.le_refl _⟩
  yld := fun i d G H x H' e1 e2 hd y => by
    obtain ⟨t, x', rfl, hn, rfl, q⟩ := y
    rw [enumFrom_get] at hd
    cases q1 : ds[i]? with
    | none => rw [q1] at hd; cases hd
    | some d0 =>
      rw [q1] at hd
      cases hd
      obtain ⟨v, h1, h2⟩ := r.get q1
      have hx := q vs ((e1.trans e2).sqL hs)
      rw [h1] at hx
      have hv : v = x' := Option.some.inj hx
      subst hv
      have g := Grow.new (K := K) (T := T) (o := HO.tup [.int (i : Nat), v]) e2 hn
      refine ⟨_, g, ⟨t, _, rfl, SqT.of upd_same, ?_⟩⟩
      rw [Nat.zero_add]
      exact ⟨_, _, rfl, rfl, _, _, rfl, (h2.mono e1).mono g.1, rfl⟩
def mEnum (g : Ev D) : Ev (List D) := fun ρ => (g ρ).bind fun d ρ' => match d with
  | .lst xs => .ok (enumFrom 0 xs) ρ'
  | .frl xs => .ok (enumFrom 0 xs) ρ'
  | _ => .stuck
theorem ji_enum {g : Ev D} {elts : List Expr} {kk : Nat} {tpos : Pos} (hg : Gl X "enumerate") (hm : X.mg "enumerate" = none) (h : JE T X W a g) (hs : starEach [a] X.env = [(false, eval a X.env)] := by rfl) (hs1 : starEach [a] X.env = (false, eval a X.env) :: starEach [] X.env := by rfl) :
    JI T X W (.Tuple elts kk tpos) (.Call (.Name "enumerate" p) [a] [] pos) (mEnum g) := fun ρ => by
  have p1 := h ρ
  unfold mEnum
  cases q1 : g ρ with
  | stuck => exact pi_no
  | ex c ds ρ1 => rw [q1] at p1; exact pi_weak (pi_enum hg hm (pa_cons p1 pa_nil hs1) hs) fun σ H Q q => q
  | ok d ρ1 =>
    rw [q1] at p1
    simp only [R.bind_ok]
    cases d with
    | lst xs =>
      refine pi_weak (pi_enum hg hm (pa_cons p1 pa_nil hs1) hs) fun σ H Q ⟨F, Z, L, r, k⟩ => ⟨F, Z, L, r, fun v F' H' e r' x => ?_⟩
      obtain ⟨a, vs, rfl, h1, rr⟩ := x
      exact ⟨a, vs, rfl, SqL.of (r'.exF _ _ h1), k _ F' H' e r' (itd_enum (SqL.of h1) rr)⟩
    | frl xs =>
      refine pi_weak (pi_enum hg hm (pa_cons p1 pa_nil hs1) hs) fun σ H Q ⟨F, Z, L, r, k⟩ => ⟨F, Z, L, r, fun v F' H' e r' x => ?_⟩
      obtain ⟨a, vs, rfl, h1, rr⟩ := x
      exact ⟨a, vs, rfl, r'.exF.sqL h1, k _ F' H' e r' (itd_enum h1 rr)⟩
    | _ => exact pi_no
end
/-! ### targets -/
def setV (i : Nat) (d : D) (ρ : VEnv) : Option VEnv := match ρ[i]? with
  | some (some (Sl.own true _)) => none
  | some _ => some (ρ.set i (some (Sl.val d)))
  | none => none
section
variable {K : PySem.W.Frag} {T : Txt} {F Z H : Hp} {L : Nat → Option Addr} {σ : L2.St} {ρ ρ' : VEnv}
theorem setV_some {i : Nat} {d : D} (h : setV i d ρ = some ρ') : i < ρ.length ∧ (∀ m, ρ[i]? ≠ some (some (Sl.own true m))) ∧ ρ' = ρ.set i (some (Sl.val d)) := by
  unfold setV at h
  split at h
  · cases h
  · rename_i o hne q
    cases h
    exact ⟨(List.getElem?_eq_some_iff.mp q).1, fun m e => by rw [q] at e; cases e; exact hne m rfl, rfl⟩
  · cases h
theorem Rel.setV {i : Nat} {d : D} {v : V} (r : Rel K T F Z L σ ρ H) (h : VS.setV i d ρ = some ρ') (p : Rep K T F d v) : Rel K T F Z L (σ.set i (some v)) ρ' H := by
  obtain ⟨hi, hl, rfl⟩ := setV_some h
  have hs : i < σ.length := by rw [← r.len]; exact hi
  have ne : ∀ {j : Nat} {l : Bool} {m : MO}, (ρ.set i (some (Sl.val d)))[j]? = some (some (Sl.own l m)) → j ≠ i ∧ ρ[j]? = some (some (Sl.own l m)) := fun {j l m} q => by
    by_cases hj : j = i
    · subst hj; rw [List.getElem?_set_self hi] at q; cases q
    · rw [List.getElem?_set_ne (Ne.symm hj)] at q; exact ⟨hj, q⟩
  refine ⟨r.exF, r.exZ, r.dis, by simp [r.len], fun j d' q => ?_, fun j l m q => ?_, fun j k l m l' m' a q1 q2 q3 q4 => ?_, fun j a q => ?_⟩
  · by_cases hj : j = i
    · subst hj
      rw [List.getElem?_set_self hi] at q; cases q
      exact ⟨v, List.getElem?_set_self hs, p⟩
    · rw [List.getElem?_set_ne (Ne.symm hj)] at q ⊢
      exact r.val j d' q
  · obtain ⟨hj, q⟩ := ne q
    rw [List.getElem?_set_ne (Ne.symm hj)]
    exact r.own j l m q
  · obtain ⟨hj, q1⟩ := ne q1
    obtain ⟨hk, q2⟩ := ne q2
    rw [List.getElem?_set_ne (Ne.symm hj)] at q3
    rw [List.getElem?_set_ne (Ne.symm hk)] at q4
    exact r.sep j k l m l' m' a q1 q2 q3 q4
  · obtain ⟨h1, m, h2⟩ := r.lent j a q
    have hj : j ≠ i := fun e => by subst e; exact hl m h2
    rw [List.getElem?_set_ne (Ne.symm hj), List.getElem?_set_ne (Ne.symm hj)]
    exact ⟨h1, m, h2⟩
end
/-- a target: vs are the slots that it may set -/
def rdG (K : PySem.W.Frag) (T : Txt) (vs : List Nat) (t : D → VEnv → Option VEnv) : TG := fun v σ H Q => ∃ d ρ ρ' F Z L, t d ρ = some ρ' ∧ Rel K T F Z L σ ρ H ∧ Rep K T F d v ∧
  ∀ σ' F' H', (∀ i : Nat, i ∉ vs → σ'[i]? = σ[i]?) → σ'.length = σ.length → Ex F F' → Rel K T F' Z L σ' ρ' H' → Q σ' H'
def rdGs (K : PySem.W.Frag) (T : Txt) (vs : List Nat) (t : List D → VEnv → Option VEnv) : TGs := fun ws σ H Q => ∃ ds ρ ρ' F Z L, t ds ρ = some ρ' ∧ Rel K T F Z L σ ρ H ∧ Reps K T F ds ws ∧
  ∀ σ' F' H', (∀ i : Nat, i ∉ vs → σ'[i]? = σ[i]?) → σ'.length = σ.length → Ex F F' → Rel K T F' Z L σ' ρ' H' → Q σ' H'
def JG (T : Txt) (X : Cx) (tg : Expr) (vs : List Nat) (t : D → VEnv → Option VEnv) : Prop := PG X tg (rdG X.K T vs t)
def JGs (T : Txt) (X : Cx) (ts : List Expr) (vs : List Nat) (t : List D → VEnv → Option VEnv) : Prop := PGs X ts (rdGs X.K T vs t)
section
variable {T : Txt} {X : Cx} {tg e : Expr} {es : List Expr} {pos : Pos} {vs ws : List Nat}
theorem pg_weak {t t' : TG} (h : PG X tg t) (k : ∀ v σ H Q, t' v σ H Q → t v σ H Q) : PG X tg t' := ⟨fun pins s σ H v u Q I r q => h.run pins s σ H v u Q I r (k v σ H Q q)⟩
theorem pgs_weak {t t' : TGs} (h : PGs X es t) (k : ∀ v σ H Q, t' v σ H Q → t v σ H Q) : PGs X es t' := ⟨fun pins s σ H v u Q I r q => h.run pins s σ H v u Q I r (k v σ H Q q)⟩
theorem jg_name {i : Nat} (h : PG X tg (gName i)) : JG T X tg [i] (setV i) := pg_weak h fun v σ H Q ⟨d, ρ, ρ', F, Z, L, q, r, p, k⟩ =>
  k _ F H (fun j hj => List.getElem?_set_ne (by intro z; exact hj (by simp [z]))) (by simp) (Ex.refl F) (r.setV q p)
def tgNil (ds : List D) (ρ : VEnv) : Option VEnv := if ds.isEmpty then some ρ else none
def tgCons (t : D → VEnv → Option VEnv) (u : List D → VEnv → Option VEnv) (ds : List D) (ρ : VEnv) : Option VEnv := match ds with
  | d :: ds => (t d ρ).bind fun ρ' => u ds ρ'
  | [] => none
def tgTup (n : Nat) (t : List D → VEnv → Option VEnv) (d : D) (ρ : VEnv) : Option VEnv := match d with
  | .tup ds => if ds.length = n then t ds ρ else none
  | _ => none
theorem jgs_nil : JGs T X [] [] tgNil := pgs_weak pgs_nil fun v σ H Q ⟨ds, ρ, ρ', F, Z, L, q, r, p, k⟩ => by
  unfold tgNil at q
  split at q
  · rename_i c
    cases q
    have : ds = [] := by simpa using c
    subst this
    exact ⟨p, k σ F H (fun _ _ => rfl) rfl (Ex.refl F) r⟩
  · cases q
theorem jgs_cons {t : D → VEnv → Option VEnv} {u : List D → VEnv → Option VEnv} (h1 : JG T X e vs t) (h2 : JGs T X es ws u)
    (hs : (assignEach (e :: es) X.env).map (·.2) = assign e X.env :: (assignEach es X.env).map (·.2) := by rfl) : JGs T X (e :: es) (vs ++ ws) (tgCons t u) := pgs_weak (pgs_cons h1 h2 hs) fun v σ H Q ⟨ds, ρ, ρ', F, Z, L, q, r, p, k⟩ => by
  cases ds with
  | nil => cases q
  | cons d ds =>
    obtain ⟨x, xs, e1, p1, p2⟩ := p
    simp only [tgCons] at q
    cases q1 : t d ρ with
    | none => rw [q1] at q; cases q
    | some ρ1 =>
      rw [q1] at q
      refine ⟨x, xs, e1, d, ρ, ρ1, F, Z, L, q1, r, p1, fun σ1 F1 H1 s1 l1 e1 r1 => ⟨ds, ρ1, ρ', F1, Z, L, q, r1, p2.mono e1, fun σ2 F2 H2 s2 l2 e2 r2 => k σ2 F2 H2 (fun i hi => ?_) (l2.trans l1) (e1.trans e2) r2⟩⟩
      rw [s2 i (fun z => hi (List.mem_append_right _ z)), s1 i (fun z => hi (List.mem_append_left _ z))]
theorem jg_tup {k n : Nat} {t : List D → VEnv → Option VEnv} (hc : X.calm = true) (h : JGs T X es vs t) (hn : (assignEach es X.env).length = n := by rfl) (hst : (assignEach es X.env).findIdx? (·.1) = none := by rfl) : JG T X (.Tuple es k pos) vs (tgTup n t) :=
  pg_weak (pg_tup hc h hn hst) fun v σ H Q ⟨d, ρ, ρ', F, Z, L, q, r, p, k⟩ => by
    cases d <;> simp only [tgTup, reduceCtorEq] at q
    rename_i ds
    obtain ⟨a, xs, rfl, h1, rr⟩ := p
    split at q
    · rename_i c
      exact ⟨a, xs, rfl, r.exF.sqT h1, by rw [rr.length]; exact c, ds, ρ, ρ', F, Z, L, q, r, rr, k⟩
    · cases q
end
end VS
set_option maxHeartbeats 2000000
namespace VS
open PySem L2 PySem.Spec PyProof.Rows
/-! ### statements -/
inductive RS where
  | nx (ρ : VEnv) | rt (d : D) (ρ : VEnv) | rn (m : MO) (ρ : VEnv) | bk (ρ : VEnv) | ct (ρ : VEnv) | ex (c : Nat) (ds : List D) (ρ : VEnv) | stuck
/-- what must follow -/
def KS (K : PySem.W.Frag) (T : Txt) (W : WX) (F Z : Hp) (L : Nat → Option Addr) (N : Ends) : RS → Prop
  | .nx ρ => ∀ σ F' H, Ex F F' → Rel K T F' Z L σ ρ H → N.nx σ H
  | .rt d ρ => ∀ v σ F' H, Ex F F' → Rel K T F' Z L σ ρ H → Rep K T F' d v → N.rt v H
  | .rn m ρ => ∀ a o σ F' H, Ex F F' → Rel K T F' Z L σ ρ H → F' a = none → Z a = none → (∀ i, L i ≠ some a) → H a = some o → RepO K T F' m o → N.rt (.ref a) H
  | .bk ρ => ∀ σ F' H, Ex F F' → Rel K T F' Z L σ ρ H → N.bk σ H
  | .ct ρ => ∀ σ F' H, Ex F F' → Rel K T F' Z L σ ρ H → N.ct σ H
  | .ex c ds ρ => ∀ cls dd σ F' H, Ex F F' → Rel K T F' Z L σ ρ H → ExR K T F' cls dd c ds → W cls dd σ H
  | .stuck => False
def rdS (K : PySem.W.Frag) (T : Txt) (W : WX) (ρ : VEnv) (r : RS) : TS := fun N σ H => ∃ F Z L, Rel K T F Z L σ ρ H ∧ KS K T W F Z L N r
def JS (T : Txt) (X : Cx) (W : WX) (st : Stmt) (h : VEnv → RS) : Prop := ∀ ρ, PS X st (rdS X.K T W ρ (h ρ))
def JSs (T : Txt) (X : Cx) (W : WX) (sts : List Stmt) (h : VEnv → RS) : Prop := ∀ ρ, PSs X sts (rdS X.K T W ρ (h ρ))
section
variable {T : Txt} {X : Cx} {W : WX} {st : Stmt} {sts : List Stmt} {tg e a b c : Expr} {es : List Expr} {pos p : Pos} {K : PySem.W.Frag} {F F' Z : Hp} {L : Nat → Option Addr} {N : Ends}
theorem KS.mono (x : Ex F F') {r : RS} (h : KS K T W F Z L N r) : KS K T W F' Z L N r := by
  cases r with
  | nx ρ => exact fun σ F2 H e r => h σ F2 H (x.trans e) r
  | rt d ρ => exact fun v σ F2 H e r p => h v σ F2 H (x.trans e) r p
  | rn m ρ => exact fun a o σ F2 H e r => h a o σ F2 H (x.trans e) r
  | bk ρ => exact fun σ F2 H e r => h σ F2 H (x.trans e) r
  | ct ρ => exact fun σ F2 H e r => h σ F2 H (x.trans e) r
  | ex c ds ρ => exact fun cls dd σ F2 H e r p => h cls dd σ F2 H (x.trans e) r p
  | stuck => exact h
theorem ps_weak {t t' : TS} (h : PS X st t) (w : ∀ N σ H, t' N σ H → t N σ H) : PS X st t' := ⟨fun pins s σ H N I q => h.run pins s σ H N I (w N σ H q)⟩
theorem pss_weak {t t' : TS} (h : PSs X sts t) (w : ∀ N σ H, t' N σ H → t N σ H) : PSs X sts t' := ⟨fun pins s σ H N I q => h.run pins s σ H N I (w N σ H q)⟩
theorem pss_all {ι : Type} {t : ι → TS} (h : ∀ i, PSs X sts (t i)) : PSs X sts (fun N σ H => ∃ i, t i N σ H) := ⟨fun pins s σ H N I ⟨i, q⟩ => (h i).run pins s σ H N I q⟩
theorem pe_all {ι : Type} {t : ι → TE} (h : ∀ i, PE X e (t i)) : PE X e (fun σ H Q => ∃ i, t i σ H Q) := ⟨fun pins s σ H Q I ⟨i, q⟩ => (h i).run pins s σ H Q I q⟩
theorem pt_all {ι : Type} {t : ι → TT} (h : ∀ i, PT X e (t i)) : PT X e (fun σ H Q => ∃ i, t i σ H Q) := ⟨fun pins s σ H Q I ⟨i, q⟩ => (h i).run pins s σ H Q I q⟩
theorem pts_all {ι : Type} {t : ι → TT} (h : ∀ i, PTs X es (t i)) : PTs X es (fun σ H Q => ∃ i, t i σ H Q) := ⟨fun pins s σ H Q I ⟨i, q⟩ => (h i).run pins s σ H Q I q⟩
/-- a block -/
def mSeq (h k : VEnv → RS) : VEnv → RS := fun ρ => match h ρ with
  | .nx ρ' => k ρ'
  | r => r
def mNext : VEnv → RS := fun ρ => .nx ρ
theorem js_nil : JSs T X W [] mNext := fun ρ => pss_weak pss_nil fun N σ H ⟨F, Z, L, r, k⟩ => k σ F H (Ex.refl F) r
theorem js_one {h : VEnv → RS} (h1 : JS T X W st h) : JSs T X W [st] h := fun ρ => pss_one (h1 ρ)
theorem js_cons {h k : VEnv → RS} (h1 : JS T X W st h) (h2 : JSs T X W sts k) : JSs T X W (st :: sts) (mSeq h k) := fun ρ => by
  have p1 := h1 ρ
  unfold mSeq
  cases q : h ρ with
  | nx ρ1 =>
    rw [q] at p1
    exact pss_weak (pss_cons p1 (h2 ρ1)) fun N σ H ⟨F, Z, L, r, kk⟩ => ⟨F, Z, L, r, fun σ1 F1 H1 e1 r1 => ⟨F1, Z, L, r1, kk.mono e1⟩⟩
  | stuck => exact ⟨fun _ _ _ _ _ _ ⟨_, _, _, _, z⟩ => z.elim⟩
  | rt d ρ1 => rw [q] at p1; exact pss_weak (pss_cons p1 pss_never) fun N σ H h => h
  | rn d ρ1 => rw [q] at p1; exact pss_weak (pss_cons p1 pss_never) fun N σ H h => h
  | bk ρ1 => rw [q] at p1; exact pss_weak (pss_cons p1 pss_never) fun N σ H h => h
  | ct ρ1 => rw [q] at p1; exact pss_weak (pss_cons p1 pss_never) fun N σ H h => h
  | ex c ds ρ1 => rw [q] at p1; exact pss_weak (pss_cons p1 pss_never) fun N σ H h => h
theorem js_pass : JS T X W (.Pass pos) mNext := fun ρ => ps_weak ps_pass fun N σ H ⟨F, Z, L, r, k⟩ => k σ F H (Ex.refl F) r
theorem js_break : JS T X W (.Break pos) RS.bk := fun ρ => ps_weak ps_break fun N σ H ⟨F, Z, L, r, k⟩ => k σ F H (Ex.refl F) r
theorem js_continue : JS T X W (.Continue pos) RS.ct := fun ρ => ps_weak ps_continue fun N σ H ⟨F, Z, L, r, k⟩ => k σ F H (Ex.refl F) r
/-- from an expression's answer -/
def R.thenS (r : R D) (k : D → VEnv → RS) : RS := match r with
  | .ok d ρ => k d ρ
  | .ex c ds ρ => .ex c ds ρ
  | .stuck => .stuck
def R.thenB (r : R Bool) (k : Bool → VEnv → RS) : RS := match r with
  | .ok d ρ => k d ρ
  | .ex c ds ρ => .ex c ds ρ
  | .stuck => .stuck
@[simp] theorem R.thenS_ok (d : D) (ρ : VEnv) (k : D → VEnv → RS) : (R.ok d ρ).thenS k = k d ρ := id rfl
@[simp] theorem R.thenS_ex (c : Nat) (ds : List D) (ρ : VEnv) (k : D → VEnv → RS) : (R.ex c ds ρ : R D).thenS k = RS.ex c ds ρ := id rfl
@[simp] theorem R.thenS_stuck (k : D → VEnv → RS) : (R.stuck : R D).thenS k = RS.stuck := id rfl
@[simp] theorem R.thenB_ok (d : Bool) (ρ : VEnv) (k : Bool → VEnv → RS) : (R.ok d ρ).thenB k = k d ρ := id rfl
@[simp] theorem R.thenB_ex (c : Nat) (ds : List D) (ρ : VEnv) (k : Bool → VEnv → RS) : (R.ex c ds ρ : R Bool).thenB k = RS.ex c ds ρ := id rfl
@[simp] theorem R.thenB_stuck (k : Bool → VEnv → RS) : (R.stuck : R Bool).thenB k = RS.stuck := id rfl
theorem thenS_rd {ρ : VEnv} {r : R D} {k : D → VEnv → RS} {σ : L2.St} {H : Hp} {Q : VK} (h : rdS K T W ρ (r.thenS k) N σ H)
    (hk : ∀ d ρ1 v F Z L H1, Rel K T F Z L σ ρ1 H1 → Rep K T F d v → KS K T W F Z L N (k d ρ1) → Q v H1) : rdE K T W ρ r σ H Q := by
  obtain ⟨F, Z, L, r0, kk⟩ := h
  cases r with
  | stuck => exact kk
  | ex c ds ρ1 => exact ⟨F, Z, L, r0, fun cls dd F' H' e r' x => kk cls dd σ F' H' e r' x⟩
  | ok d ρ1 => exact ⟨F, Z, L, r0, fun v F' H' e r' x => hk d ρ1 v F' Z L H' r' x (kk.mono e)⟩
theorem thenB_rd {ρ : VEnv} {r : R Bool} {k : Bool → VEnv → RS} {σ : L2.St} {H : Hp} {Q : Bool → Hp → Prop} (h : rdS K T W ρ (r.thenB k) N σ H)
    (hk : ∀ d ρ1 F Z L H1, r = .ok d ρ1 → Rel K T F Z L σ ρ1 H1 → KS K T W F Z L N (k d ρ1) → Q d H1) : rdT K T W ρ r σ H Q := by
  obtain ⟨F, Z, L, r0, kk⟩ := h
  cases r with
  | stuck => exact kk
  | ex c ds ρ1 => exact ⟨F, Z, L, r0, fun cls dd F' H' e r' x => kk cls dd σ F' H' e r' x⟩
  | ok d ρ1 => exact ⟨F, Z, L, r0, fun F' H' e r' => hk d ρ1 F' Z L H' rfl r' (kk.mono e)⟩
/-- e; return e; return -/
def mExpr (g : Ev D) : VEnv → RS := fun ρ => (g ρ).thenS fun _ ρ' => .nx ρ'
def mRet (g : Ev D) : VEnv → RS := fun ρ => (g ρ).thenS fun d ρ' => .rt d ρ'
def mRetN : VEnv → RS := fun ρ => .rt .non ρ
theorem js_expr {g : Ev D} (h : JE T X W e g) (hs : swapsWith e none pos.line X.env = pure false := by rfl) : JS T X W (.Expr e pos) (mExpr g) := fun ρ =>
  ps_weak (ps_expr (h ρ) hs) fun N σ H q => thenS_rd q fun d ρ1 v F Z L H1 r _ k => k σ F H1 (Ex.refl F) r
theorem js_ret {g : Ev D} (h : JE T X W e g) : JS T X W (.Return (some e) pos) (mRet g) := fun ρ =>
  ps_weak (ps_ret (h ρ)) fun N σ H q => thenS_rd q fun d ρ1 v F Z L H1 r p k => k v σ F H1 (Ex.refl F) r p
theorem js_retN : JS T X W (.Return none pos) mRetN := fun ρ => ps_weak ps_retN fun N σ H ⟨F, Z, L, r, k⟩ => k _ σ F H (Ex.refl F) r rfl
/-- return x, x an owned list of the def's own -/
def mRetO (i : Nat) : VEnv → RS := fun ρ => match ρ[i]? with
  | some (some (Sl.own false m)) => .rn m (ρ.set i none)
  | _ => .stuck
theorem Rel.drop {σ : L2.St} {ρ : VEnv} {H : Hp} {i : Nat} (r : Rel K T F Z L σ ρ H) (hl : ∀ m, ρ[i]? ≠ some (some (Sl.own true m))) : Rel K T F Z L σ (ρ.set i none) H := by
  have ne : ∀ {j : Nat} {s : Sl}, (ρ.set i none)[j]? = some (some s) → j ≠ i ∧ ρ[j]? = some (some s) := fun {j s} q => by
    by_cases hj : j = i
    · subst hj
      by_cases hi : j < ρ.length
      · rw [List.getElem?_set_self hi] at q; cases q
      · rw [List.getElem?_eq_none (by simpa using hi)] at q; cases q
    · rw [List.getElem?_set_ne (Ne.symm hj)] at q; exact ⟨hj, q⟩
  refine ⟨r.exF, r.exZ, r.dis, by simp [r.len], fun j d q => r.val j d (ne q).2, fun j l m q => r.own j l m (ne q).2, fun j k l m l' m' a q1 q2 q3 q4 => r.sep j k l m l' m' a (ne q1).2 (ne q2).2 q3 q4, fun j a q => ?_⟩
  obtain ⟨h1, m, h2⟩ := r.lent j a q
  have hj : j ≠ i := fun e => by subst e; exact hl m h2
  rw [List.getElem?_set_ne (Ne.symm hj)]
  exact ⟨h1, m, h2⟩
theorem js_retO {i : Nat} (h : PE X e (tVar i)) : JS T X W (.Return (some e) pos) (mRetO i) := fun ρ => by
  refine ps_weak (ps_ret h) fun N σ H ⟨F, Z, L, r, k⟩ => ?_
  unfold mRetO at k
  split at k
  · rename_i m q
    obtain ⟨a, o, h1, h2, h3, h4, h5⟩ := r.own i false m q
    refine ⟨_, h1, k a o σ F H (Ex.refl F) (r.drop fun m' e => by rw [q] at e; cases e) h2 h3 (fun j e => ?_) h4 h5⟩
    obtain ⟨g1, m2, g2⟩ := r.lent j a e
    have := r.sep i j _ _ _ _ a q g2 h1 g1
    subst this
    rw [q] at g2; cases g2
  · exact k.elim
/-- if -/
def mIfS (t : Ev Bool) (h k : VEnv → RS) : VEnv → RS := fun ρ => (t ρ).thenB fun b ρ' => if b = true then h ρ' else k ρ'
theorem js_if {t : Ev Bool} {h k : VEnv → RS} {ss us : List Stmt} (hc : JT T X W c t) (h1 : JSs T X W ss h) (h2 : JSs T X W us k) : JS T X W (.If c ss us pos) (mIfS t h k) := fun ρ => by
  refine ps_weak (ps_if (hc ρ) (pss_all h1) (pss_all h2)) fun N σ H q => thenB_rd q fun d ρ1 F Z L H1 _ r kk => ?_
  cases d with
  | true => exact iteT ⟨ρ1, F, Z, L, r, by simpa using kk⟩
  | false => exact iteF ⟨ρ1, F, Z, L, r, by simpa using kk⟩
/-- target = e -/
def mAsg (g : Ev D) (t : D → VEnv → Option VEnv) : VEnv → RS := fun ρ => (g ρ).thenS fun d ρ1 => match t d ρ1 with
  | some ρ2 => .nx ρ2
  | none => .stuck
theorem js_asg {g : Ev D} {t : D → VEnv → Option VEnv} {vs : List Nat} (h : JE T X W e g) (hg : JG T X tg vs t) (hs : swapsWithSole [tg] e pos.line X.env = pure false := by rfl) (hw : swappedStores [tg] e X.env = pure none := by rfl)
    (h1 : (assignEach [tg] X.env).map (·.2) = [assign tg X.env] := by rfl) : JS T X W (.Assign [tg] e pos) (mAsg g t) := fun ρ => by
  refine ps_weak (ps_asg (h ρ) hg hs hw h1) fun N σ H q => thenS_rd q fun d ρ1 v F Z L H1 r p k => ?_
  split at k
  · rename_i ρ2 q2
    exact ⟨d, ρ1, ρ2, F, Z, L, q2, r, p, fun σ' F' H' _ _ e' r' => k σ' F' H' e' r'⟩
  · exact k.elim
/-- x = e -/
theorem js_set {i : Nat} {x : Str} {p' : Pos} {g : Ev D} (hN : X.N.Nodup) (hi : X.N[i]? = some x) (hx : Loc X.env.scope x) (h : JE T X W e g) (hs : swapsWith e (some (.Name x p')) pos.line X.env = pure false := by rfl)
    (hf : X.fn x = true ∨ X.env.scope.names.lookup x = some .local := by first | exact .inl rfl | exact .inr rfl | assumption) : JS T X W (.Assign [.Name x p'] e pos) (mAsg g (setV i)) := fun ρ => by
  refine ps_weak (ps_set (i := i) hN hi hx (h ρ) hs hf) fun N σ H q => thenS_rd q fun d ρ1 v F Z L H1 r p k => ?_
  split at k
  · rename_i ρ2 q2
    exact k _ F H1 (Ex.refl F) (r.setV q2 p)
  · exact k.elim
/-- for -/
def forGo (t : D → VEnv → Option VEnv) (body : VEnv → RS) : List D → VEnv → RS
  | [], ρ => .nx ρ
  | d :: ds, ρ => match t d ρ with
    | none => .stuck
    | some ρ1 => match body ρ1 with
      | .nx ρ2 => forGo t body ds ρ2
      | .ct ρ2 => forGo t body ds ρ2
      | .bk ρ2 => .nx ρ2
      | r => r
def R.thenL (r : R (List D)) (k : List D → VEnv → RS) : RS := match r with
  | .ok d ρ => k d ρ
  | .ex c ds ρ => .ex c ds ρ
  | .stuck => .stuck
def mFor (src : Ev (List D)) (t : D → VEnv → Option VEnv) (body : VEnv → RS) : VEnv → RS := fun ρ => (src ρ).thenL fun ds ρ' => forGo t body ds ρ'
theorem for_core {J : It} {ds : List D} {t : D → VEnv → Option VEnv} {vs : List Nat} {body : VEnv → RS} {σ : L2.St} {H : Hp} {ρ : VEnv} (it : ItD K T F J ds) (r : Rel K T F Z L σ ρ H) (k : KS K T W F Z L N (forGo t body ds ρ)) :
    ∃ Wv : Nat → Nat → L2.St → Hp → Prop, (∃ m, Wv 0 m σ H) ∧ ∀ i m σ H, Wv i m σ H →
      (J.stop i H ∧ N.nx σ H) ∨ (J.go i H ∧ ∃ M : L2.St → Hp → Prop, (∀ σ' H', M σ' H' → ∃ m', m' < m ∧ Wv (i + 1) m' σ' H') ∧ ∀ x H', J.yld i H x H' → rdG K T vs t x σ H' fun σ2 H2 => ∃ ρ, rdS K T W ρ (body ρ) { N with nx := M, ct := M, bk := N.nx } σ2 H2) := by
  refine ⟨fun i m σ H => m = ds.length - i ∧ i ≤ ds.length ∧ ∃ ρ F', Ex F F' ∧ Rel K T F' Z L σ ρ H ∧ KS K T W F' Z L N (forGo t body (ds.drop i) ρ), ⟨_, rfl, Nat.zero_le _, ρ, F, Ex.refl F, r, k⟩, ?_⟩
  rintro i m σ H ⟨rfl, hi, ρ, F', e1, r1, k1⟩
  by_cases hlt : i < ds.length
  · refine .inr ⟨it.go i H (e1.trans r1.exF) hlt, _, fun σ' H' h => ⟨ds.length - (i + 1), by omega, rfl, hlt, h⟩, fun x H' y => ?_⟩
    have hd : ds[i]? = some ds[i] := by simp [hlt]
    obtain ⟨G, g, px⟩ := it.yld i _ F' H x H' e1 r1.exF hd y
    have r2 := g.2 _ _ _ _ r1
    have k2 : KS K T W G Z L N (forGo t body (ds.drop i) ρ) := k1.mono g.1
    rw [List.drop_eq_getElem_cons hlt] at k2
    simp only [forGo] at k2
    cases q1 : t ds[i] ρ with
    | none => rw [q1] at k2; exact k2.elim
    | some ρ1 =>
      rw [q1] at k2
      refine ⟨ds[i], ρ, ρ1, G, Z, L, q1, r2, px, fun σ3 F3 H3 _ _ e3 r3 => ⟨ρ1, F3, Z, L, r3, ?_⟩⟩
      dsimp only at k2
      cases q2 : body ρ1 with
      | stuck => rw [q2] at k2; exact k2
      | nx ρ2 => rw [q2] at k2; exact fun σ4 F4 H4 e4 r4 => ⟨ρ2, F4, ((e1.trans g.1).trans e3).trans e4, r4, (k2.mono e3).mono e4⟩
      | ct ρ2 => rw [q2] at k2; exact fun σ4 F4 H4 e4 r4 => ⟨ρ2, F4, ((e1.trans g.1).trans e3).trans e4, r4, (k2.mono e3).mono e4⟩
      | bk ρ2 => rw [q2] at k2; exact fun σ4 F4 H4 e4 r4 => k2 σ4 F4 H4 (e3.trans e4) r4
      | rt d ρ2 => rw [q2] at k2; exact fun v σ4 F4 H4 e4 r4 p4 => k2 v σ4 F4 H4 (e3.trans e4) r4 p4
      | rn d ρ2 => rw [q2] at k2; exact fun a o σ4 F4 H4 e4 r4 => k2 a o σ4 F4 H4 (e3.trans e4) r4
      | ex c ds ρ2 => rw [q2] at k2; exact fun cls dd σ4 F4 H4 e4 r4 p4 => k2 cls dd σ4 F4 H4 (e3.trans e4) r4 p4
  · have e : i = ds.length := by omega
    subst e
    rw [List.drop_length] at k1
    exact .inl ⟨it.stop H (e1.trans r1.exF), k1 σ F' H (Ex.refl F') r1⟩
theorem js_for {src : Ev (List D)} {t : D → VEnv → Option VEnv} {vs : List Nat} {body : VEnv → RS} {ss : List Stmt} {iter : Expr} (hp : PassesOwn (model X.prog X.w) X.A X.env X.xe) (hc : X.calm = true) (hi : JI T X W tg iter src) (hg : JG T X tg vs t) (hb : JSs T X W ss body)
    (hf : ∀ x, foldedSetIterable iter X.env x = pure x := by intro _; rfl) : JS T X W (.For tg iter ss [] pos) (mFor src t body) := fun ρ => by
  have p1 := hi ρ
  refine ps_weak (ps_for hp hc p1 hg (pss_all hb) hf) fun N σ H q => ?_
  obtain ⟨F, Z, L, r, k⟩ := q
  unfold mFor at k
  cases q1 : src ρ with
  | stuck => rw [q1] at k; exact k.elim
  | ex c ds ρ1 => rw [q1] at k; exact ⟨F, Z, L, r, fun cls dd F' H' e r' x => k cls dd σ F' H' e r' x⟩
  | ok ds ρ1 =>
    rw [q1] at k
    exact ⟨F, Z, L, r, fun J F' H' e r' it => for_core it r' (k.mono e)⟩
end
end VS
set_option maxHeartbeats 2000000
namespace VS
open PySem L2 PySem.Spec PyProof.Rows
/-! ### list comprehensions -/
def wipeE (ρ : VEnv) : List Nat → VEnv
  | [] => ρ
  | v :: vs => (wipeE ρ vs).set v none
/-- no owned thing stands there -/
def cleared (ρ : VEnv) (vs : List Nat) : Bool := vs.all fun i => match ρ[i]? with
  | some (some (Sl.own _ _)) => false
  | _ => true
def restoreE (ρ0 ρ : VEnv) : List Nat → VEnv
  | [] => ρ
  | v :: vs => (restoreE ρ0 ρ vs).set v (match ρ0[v]? with
    | some (some (Sl.val d)) => some (Sl.val d)
    | _ => none)
section
variable {K : PySem.W.Frag} {T : Txt} {F Z H : Hp} {L : Nat → Option Addr} {σ σ' : L2.St} {ρ ρ' : VEnv} {D0 : Addr} {o o' : HO}
theorem wipeE_length : ∀ (vs : List Nat), (wipeE ρ vs).length = ρ.length
  | [] => rfl
  | v :: vs => by simp [wipeE, wipeE_length vs]
theorem wipeE_in {i : Nat} : ∀ {vs : List Nat}, i ∈ vs → ∀ s, (wipeE ρ vs)[i]? ≠ some (some s)
  | v :: vs, h, s => by
    intro q
    unfold wipeE at q
    by_cases hv : v = i
    · subst hv
      by_cases hl : v < (wipeE ρ vs).length
      · rw [List.getElem?_set_self hl] at q; cases q
      · rw [List.getElem?_eq_none (by simpa using hl)] at q; cases q
    · rw [List.getElem?_set_ne hv] at q
      exact wipeE_in (by rcases List.mem_cons.mp h with e | e; exact absurd e.symm hv; exact e) s q
theorem cleared_in {vs : List Nat} (h : cleared ρ vs = true) {i : Nat} (hi : i ∈ vs) (l : Bool) (m : MO) : ρ[i]? ≠ some (some (Sl.own l m)) := by
  intro q
  have := List.all_eq_true.mp h i hi
  rw [q] at this
  cases this
theorem Rel.dropL {i : Nat} (r : Rel K T F Z L σ ρ H) (hl : L i = none) : Rel K T F Z L σ (ρ.set i none) H := by
  have ne : ∀ {j : Nat} {s : Sl}, (ρ.set i none)[j]? = some (some s) → j ≠ i ∧ ρ[j]? = some (some s) := fun {j s} q => by
    by_cases hj : j = i
    · subst hj
      by_cases hi : j < ρ.length
      · rw [List.getElem?_set_self hi] at q; cases q
      · rw [List.getElem?_eq_none (by simpa using hi)] at q; cases q
    · rw [List.getElem?_set_ne (Ne.symm hj)] at q; exact ⟨hj, q⟩
  refine ⟨r.exF, r.exZ, r.dis, by simp [r.len], fun j d q => r.val j d (ne q).2, fun j l m q => r.own j l m (ne q).2, fun j k l m l' m' a q1 q2 q3 q4 => r.sep j k l m l' m' a (ne q1).2 (ne q2).2 q3 q4, fun j a q => ?_⟩
  obtain ⟨h1, m, h2⟩ := r.lent j a q
  have hj : j ≠ i := fun e => by subst e; rw [hl] at q; cases q
  rw [List.getElem?_set_ne (Ne.symm hj)]
  exact ⟨h1, m, h2⟩
theorem Rel.wipeE : ∀ {vs : List Nat}, (∀ i ∈ vs, L i = none) → Rel K T F Z L σ ρ H → Rel K T F Z L σ (VS.wipeE ρ vs) H
  | [], _, r => r
  | v :: vs, h, r => (Rel.wipeE (fun i hi => h i (List.mem_cons_of_mem _ hi)) r).dropL (h v List.mem_cons_self)
/-- a slot that still holds what it held -/
theorem Rel.putVal {i : Nat} {d : D} {v : V} (r : Rel K T F Z L σ ρ H) (hl : L i = none) (hs : σ[i]? = some (some v)) (p : Rep K T F d v) : Rel K T F Z L σ (ρ.set i (some (Sl.val d))) H := by
  have hi : i < ρ.length := by rw [r.len]; exact (List.getElem?_eq_some_iff.mp hs).1
  have ne : ∀ {j : Nat} {l : Bool} {m : MO}, (ρ.set i (some (Sl.val d)))[j]? = some (some (Sl.own l m)) → ρ[j]? = some (some (Sl.own l m)) := fun {j l m} q => by
    by_cases hj : j = i
    · subst hj; rw [List.getElem?_set_self hi] at q; cases q
    · rw [List.getElem?_set_ne (Ne.symm hj)] at q; exact q
  refine ⟨r.exF, r.exZ, r.dis, by simp [r.len], fun j d' q => ?_, fun j l m q => r.own j l m (ne q), fun j k l m l' m' a q1 q2 q3 q4 => r.sep j k l m l' m' a (ne q1) (ne q2) q3 q4, fun j a q => ?_⟩
  · by_cases hj : j = i
    · subst hj; rw [List.getElem?_set_self hi] at q; cases q; exact ⟨v, hs, p⟩
    · rw [List.getElem?_set_ne (Ne.symm hj)] at q; exact r.val j d' q
  · obtain ⟨h1, m, h2⟩ := r.lent j a q
    have hj : j ≠ i := fun e => by subst e; rw [hl] at q; cases q
    rw [List.getElem?_set_ne (Ne.symm hj)]
    exact ⟨h1, m, h2⟩
theorem Rel.restore {F0 Z0 H0 : Hp} {ρ0 : VEnv} (r0 : Rel K T F0 Z0 L σ ρ0 H0) (e : Ex F0 F) : ∀ {vs : List Nat}, (∀ i ∈ vs, L i = none) → Rel K T F Z L σ ρ H → Rel K T F Z L σ (restoreE ρ0 ρ vs) H
  | [], _, r => r
  | v :: vs, h, r => by
    have r1 := Rel.restore r0 e (fun i hi => h i (List.mem_cons_of_mem _ hi)) r
    unfold restoreE
    split
    · rename_i d q
      obtain ⟨x, h1, h2⟩ := r0.val v d q
      exact r1.putVal (h v List.mem_cons_self) h1 (h2.mono e)
    · exact r1.dropL (h v List.mem_cons_self)
/-- other slots where nothing is said -/
theorem Rel.sig {vs : List Nat} (r : Rel K T F Z L σ ρ H) (hs : ∀ i : Nat, i ∉ vs → σ'[i]? = σ[i]?) (hl : σ'.length = σ.length) (hn : ∀ i ∈ vs, ∀ s, ρ[i]? ≠ some (some s)) (hL : ∀ i ∈ vs, L i = none) : Rel K T F Z L σ' ρ H := by
  have out : ∀ {i : Nat} {s : Sl}, ρ[i]? = some (some s) → σ'[i]? = σ[i]? := fun {i s} q => hs i fun hi => hn i hi s q
  refine ⟨r.exF, r.exZ, r.dis, r.len.trans hl.symm, fun j d q => by rw [out q]; exact r.val j d q, fun j l m q => by rw [out q]; exact r.own j l m q, fun j k l m l' m' a q1 q2 q3 q4 => ?_, fun j a q => ?_⟩
  · rw [out q1] at q3; rw [out q2] at q4; exact r.sep j k l m l' m' a q1 q2 q3 q4
  · obtain ⟨h1, m, h2⟩ := r.lent j a q
    exact ⟨by rw [out h2]; exact h1, m, h2⟩
theorem Rel.zNew (r : Rel K T F Z L σ ρ H) (n : H D0 = none) : Rel K T F (upd Z D0 o) L σ ρ (upd H D0 o) where
  exF := fun a u e => by rw [upd_ne (ne_of_none (r.exF a u e) n)]; exact r.exF a u e
  exZ := fun a u e => by
    by_cases h : a = D0
    · subst h; rw [upd_same] at e ⊢; exact e
    · rw [upd_ne h] at e ⊢; exact r.exZ a u e
  dis := fun a u e => by rw [upd_ne (ne_of_none (r.exF a u e) n)]; exact r.dis a u e
  len := r.len
  val := r.val
  own := fun i l m e => by
    obtain ⟨a, u, h1, h2, h3, h4, h5⟩ := r.own i l m e
    have ne : a ≠ D0 := ne_of_none h4 n
    exact ⟨a, u, h1, h2, by rw [upd_ne ne]; exact h3, by rw [upd_ne ne]; exact h4, h5⟩
  sep := r.sep
  lent := r.lent
theorem Rel.zSet (r : Rel K T F (upd Z D0 o) L σ ρ H) : Rel K T F (upd Z D0 o') L σ ρ (upd H D0 o') where
  exF := fun a u e => by
    have h : a ≠ D0 := fun h => by subst h; have := r.dis a u e; rw [upd_same] at this; cases this
    rw [upd_ne h]; exact r.exF a u e
  exZ := fun a u e => by
    by_cases h : a = D0
    · subst h; rw [upd_same] at e ⊢; exact e
    · rw [upd_ne h] at e ⊢; exact r.exZ a u (by rw [upd_ne h]; exact e)
  dis := fun a u e => by
    have q := r.dis a u e
    have h : a ≠ D0 := fun h => by subst h; rw [upd_same] at q; cases q
    rw [upd_ne h] at q ⊢; exact q
  len := r.len
  val := r.val
  own := fun i l m e => by
    obtain ⟨a, u, h1, h2, h3, h4, h5⟩ := r.own i l m e
    have ne : a ≠ D0 := fun h => by subst h; rw [upd_same] at h3; cases h3
    rw [upd_ne ne] at h3
    exact ⟨a, u, h1, h2, by rw [upd_ne ne]; exact h3, by rw [upd_ne ne]; exact h4, h5⟩
  sep := r.sep
  lent := r.lent
/-- what was kept aside is let go -/
theorem Rel.zF (r : Rel K T F (upd Z D0 o) L σ ρ H) (hz : Z D0 = none) : Rel K T (upd F D0 o) Z L σ ρ H := by
  have fn : F D0 = none := by
    cases q : F D0 with
    | none => rfl
    | some u => have := r.dis D0 u q; rw [upd_same] at this; cases this
  have e : Ex F (upd F D0 o) := Ex.new fn
  refine ⟨fun a u q => ?_, fun a u q => ?_, fun a u q => ?_, r.len, fun i d q => ?_, fun i l m q => ?_, r.sep, r.lent⟩
  · by_cases h : a = D0
    · subst h; rw [upd_same] at q; exact r.exZ a u (by rw [upd_same]; exact q)
    · rw [upd_ne h] at q; exact r.exF a u q
  · exact r.exZ a u (by rw [upd_ne (ne_of_none q hz)]; exact q)
  · by_cases h : a = D0
    · subst h; exact hz
    · rw [upd_ne h] at q; have := r.dis a u q; rw [upd_ne h] at this; exact this
  · obtain ⟨v, h1, h2⟩ := r.val i d q; exact ⟨v, h1, h2.mono e⟩
  · obtain ⟨a, u, h1, h2, h3, h4, h5⟩ := r.own i l m q
    have ne : a ≠ D0 := fun h => by subst h; rw [upd_same] at h3; cases h3
    rw [upd_ne ne] at h3
    exact ⟨a, u, h1, by rw [upd_ne ne]; exact h2, h3, h4, h5.mono e⟩
/-- .. is forgotten -/
theorem Rel.zDrop (r : Rel K T F (upd Z D0 o) L σ ρ H) (hz : Z D0 = none) : Rel K T F Z L σ ρ H ∧ F D0 = none ∧ H D0 = some o ∧ ∀ (i : Nat) (l : Bool) (m : MO), ρ[i]? = some (some (Sl.own l m)) → σ[i]? ≠ some (some (V.ref D0)) := by
  have fn : F D0 = none := by
    cases q : F D0 with
    | none => rfl
    | some u => have := r.dis D0 u q; rw [upd_same] at this; cases this
  refine ⟨⟨r.exF, fun a u q => r.exZ a u (by rw [upd_ne (ne_of_none q hz)]; exact q), fun a u q => ?_, r.len, r.val, fun i l m q => ?_, r.sep, r.lent⟩, fn, r.exZ D0 o upd_same, fun i l m q z => ?_⟩
  · have := r.dis a u q
    have h : a ≠ D0 := fun h => by subst h; rw [upd_same] at this; cases this
    rw [upd_ne h] at this; exact this
  · obtain ⟨a, u, h1, h2, h3, h4, h5⟩ := r.own i l m q
    have ne : a ≠ D0 := fun h => by subst h; rw [upd_same] at h3; cases h3
    rw [upd_ne ne] at h3
    exact ⟨a, u, h1, h2, h3, h4, h5⟩
  · obtain ⟨a, u, h1, h2, h3, h4, h5⟩ := r.own i l m q
    rw [z] at h1
    cases h1
    rw [upd_same] at h3; cases h3
end
theorem wipe_eq {σ τ : L2.St} {vs : List Nat} (h : ∀ i : Nat, i ∉ vs → τ[i]? = σ[i]?) (hl : τ.length = σ.length) : wipe τ vs = wipe σ vs := by
  apply List.ext_getElem?
  intro i
  by_cases hi : i ∈ vs
  · have none_of : ∀ {υ : L2.St}, (wipe υ vs)[i]? = if i < υ.length then some none else none := fun {υ} => by
      by_cases hl : i < υ.length
      · rw [if_pos hl]
        have hl' : i < (wipe υ vs).length := by rw [wipe_length]; exact hl
        have e : (wipe υ vs)[i]? = some ((wipe υ vs)[i]) := by simp [hl']
        rw [e]
        cases q : (wipe υ vs)[i] with
        | none => rfl
        | some x => rw [q] at e; exact absurd hi (wipe_some e).2
      · rw [if_neg hl]
        exact List.getElem?_eq_none (by rw [wipe_length]; omega)
    rw [none_of, none_of, hl]
  · rw [wipe_out hi, wipe_out hi, h i hi]
def JTs (T : Txt) (X : Cx) (W : WX) (es : List Expr) (g : Ev Bool) : Prop := ∀ ρ, PTs X es (rdT X.K T W ρ (g ρ))
def mYes : Ev Bool := fun ρ => .ok true ρ
section
variable {T : Txt} {X : Cx} {W : WX} {tg iter elt e a b c : Expr} {ifs : List Expr} {pos p : Pos} {K : PySem.W.Frag}
theorem jts_nil : JTs T X W [] mYes := fun ρ => ⟨fun pins s σ H Q I ⟨F, Z, L, r, k⟩ => (pts_nil (X := X)).run pins s σ H Q I (k F H (Ex.refl F) r)⟩
theorem jts_one {g : Ev Bool} (h : JT T X W c g) : JTs T X W [c] g := fun ρ => pts_one (h ρ)
abbrev W0 : WX := fun _ _ _ _ => False
def lcGo (vs : List Nat) (t : D → VEnv → Option VEnv) (tt : Ev Bool) (te : Ev D) : List D → List D → VEnv → R (List D)
  | [], acc, ρ => .ok acc ρ
  | d :: ds, acc, ρ => match t d ρ with
    | none => .stuck
    | some ρ1 => match tt ρ1 with
      | .ok true ρ2 => match te ρ2 with
        | .ok y ρ3 => if acc.length < lim then lcGo vs t tt te ds (acc ++ [y]) (wipeE ρ3 vs) else .stuck
        | _ => .stuck
      | .ok false ρ2 => lcGo vs t tt te ds acc (wipeE ρ2 vs)
      | _ => .stuck
def mLcL (src : Ev (List D)) (vs : List Nat) (t : D → VEnv → Option VEnv) (tt : Ev Bool) (te : Ev D) : Ev (List D) := fun ρ => (src ρ).bind fun ds ρ' => if cleared ρ' vs = true then (lcGo vs t tt te ds [] (wipeE ρ' vs)).bind fun zs ρf => .ok zs (restoreE ρ' ρf vs) else .stuck
theorem lc_coreV {src : Ev (List D)} {vs ws : List Nat} {t : D → VEnv → Option VEnv} {tt : Ev Bool} {te : Ev D} (hws : ∀ i ∈ ws, i ∈ vs) {ρ : VEnv} {σ : L2.St} {H : Hp} {Q : VK} {zs : List D} {ρf : VEnv} (hz : mLcL src vs t tt te ρ = .ok zs ρf)
    {F Z : Hp} {L : Nat → Option Addr} (r : Rel K T F Z L σ ρ H) (k : ∀ D0 acc F' H', Ex F F' → Z D0 = none → Rel K T F' (upd Z D0 (.lst acc)) L σ ρf H' → Reps K T F' zs acc → Q (.ref D0) H') :
    tLc (rdI K T W ρ (src ρ)) (rdG K T ws t) (fun σ H Q => ∃ ρ, rdT K T W0 ρ (tt ρ) σ H Q) (fun σ H Q => ∃ ρ, rdE K T W0 ρ (te ρ) σ H Q) vs σ H Q := by
  unfold mLcL at hz
  cases q1 : src ρ with
  | stuck => rw [q1] at hz; cases hz
  | ex c ds ρ1 => rw [q1] at hz; cases hz
  | ok ds ρ1 =>
    rw [q1] at hz
    simp only [R.bind_ok] at hz
    split at hz
    · rename_i hcl
      obtain ⟨ρe, hz2, hρf⟩ : ∃ ρe, lcGo vs t tt te ds [] (wipeE ρ1 vs) = .ok zs ρe ∧ ρf = restoreE ρ1 ρe vs := by
        cases q5 : lcGo vs t tt te ds [] (wipeE ρ1 vs) with
        | stuck => rw [q5] at hz; cases hz
        | ex c ds ρ1 => rw [q5] at hz; cases hz
        | ok z ρe => rw [q5] at hz; simp only [R.bind_ok] at hz; cases hz; exact ⟨ρe, rfl, rfl⟩
      refine ⟨F, Z, L, r, fun J F1 H1 e1 r1 it D0 hD => ?_⟩
      have hZD : Z D0 = none := r1.exZ.none hD
      have hLn : ∀ i ∈ vs, L i = none := fun i hi => by
        cases q : L i with
        | none => rfl
        | some a => obtain ⟨_, m, h2⟩ := r1.lent i a q; exact absurd h2 (cleared_in hcl hi _ _)
      have r2 : Rel K T F1 (upd Z D0 (.lst [])) L (wipe σ vs) (wipeE ρ1 vs) (upd H1 D0 (.lst [])) := ((r1.zNew hD).wipeE hLn).sig (fun i hi => wipe_out hi) (wipe_length σ vs) (fun i hi => wipeE_in hi) hLn
      refine ⟨fun i m H => m = ds.length - i ∧ i ≤ ds.length ∧ ∃ ρi F' acc ys, Ex F1 F' ∧ Rel K T F' (upd Z D0 (.lst acc)) L (wipe σ vs) ρi H ∧ Reps K T F' ys acc ∧ (∀ i ∈ vs, ∀ s, ρi[i]? ≠ some (some s)) ∧ lcGo vs t tt te (ds.drop i) ys ρi = .ok zs ρe,
        ⟨_, rfl, Nat.zero_le _, wipeE ρ1 vs, F1, [], [], Ex.refl F1, r2, rfl, fun i hi => wipeE_in hi, hz2⟩, ?_⟩
      rintro i m H ⟨rfl, hi, ρi, F', acc, ys, e2, r3, ra, hn, hgo⟩
      by_cases hlt : i < ds.length
      · refine .inr ⟨it.go i H (e2.trans r3.exF) hlt, _, fun H' h => ⟨ds.length - (i + 1), by omega, rfl, hlt, h⟩, fun x H' y => ?_⟩
        have hd : ds[i]? = some ds[i] := by simp [hlt]
        obtain ⟨G, g, px⟩ := it.yld i _ F' H x H' e2 r3.exF hd y
        have r4 := g.2 _ _ _ _ r3
        rw [List.drop_eq_getElem_cons hlt] at hgo
        simp only [lcGo] at hgo
        cases q2 : t ds[i] ρi with
        | none => rw [q2] at hgo; cases hgo
        | some ρ2 =>
          rw [q2] at hgo
          dsimp only at hgo
          refine ⟨ds[i], ρi, ρ2, G, upd Z D0 (.lst acc), L, q2, r4, px, fun σ5 F5 H5 s5 l5 e5 r5 => ⟨?_, ρ2, ?_⟩⟩
          · have s6 : ∀ i : Nat, i ∉ vs → σ5[i]? = σ[i]? := fun i hi => by rw [s5 i (fun z => hi (hws i z)), wipe_out hi]
            exact wipe_eq s6 (l5.trans (wipe_length σ vs))
          · have s6 : ∀ i : Nat, i ∉ vs → (wipe σ vs)[i]? = σ5[i]? := fun i hi => (s5 i (fun z => hi (hws i z))).symm
            have l6 : (wipe σ vs).length = σ5.length := l5.symm
            cases q3 : tt ρ2 with
            | stuck => rw [q3] at hgo; cases hgo
            | ex c ds ρ3 => rw [q3] at hgo; cases hgo
            | ok t3 ρ3 =>
              rw [q3] at hgo
              cases t3 with
              | false =>
                dsimp only at hgo
                refine ⟨F5, _, L, r5, fun F6 H6 e6 r6 => iteF ⟨_, F6, acc, ys, (e2.trans (g.1.trans e5)).trans e6, ?_, ((ra.mono g.1).mono e5).mono e6, fun i hi => wipeE_in hi, hgo⟩⟩
                exact (r6.wipeE hLn).sig s6 l6 (fun i hi => wipeE_in hi) hLn
              | true =>
                dsimp only at hgo
                refine ⟨F5, _, L, r5, fun F6 H6 e6 r6 => iteT ⟨ρ3, ?_⟩⟩
                cases q4 : te ρ3 with
                | stuck => rw [q4] at hgo; cases hgo
                | ex c ds ρ4 => rw [q4] at hgo; cases hgo
                | ok y4 ρ4 =>
                  rw [q4] at hgo
                  dsimp only at hgo
                  split at hgo
                  · rename_i hlen
                    refine ⟨F6, _, L, r6, fun v F7 H7 e7 r7 p7 => ⟨acc, r7.exZ _ _ upd_same, ?_, ?_⟩⟩
                    · rw [ra.length]; exact lt_line hlen
                    · refine ⟨_, F7, acc ++ [v], ys ++ [y4], (((e2.trans (g.1.trans e5)).trans e6).trans e7), ?_, ((((ra.mono g.1).mono e5).mono e6).mono e7).append (Reps.one p7), fun i hi => wipeE_in hi, hgo⟩
                      exact ((r7.zSet).wipeE hLn).sig s6 l6 (fun i hi => wipeE_in hi) hLn
                  · cases hgo
      · have e : i = ds.length := by omega
        subst e
        rw [List.drop_length] at hgo
        simp only [lcGo] at hgo
        cases hgo
        refine .inl ⟨it.stop H (e2.trans r3.exF), k D0 acc F' H (e1.trans e2) hZD ?_ ra⟩
        rw [hρf]
        exact r1.restore e2 hLn (r3.sig (fun i hi => (wipe_out hi).symm) (wipe_length σ vs).symm hn hLn)
    · cases hz
/-- [elt for tg in iter if ..] -/
def mLc (src : Ev (List D)) (vs : List Nat) (t : D → VEnv → Option VEnv) (tt : Ev Bool) (te : Ev D) : Ev D := fun ρ => (mLcL src vs t tt te ρ).bind fun zs ρf => .ok (.lst zs) ρf
theorem lcGo_ok {vs : List Nat} {t : D → VEnv → Option VEnv} {tt : Ev Bool} {te : Ev D} : ∀ {ds acc : List D} {ρ : VEnv} {c : Nat} {es : List D} {ρ' : VEnv}, lcGo vs t tt te ds acc ρ ≠ .ex c es ρ'
  | [], acc, ρ, c, es, ρ' => by intro h; cases h
  | d :: ds, acc, ρ, c, es, ρ' => by
    intro h
    simp only [lcGo] at h
    cases q2 : t d ρ with
    | none => rw [q2] at h; cases h
    | some ρ2 =>
      rw [q2] at h; dsimp only at h
      cases q3 : tt ρ2 with
      | stuck => rw [q3] at h; cases h
      | ex c ds ρ3 => rw [q3] at h; cases h
      | ok t3 ρ3 =>
        rw [q3] at h
        cases t3 with
        | false => exact lcGo_ok h
        | true =>
          dsimp only at h
          cases q4 : te ρ3 with
          | stuck => rw [q4] at h; cases h
          | ex c ds ρ4 => rw [q4] at h; cases h
          | ok y4 ρ4 =>
            rw [q4] at h; dsimp only at h
            split at h
            · exact lcGo_ok h
            · cases h
theorem je_lc {src : Ev (List D)} {vs ws : List Nat} {t : D → VEnv → Option VEnv} {tt : Ev Bool} {te : Ev D} {scope : Scope} {own : List (Str × Nat)} (hc : X.calm = true) (hN : X.N.Nodup) (hi : JI T X W tg iter src) (ok : BlkOk X.N X.env.scope scope own) (hv : own.map (·.2) = vs)
    (hg : ∀ (s : Shared) (H : Hp) (C : Addr) (cl : List (Str × Addr)) (fp : List Addr), JG T (X.blk s H scope (compEnvC scope cl C X.env) fp) tg ws t)
    (ht : ∀ (s : Shared) (H : Hp) (C : Addr) (cl : List (Str × Addr)) (fp : List Addr), JTs T (X.blk s H scope (compEnvC scope cl C X.env) fp) W0 ifs tt)
    (he : ∀ (s : Shared) (H : Hp) (C : Addr) (cl : List (Str × Addr)) (fp : List Addr), JE T (X.blk s H scope (compEnvC scope cl C X.env) fp) W0 elt te) (hws : ∀ i ∈ ws, i ∈ vs)
    (hf : ∀ x, foldedSetIterable iter X.env x = pure x := by intro _; rfl) : JE T X W (.ListComp elt [⟨tg, iter, ifs, 0⟩] scope pos) (mLc src vs t tt te) := fun ρ => by
  subst hv
  have rule := pe_lc (pos := pos) (g := rdG X.K T ws t) (tt := fun σ H Q => ∃ ρ, rdT X.K T W0 ρ (tt ρ) σ H Q) (te := fun σ H Q => ∃ ρ, rdE X.K T W0 ρ (te ρ) σ H Q) hc hN (hi ρ) ok (fun s H C cl fp => hg s H C cl fp)
    (fun s H C cl fp => ⟨fun pins s' σ' H' Q' I ⟨ρ', q⟩ => (ht s H C cl fp ρ').run pins s' σ' H' Q' I q⟩) (fun s H C cl fp => ⟨fun pins s' σ' H' Q' I ⟨ρ', q⟩ => (he s H C cl fp ρ').run pins s' σ' H' Q' I q⟩) hf
  refine pe_weak rule fun σ H Q q => ?_
  unfold mLc at q
  cases q1 : mLcL src (own.map (·.2)) t tt te ρ with
  | stuck => rw [q1] at q; exact q.elim
  | ex c ds ρ1 =>
    rw [q1] at q
    unfold mLcL at q1
    cases q2 : src ρ with
    | stuck => rw [q2] at q1; cases q1
    | ex c' ds' ρ2 => rw [q2] at q1; cases q1; exact q
    | ok ds' ρ2 =>
      rw [q2] at q1
      simp only [R.bind_ok] at q1
      split at q1
      · cases q5 : lcGo (own.map (·.2)) t tt te ds' [] (wipeE ρ2 (own.map (·.2))) with
        | stuck => rw [q5] at q1; cases q1
        | ex c ds ρ1 => exact absurd q5 lcGo_ok
        | ok z ρe => rw [q5] at q1; cases q1
      · cases q1
  | ok zs ρf =>
    rw [q1] at q
    obtain ⟨F, Z, L, r, k⟩ := q
    exact lc_coreV hws q1 r fun D0 acc F' H' e hz r' ra => k _ _ H' (e.trans (Ex.new (by
      cases q : F' D0 with
      | none => rfl
      | some u => have := r'.dis D0 u q; rw [upd_same] at this; cases this))) (r'.zF hz) ⟨D0, acc, rfl, upd_same, ra.mono (Ex.new (r'.zDrop hz).2.1)⟩
end
end VS
set_option maxHeartbeats 2000000
namespace VS
open PySem L2 PySem.Spec PyProof.Rows
section
variable {T : Txt} {X : Cx} {W : WX} {st : Stmt} {sts : List Stmt} {tg iter elt e a b c : Expr} {es ifs : List Expr} {pos p : Pos} {K : PySem.W.Frag}
/-- y = [..], the comprehension stored within its own frame -/
theorem js_setLc {i : Nat} {y : Str} {py spos : Pos} {src : Ev (List D)} {vs ws : List Nat} {t : D → VEnv → Option VEnv} {tt : Ev Bool} {te : Ev D} {scope : Scope} {own : List (Str × Nat)} (hc : X.calm = true) (hN : X.N.Nodup) (hy : X.N[i]? = some y) (hyl : X.env.scope.names.lookup y = some .local)
    (hsw : swapsWith (.ListComp elt [⟨tg, iter, ifs, 0⟩] scope pos) (some (.Name y py)) spos.line X.env = pure true) (hi : JI T X W tg iter src) (ok : BlkOk X.N X.env.scope scope own) (hv : own.map (·.2) = vs)
    (hg : ∀ (s : Shared) (H : Hp) (C : Addr) (cl : List (Str × Addr)) (fp : List Addr), JG T (X.blk s H scope (compEnvC scope cl C X.env) fp) tg ws t)
    (ht : ∀ (s : Shared) (H : Hp) (C : Addr) (cl : List (Str × Addr)) (fp : List Addr), JTs T (X.blk s H scope (compEnvC scope cl C X.env) fp) W0 ifs tt)
    (he : ∀ (s : Shared) (H : Hp) (C : Addr) (cl : List (Str × Addr)) (fp : List Addr), JE T (X.blk s H scope (compEnvC scope cl C X.env) fp) W0 elt te) (hws : ∀ i ∈ ws, i ∈ vs)
    (hf : ∀ x, foldedSetIterable iter X.env x = pure x := by intro _; rfl) : JS T X W (.Assign [.Name y py] (.ListComp elt [⟨tg, iter, ifs, 0⟩] scope pos) spos) (mAsg (mLc src vs t tt te) (setV i)) := fun ρ => by
  subst hv
  have rule := ps_setLc (i := i) (spos := spos) (py := py) (pos := pos) (g := rdG X.K T ws t) (tt := fun σ H Q => ∃ ρ, rdT X.K T W0 ρ (tt ρ) σ H Q) (te := fun σ H Q => ∃ ρ, rdE X.K T W0 ρ (te ρ) σ H Q) hc hN hy hyl hsw (hi ρ) ok (fun s H C cl fp => hg s H C cl fp)
    (fun s H C cl fp => ⟨fun pins s' σ' H' Q' I ⟨ρ', q⟩ => (ht s H C cl fp ρ').run pins s' σ' H' Q' I q⟩) (fun s H C cl fp => ⟨fun pins s' σ' H' Q' I ⟨ρ', q⟩ => (he s H C cl fp ρ').run pins s' σ' H' Q' I q⟩) hf
  refine ps_weak rule fun N σ H q => ?_
  obtain ⟨F, Z, L, r, k⟩ := q
  unfold mAsg mLc at k
  cases q1 : mLcL src (own.map (·.2)) t tt te ρ with
  | stuck => rw [q1] at k; exact k.elim
  | ex c ds ρ1 =>
    rw [q1] at k
    unfold mLcL at q1
    cases q2 : src ρ with
    | stuck => rw [q2] at q1; cases q1
    | ex c' ds' ρ2 => rw [q2] at q1; cases q1; exact ⟨F, Z, L, r, fun cls dd F' H' e r' x => k cls dd σ F' H' e r' x⟩
    | ok ds' ρ2 =>
      rw [q2] at q1
      simp only [R.bind_ok] at q1
      split at q1
      · cases q5 : lcGo (own.map (·.2)) t tt te ds' [] (wipeE ρ2 (own.map (·.2))) with
        | stuck => rw [q5] at q1; cases q1
        | ex c ds ρ1 => exact absurd q5 lcGo_ok
        | ok z ρe => rw [q5] at q1; cases q1
      · cases q1
  | ok zs ρf =>
    rw [q1] at k
    simp only [R.bind_ok, R.thenS_ok] at k
    refine lc_coreV hws q1 r fun D0 acc F' H' e hz r' ra => ?_
    have fn := (r'.zDrop hz).2.1
    have e2 : Ex F (upd F' D0 (.lst acc)) := e.trans (Ex.new fn)
    split at k
    · rename_i ρ2 q2
      exact k _ _ H' e2 ((r'.zF hz).setV q2 ⟨D0, acc, rfl, upd_same, ra.mono (Ex.new fn)⟩)
    · exact k.elim
/-! ### fresh objects -/
def rdF (K : PySem.W.Frag) (T : Txt) (W : WX) (ρ : VEnv) : R MO → TE
  | .stuck => fun _ _ _ => False
  | .ok m ρ' => fun σ H Q => ∃ F Z L, Rel K T F Z L σ ρ H ∧ ∀ a o F' H', Ex F F' → Z a = none → Rel K T F' (upd Z a o) L σ ρ' H' → RepO K T F' m o → Q (.ref a) H'
  | .ex c ds ρ' => fun σ H _ => ∃ F Z L, Rel K T F Z L σ ρ H ∧ ∀ cls dd F' H', Ex F F' → Rel K T F' Z L σ ρ' H' → ExR K T F' cls dd c ds → W cls dd σ H'
def JF (T : Txt) (X : Cx) (W : WX) (e : Expr) (g : Ev MO) : Prop := ∀ ρ, PE X e (rdF X.K T W ρ (g ρ))
/-- let go at once -/
def mFrz (g : Ev MO) : Ev D := fun ρ => (g ρ).bind fun m ρ' => .ok m.frz ρ'
theorem je_of_jf {g : Ev MO} (h : JF T X W e g) : JE T X W e (mFrz g) := fun ρ => by
  refine pe_weak (h ρ) fun σ H Q q => ?_
  unfold mFrz at q
  cases q1 : g ρ with
  | stuck => rw [q1] at q; exact q.elim
  | ex c ds ρ1 => rw [q1] at q; exact q
  | ok m ρ1 =>
    rw [q1] at q
    obtain ⟨F, Z, L, r, k⟩ := q
    refine ⟨F, Z, L, r, fun a o F' H' e hz r' x => ?_⟩
    have fn := (r'.zDrop hz).2.1
    exact k _ _ H' (e.trans (Ex.new fn)) (r'.zF hz) (x.frz fn)
def mLstO (g : Ev (List D)) : Ev MO := fun ρ => (g ρ).bind fun ds ρ' => if ds.length ≤ lim then .ok (.lst ds) ρ' else .stuck
theorem jf_lst {g : Ev (List D)} (h : JA T X W es g) : JF T X W (.List es pos) (mLstO g) := fun ρ => by
  have p1 := h ρ
  unfold mLstO
  cases q1 : g ρ with
  | stuck => exact pe_no
  | ex c ds ρ1 => rw [q1] at p1; exact pe_weak (pe_lst p1) fun σ H Q q => q
  | ok ds ρ1 =>
    rw [q1] at p1
    simp only [R.bind_ok]
    split
    · rename_i hz
      refine pe_weak (pe_lst p1) fun σ H Q ⟨F, Z, L, r, k⟩ => ⟨F, Z, L, r, fun vs F1 H1 e1 r1 x1 => ⟨by rw [x1.length]; exact le_line hz, fun p hp => ?_⟩⟩
      exact k p (.lst vs) F1 _ e1 (r1.exZ.none hp) (r1.zNew hp) ⟨vs, rfl, x1⟩
    · exact pe_no
def mDictO : Ev MO := fun ρ => .ok (.dct []) ρ
theorem jf_dict : JF T X W (.Dict [] [] pos) mDictO := fun ρ => pe_weak pe_dnewK fun σ H Q ⟨F, Z, L, r, k⟩ p hp => k p (.dK []) F _ (Ex.refl F) (r.exZ.none hp) (r.zNew hp) ⟨[], rfl, rfl⟩
def mLcO (src : Ev (List D)) (vs : List Nat) (t : D → VEnv → Option VEnv) (tt : Ev Bool) (te : Ev D) : Ev MO := fun ρ => (mLcL src vs t tt te ρ).bind fun zs ρf => .ok (.lst zs) ρf
/-- list(x) -/
def listO (d : D) : Option MO := match d with
  | .tup xs => some (.lst xs)
  | .lst xs => some (.lst xs)
  | .frl xs => some (.lst xs)
  | _ => none
def mListO (g : Ev D) : Ev MO := fun ρ => (g ρ).bind fun d ρ' => R.of (listO d) ρ'
theorem jf_list {g : Ev D} (rule : ∀ ta, PA X [a] ta → PE X e (tCB (rLst1 X.K) ta)) (ha : JB T X W a g) (hs : starEach [a] X.env = (false, eval a X.env) :: starEach [] X.env := by rfl) : JF T X W e (mListO g) := fun ρ => by
  have p1 := ha ρ
  unfold mListO
  cases q1 : g ρ with
  | stuck => exact pe_no
  | ex c ds ρ1 => rw [q1] at p1; exact pe_weak (rule _ (pa_cons p1 pa_nil hs)) fun σ H Q q => q
  | ok d ρ1 =>
    rw [q1] at p1
    simp only [R.bind_ok]
    cases d with
    | tup xs =>
      refine pe_weak (rule _ (pa_cons p1 pa_nil hs)) fun σ H Q ⟨F, Z, L, r, k⟩ => ⟨F, Z, L, r, fun v F1 H1 e1 r1 x1 => ?_⟩
      obtain ⟨a, vs, rfl, h1, rr⟩ := x1
      exact ⟨a, vs, rfl, .inr (r1.exF.sqT h1), fun p hp => k p (.lst vs) F1 _ e1 (r1.exZ.none hp) (r1.zNew hp) ⟨vs, rfl, rr⟩⟩
    | lst xs =>
      refine pe_weak (rule _ (pa_cons p1 pa_nil hs)) fun σ H Q ⟨F, Z, L, r, k⟩ => ⟨F, Z, L, r, fun v F1 H1 e1 r1 x1 => ?_⟩
      obtain ⟨a, vs, rfl, h1, rr⟩ := x1
      exact ⟨a, vs, rfl, .inl (SqL.of h1), fun p hp => k p (.lst vs) F1 _ e1 (r1.exZ.none hp) (r1.zNew hp) ⟨vs, rfl, rr⟩⟩
    | frl xs =>
      refine pe_weak (rule _ (pa_cons p1 pa_nil hs)) fun σ H Q ⟨F, Z, L, r, k⟩ => ⟨F, Z, L, r, fun v F1 H1 e1 r1 x1 => ?_⟩
      obtain ⟨a, vs, rfl, h1, rr⟩ := x1
      exact ⟨a, vs, rfl, .inl (r1.exF.sqL h1), fun p hp => k p (.lst vs) F1 _ e1 (r1.exZ.none hp) (r1.zNew hp) ⟨vs, rfl, rr⟩⟩
    | _ => exact pe_no
/-- xs + ys, a new list -/
def addO : D → D → Option MO
  | .lst xs, .lst ys => if xs.length + ys.length ≤ lim then some (.lst (xs ++ ys)) else none
  | _, _ => none
def mAddO (ga gb : Ev D) : Ev MO := fun ρ => (ga ρ).bind fun x ρ1 => (gb ρ1).bind fun y ρ2 => R.of (addO x y) ρ2
theorem jf_add {ga gb : Ev D} (ha : JE T X W a ga) (hb : JE T X W b gb) : JF T X W (.BinOp a .Add b pos) (mAddO ga gb) := fun ρ => by
  have h1 := ha ρ
  unfold mAddO
  cases q1 : ga ρ with
  | stuck => exact pe_no
  | ex c ds ρ1 =>
    rw [q1] at h1
    exact pe_weak (pe_op op_cat h1 pe_no) fun σ H Q h => h
  | ok x ρ1 =>
    rw [q1] at h1
    have h2 := hb ρ1
    simp only [R.bind_ok]
    cases q2 : gb ρ1 with
    | stuck => exact pe_no
    | ex c ds ρ2 =>
      rw [q2] at h2
      exact pe_weak (pe_op op_cat h1 h2) fun σ H Q ⟨F, Z, L, r, k⟩ => ⟨F, Z, L, r, fun v F1 H1 e1 r1 p1 => ⟨F1, Z, L, r1, fun cls dd F2 H2 e2 r2 x2 => k cls dd F2 H2 (e1.trans e2) r2 x2⟩⟩
    | ok y ρ2 =>
      rw [q2] at h2
      simp only [R.bind_ok]
      cases q3 : addO x y with
      | none => exact pe_no
      | some m =>
        unfold addO at q3
        split at q3
        · split at q3
          · rename_i hz
            cases q3
            refine pe_weak (pe_op op_cat h1 h2) fun σ H Q ⟨F, Z, L, r, k⟩ => ⟨F, Z, L, r, fun v F1 H1 e1 r1 p1 => ⟨F1, Z, L, r1, fun w F2 H2 e2 r2 p2 => ?_⟩⟩
            obtain ⟨a1, vs1, rfl, g1, rr1⟩ := p1
            obtain ⟨a2, vs2, rfl, g2, rr2⟩ := p2
            exact ⟨a1, a2, vs1, vs2, rfl, rfl, r2.exF _ _ (e2 _ _ g1), r2.exF _ _ g2, by rw [rr1.length, rr2.length]; exact le_line hz, fun p hp => k p _ F2 _ (e1.trans e2) (r2.exZ.none hp) (r2.zNew hp) ⟨_, rfl, (rr1.mono e2).append rr2⟩⟩
          · cases q3
        · cases q3
/-! ### owned slots -/
def setO (i : Nat) (m : MO) (ρ : VEnv) : Option VEnv := match ρ[i]? with
  | some (some (Sl.own true _)) => none
  | some _ => some (ρ.set i (some (Sl.own false m)))
  | none => none
end
section
variable {K : PySem.W.Frag} {T : Txt} {F Z H : Hp} {L : Nat → Option Addr} {σ : L2.St} {ρ ρ' : VEnv}
theorem setO_some {i : Nat} {m : MO} (h : setO i m ρ = some ρ') : i < ρ.length ∧ (∀ m, ρ[i]? ≠ some (some (Sl.own true m))) ∧ ρ' = ρ.set i (some (Sl.own false m)) := by
  unfold setO at h
  split at h
  · cases h
  · rename_i o hne q
    cases h
    exact ⟨(List.getElem?_eq_some_iff.mp q).1, fun m e => by rw [q] at e; cases e; exact hne m rfl, rfl⟩
  · cases h
theorem Rel.setO {i : Nat} {m : MO} {a : Addr} {o : HO} (r : Rel K T F (upd Z a o) L σ ρ H) (hz : Z a = none) (h : VS.setO i m ρ = some ρ') (p : RepO K T F m o) : Rel K T F Z L (σ.set i (some (.ref a))) ρ' H := by
  obtain ⟨hi, hl, rfl⟩ := setO_some h
  obtain ⟨r0, hF, hH, hno⟩ := r.zDrop hz
  have hs : i < σ.length := by rw [← r.len]; exact hi
  refine ⟨r0.exF, r0.exZ, r0.dis, by simp [r.len], fun j d' q => ?_, fun j l m q => ?_, fun j k l m l' m' a' q1 q2 q3 q4 => ?_, fun j a' q => ?_⟩
  · by_cases hj : j = i
    · subst hj; rw [List.getElem?_set_self hi] at q; cases q
    · rw [List.getElem?_set_ne (Ne.symm hj)] at q ⊢
      exact r0.val j d' q
  · by_cases hj : j = i
    · subst hj
      rw [List.getElem?_set_self hi] at q; cases q
      exact ⟨a, o, List.getElem?_set_self hs, hF, hz, hH, p⟩
    · rw [List.getElem?_set_ne (Ne.symm hj)] at q ⊢
      exact r0.own j l m q
  · by_cases hj : j = i
    · by_cases hk : k = i
      · rw [hj, hk]
      · subst hj
        rw [List.getElem?_set_self hs] at q3
        rw [List.getElem?_set_ne (Ne.symm hk)] at q2 q4
        cases q3
        exact absurd q4 (hno k _ _ q2)
    · by_cases hk : k = i
      · subst hk
        rw [List.getElem?_set_self hs] at q4
        rw [List.getElem?_set_ne (Ne.symm hj)] at q1 q3
        cases q4
        exact absurd q3 (hno j _ _ q1)
      · rw [List.getElem?_set_ne (Ne.symm hj)] at q1 q3
        rw [List.getElem?_set_ne (Ne.symm hk)] at q2 q4
        exact r0.sep j k l m l' m' a' q1 q2 q3 q4
  · obtain ⟨h1, m, h2⟩ := r0.lent j a' q
    have hj : j ≠ i := fun e => by subst e; exact hl m h2
    rw [List.getElem?_set_ne (Ne.symm hj), List.getElem?_set_ne (Ne.symm hj)]
    exact ⟨h1, m, h2⟩
/-- an owned object changed where it stands -/
theorem Rel.ownSet {i : Nat} {l : Bool} {m m' : MO} {a : Addr} {o' : HO} (r : Rel K T F Z L σ ρ H) (hi : ρ[i]? = some (some (Sl.own l m))) (ha : σ[i]? = some (some (.ref a))) (p : RepO K T F m' o') : Rel K T F Z L σ (ρ.set i (some (Sl.own l m'))) (upd H a o') := by
  obtain ⟨a0, o0, h1, h2, h3, h4, h5⟩ := r.own i l m hi
  have ea : a0 = a := by rw [ha] at h1; cases h1; rfl
  subst ea
  have hlt : i < ρ.length := (List.getElem?_eq_some_iff.mp hi).1
  have old : ∀ {j : Nat} {l' : Bool} {n : MO}, (ρ.set i (some (Sl.own l m')))[j]? = some (some (Sl.own l' n)) → ∃ n', ρ[j]? = some (some (Sl.own l' n')) := fun {j l' n} q => by
    by_cases hj : j = i
    · subst hj; rw [List.getElem?_set_self hlt] at q; cases q; exact ⟨m, hi⟩
    · rw [List.getElem?_set_ne (Ne.symm hj)] at q; exact ⟨n, q⟩
  refine ⟨fun b u q => ?_, fun b u q => ?_, r.dis, by simp [r.len], fun j d q => ?_, fun j l' n q => ?_, fun j k l1 n1 l2 n2 b q1 q2 q3 q4 => ?_, fun j b q => ?_⟩
  · rw [upd_ne (ne_of_none q h2)]; exact r.exF b u q
  · rw [upd_ne (ne_of_none q h3)]; exact r.exZ b u q
  · by_cases hj : j = i
    · subst hj; rw [List.getElem?_set_self hlt] at q; cases q
    · rw [List.getElem?_set_ne (Ne.symm hj)] at q; exact r.val j d q
  · by_cases hj : j = i
    · subst hj
      rw [List.getElem?_set_self hlt] at q; cases q
      exact ⟨a0, o', h1, h2, h3, upd_same, p⟩
    · rw [List.getElem?_set_ne (Ne.symm hj)] at q
      obtain ⟨b, u, g1, g2, g3, g4, g5⟩ := r.own j l' n q
      have nb : b ≠ a0 := fun e => hj (r.sep j i _ _ _ _ a0 q hi (e ▸ g1) h1)
      exact ⟨b, u, g1, g2, g3, by rw [upd_ne nb]; exact g4, g5⟩
  · obtain ⟨n1', q1⟩ := old q1
    obtain ⟨n2', q2⟩ := old q2
    exact r.sep j k _ _ _ _ b q1 q2 q3 q4
  · obtain ⟨g1, n, g2⟩ := r.lent j b q
    refine ⟨g1, ?_⟩
    by_cases hj : j = i
    · subst hj
      rw [hi] at g2; cases g2
      exact ⟨m', List.getElem?_set_self hlt⟩
    · exact ⟨n, by rw [List.getElem?_set_ne (Ne.symm hj)]; exact g2⟩
end
section
variable {T : Txt} {X : Cx} {W : WX} {st : Stmt} {sts : List Stmt} {tg iter elt e a b c : Expr} {es ifs : List Expr} {pos p : Pos} {K : PySem.W.Frag}
def R.thenM (r : R MO) (k : MO → VEnv → RS) : RS := match r with
  | .ok d ρ => k d ρ
  | .ex c ds ρ => .ex c ds ρ
  | .stuck => .stuck
def mSetO (i : Nat) (g : Ev MO) : VEnv → RS := fun ρ => (g ρ).thenM fun m ρ1 => match setO i m ρ1 with
  | some ρ2 => .nx ρ2
  | none => .stuck
/-- x = (a fresh object), owned -/
theorem js_setF {i : Nat} {x : Str} {p' : Pos} {g : Ev MO} (hN : X.N.Nodup) (hi : X.N[i]? = some x) (hx : Loc X.env.scope x) (h : JF T X W e g) (hs : swapsWith e (some (.Name x p')) pos.line X.env = pure false := by rfl)
    (hf : X.fn x = true ∨ X.env.scope.names.lookup x = some .local := by first | exact .inl rfl | exact .inr rfl | assumption) : JS T X W (.Assign [.Name x p'] e pos) (mSetO i g) := fun ρ => by
  refine ps_weak (ps_set (i := i) hN hi hx (h ρ) hs hf) fun N σ H q => ?_
  obtain ⟨F, Z, L, r, k⟩ := q
  unfold mSetO at k
  cases q1 : g ρ with
  | stuck => rw [q1] at k; exact k.elim
  | ex c ds ρ1 => rw [q1] at k; exact ⟨F, Z, L, r, fun cls dd F' H' e r' x => k cls dd σ F' H' e r' x⟩
  | ok m ρ1 =>
    rw [q1] at k
    refine ⟨F, Z, L, r, fun a o F' H' e hz r' x => ?_⟩
    simp only [R.thenM] at k
    split at k
    · rename_i ρ2 q2
      exact k _ F' H' e (r'.setO hz q2 x)
    · exact k.elim
/-- return of a fresh object -/
def mRetF (g : Ev MO) : VEnv → RS := fun ρ => (g ρ).thenM fun m ρ1 => .rn m ρ1
theorem js_retF {g : Ev MO} (h : JF T X W e g) : JS T X W (.Return (some e) pos) (mRetF g) := fun ρ => by
  refine ps_weak (ps_ret (h ρ)) fun N σ H q => ?_
  obtain ⟨F, Z, L, r, k⟩ := q
  unfold mRetF at k
  cases q1 : g ρ with
  | stuck => rw [q1] at k; exact k.elim
  | ex c ds ρ1 => rw [q1] at k; exact ⟨F, Z, L, r, fun cls dd F' H' e r' x => k cls dd σ F' H' e r' x⟩
  | ok m ρ1 =>
    rw [q1] at k
    refine ⟨F, Z, L, r, fun a o F' H' e hz r' x => ?_⟩
    obtain ⟨r0, hF, hH, hno⟩ := r'.zDrop hz
    refine k a o σ F' H' e r0 hF hz (fun i q => ?_) hH x
    obtain ⟨h1, m', h2⟩ := r0.lent i a q
    exact hno i _ _ h2 h1
/-- x.append(e) -/
def mAppend (i : Nat) (g : Ev D) : VEnv → RS := fun ρ => match ρ[i]? with
  | some (some (Sl.own _ (.lst _))) => (g ρ).thenS fun d ρ' => match ρ'[i]? with
    | some (some (Sl.own l (.lst xs))) => if xs.length < lim then .nx (ρ'.set i (some (Sl.own l (.lst (xs ++ [d]))))) else .stuck
    | _ => .stuck
  | _ => .stuck
theorem js_append {i : Nat} {g : Ev D} {apos cpos : Pos} (ho : PE X a (tVar i)) (h : JE T X W e g) (hs : swapsWith (.Call (.Attribute a "append" apos) [e] [] cpos) none pos.line X.env = pure false := by rfl) (h1 : attributeBase a "append" X.env (eval a X.env) = eval a X.env := by rfl)
    (h2 : (((backTo cpos (starEach (e :: []) X.env)).all fun x => !x.fst) && (backToKw cpos (keywordEach [] X.env)).all fun x => x.fst.isSome) && decide (((e :: []).length + ([] : List Keyword).length + if ([] : List Keyword).isEmpty = true then 0 else 1) < 30) = true := by rfl)
    (h3 : (apos.endLine == cpos.line) = true := by rfl) (h4 : starEach (e :: []) X.env = (false, eval e X.env) :: starEach [] X.env := by rfl) (h5 : (backTo cpos (starEach [] X.env)).any (·.1) = false := by rfl) :
    JS T X W (.Expr (.Call (.Attribute a "append" apos) [e] [] cpos) pos) (mAppend i g) := fun ρ => by
  have p1 := h ρ
  have rule := ps_expr (pos := pos) (pe_bm PySem.F.plainAttrs_list PySem.F.slot_list_append PySem.F.type_list_append mt_append ho (pa_cons p1 pa_nil h4) h1 h2 h3 h4 h5) hs
  refine ps_weak rule fun N σ H q => ?_
  obtain ⟨F, Z, L, r, k⟩ := q
  unfold mAppend at k
  split at k
  · rename_i l0 xs0 q0
    obtain ⟨a0, o0, g1, g2, g3, g4, vs0, g5, g6⟩ := r.own i l0 _ q0
    refine ⟨_, g1, .inl ⟨rfl, vs0, SqL.of (by rw [g4, g5])⟩, ?_⟩
    refine thenS_rd ⟨F, Z, L, r, k⟩ fun d ρ1 v F1 Z1 L1 H1 r1 pv k1 => ?_
    split at k1
    · rename_i l xs q1
      obtain ⟨a1, o1, f1, f2, f3, f4, vs1, f5, f6⟩ := r1.own i l _ q1
      have ea : a1 = a0 := by rw [g1] at f1; cases f1; rfl
      subst ea
      split at k1
      · rename_i hlen
        refine ⟨a1, vs1, v, rfl, rfl, by rw [f4, f5], by rw [f6.length]; exact lt_line hlen, ?_⟩
        exact k1 σ F1 _ (Ex.refl F1) (r1.ownSet q1 f1 ⟨_, rfl, f6.append (Reps.one pv)⟩)
      · exact k1.elim
    · exact k1.elim
  · exact k.elim
/-- x[k] = .., x owned: as a target -/
def tgItem (i : Nat) (gk : Ev D) (d : D) (ρ : VEnv) : Option VEnv := match ρ[i]? with
  | some (some (Sl.own _ (.lst _))) => match gk ρ with
    | .ok (.int k) ρ' => match ρ'[i]? with
      | some (some (Sl.own l (.lst xs))) => (ixN xs.length k).map fun j => ρ'.set i (some (Sl.own l (.lst (xs.set j d))))
      | _ => none
    | _ => none
  | _ => none
theorem jg_item {i : Nat} {gk : Ev D} (ho : PE X a (tVar i)) (hk : JE T X W b gk)
    (ha : ∀ v, assign (.Subscript a b pos) X.env v = (do
      let ov ← holding [v] (eval a X.env)
      let iv ← holding [v, ov] (eval b X.env)
      standAt pos
      holding [v, ov, iv] (setItem ov iv v)
      release [v, ov, iv] []) := by intro _; rfl) : JG T X (.Subscript a b pos) [] (tgItem i gk) := by
  refine pg_weak (pg_sub ho (pe_all hk) set_list ha) fun v σ H Q ⟨d, ρ, ρ', F, Z, L, q, r, p, k⟩ => ?_
  unfold tgItem at q
  split at q
  · rename_i l0 xs0 q0
    obtain ⟨a0, o0, g1, g2, g3, g4, vs0, g5, g6⟩ := r.own i l0 _ q0
    refine ⟨_, g1, ρ, ?_⟩
    cases q1 : gk ρ with
    | stuck => rw [q1] at q; cases q
    | ex c ds ρ1 => rw [q1] at q; cases q
    | ok x ρ1 =>
      rw [q1] at q
      refine ⟨F, Z, L, r, fun w F1 H1 e1 r1 px => ?_⟩
      cases x with
      | int n =>
        dsimp only at q
        split at q
        · rename_i l xs q2
          obtain ⟨a1, o1, f1, f2, f3, f4, vs1, f5, f6⟩ := r1.own i l _ q2
          have ea : a1 = a0 := by rw [g1] at f1; cases f1; rfl
          subst ea
          cases q3 : ixN xs.length n with
          | none => rw [q3] at q; cases q
          | some j =>
            rw [q3] at q
            cases q
            refine ⟨a1, vs1, n, j, rfl, px, by rw [f4, f5], by rw [f6.length]; exact q3, ?_⟩
            exact k σ F1 _ (fun _ _ => rfl) rfl e1 (r1.ownSet q2 f1 ⟨_, rfl, f6.set (p.mono e1) j⟩)
        · cases q
      | _ => cases q
  · cases q
theorem js_setLcO {i : Nat} {y : Str} {py spos : Pos} {src : Ev (List D)} {vs ws : List Nat} {t : D → VEnv → Option VEnv} {tt : Ev Bool} {te : Ev D} {scope : Scope} {own : List (Str × Nat)} (hc : X.calm = true) (hN : X.N.Nodup) (hy : X.N[i]? = some y) (hyl : X.env.scope.names.lookup y = some .local)
    (hsw : swapsWith (.ListComp elt [⟨tg, iter, ifs, 0⟩] scope pos) (some (.Name y py)) spos.line X.env = pure true) (hi : JI T X W tg iter src) (ok : BlkOk X.N X.env.scope scope own) (hv : own.map (·.2) = vs)
    (hg : ∀ (s : Shared) (H : Hp) (C : Addr) (cl : List (Str × Addr)) (fp : List Addr), JG T (X.blk s H scope (compEnvC scope cl C X.env) fp) tg ws t)
    (ht : ∀ (s : Shared) (H : Hp) (C : Addr) (cl : List (Str × Addr)) (fp : List Addr), JTs T (X.blk s H scope (compEnvC scope cl C X.env) fp) W0 ifs tt)
    (he : ∀ (s : Shared) (H : Hp) (C : Addr) (cl : List (Str × Addr)) (fp : List Addr), JE T (X.blk s H scope (compEnvC scope cl C X.env) fp) W0 elt te) (hws : ∀ i ∈ ws, i ∈ vs)
    (hf : ∀ x, foldedSetIterable iter X.env x = pure x := by intro _; rfl) : JS T X W (.Assign [.Name y py] (.ListComp elt [⟨tg, iter, ifs, 0⟩] scope pos) spos) (mSetO i (mLcO src vs t tt te)) := fun ρ => by
  subst hv
  have rule := ps_setLc (i := i) (spos := spos) (py := py) (pos := pos) (g := rdG X.K T ws t) (tt := fun σ H Q => ∃ ρ, rdT X.K T W0 ρ (tt ρ) σ H Q) (te := fun σ H Q => ∃ ρ, rdE X.K T W0 ρ (te ρ) σ H Q) hc hN hy hyl hsw (hi ρ) ok (fun s H C cl fp => hg s H C cl fp)
    (fun s H C cl fp => ⟨fun pins s' σ' H' Q' I ⟨ρ', q⟩ => (ht s H C cl fp ρ').run pins s' σ' H' Q' I q⟩) (fun s H C cl fp => ⟨fun pins s' σ' H' Q' I ⟨ρ', q⟩ => (he s H C cl fp ρ').run pins s' σ' H' Q' I q⟩) hf
  refine ps_weak rule fun N σ H q => ?_
  obtain ⟨F, Z, L, r, k⟩ := q
  unfold mSetO mLcO at k
  cases q1 : mLcL src (own.map (·.2)) t tt te ρ with
  | stuck => rw [q1] at k; exact k.elim
  | ex c ds ρ1 =>
    rw [q1] at k
    unfold mLcL at q1
    cases q2 : src ρ with
    | stuck => rw [q2] at q1; cases q1
    | ex c' ds' ρ2 => rw [q2] at q1; cases q1; exact ⟨F, Z, L, r, fun cls dd F' H' e r' x => k cls dd σ F' H' e r' x⟩
    | ok ds' ρ2 =>
      rw [q2] at q1
      simp only [R.bind_ok] at q1
      split at q1
      · cases q5 : lcGo (own.map (·.2)) t tt te ds' [] (wipeE ρ2 (own.map (·.2))) with
        | stuck => rw [q5] at q1; cases q1
        | ex c ds ρ1 => exact absurd q5 lcGo_ok
        | ok z ρe => rw [q5] at q1; cases q1
      · cases q1
  | ok zs ρf =>
    rw [q1] at k
    simp only [R.bind_ok, R.thenM] at k
    refine lc_coreV hws q1 r fun D0 acc F' H' e hz r' ra => ?_
    split at k
    · rename_i ρ2 q2
      exact k _ F' H' e (r'.setO hz q2 ⟨acc, rfl, ra⟩)
    · exact k.elim
theorem jf_lc {src : Ev (List D)} {vs ws : List Nat} {t : D → VEnv → Option VEnv} {tt : Ev Bool} {te : Ev D} {scope : Scope} {own : List (Str × Nat)} (hc : X.calm = true) (hN : X.N.Nodup) (hi : JI T X W tg iter src) (ok : BlkOk X.N X.env.scope scope own) (hv : own.map (·.2) = vs)
    (hg : ∀ (s : Shared) (H : Hp) (C : Addr) (cl : List (Str × Addr)) (fp : List Addr), JG T (X.blk s H scope (compEnvC scope cl C X.env) fp) tg ws t)
    (ht : ∀ (s : Shared) (H : Hp) (C : Addr) (cl : List (Str × Addr)) (fp : List Addr), JTs T (X.blk s H scope (compEnvC scope cl C X.env) fp) W0 ifs tt)
    (he : ∀ (s : Shared) (H : Hp) (C : Addr) (cl : List (Str × Addr)) (fp : List Addr), JE T (X.blk s H scope (compEnvC scope cl C X.env) fp) W0 elt te) (hws : ∀ i ∈ ws, i ∈ vs)
    (hf : ∀ x, foldedSetIterable iter X.env x = pure x := by intro _; rfl) : JF T X W (.ListComp elt [⟨tg, iter, ifs, 0⟩] scope pos) (mLcO src vs t tt te) := fun ρ => by
  subst hv
  have rule := pe_lc (pos := pos) (g := rdG X.K T ws t) (tt := fun σ H Q => ∃ ρ, rdT X.K T W0 ρ (tt ρ) σ H Q) (te := fun σ H Q => ∃ ρ, rdE X.K T W0 ρ (te ρ) σ H Q) hc hN (hi ρ) ok (fun s H C cl fp => hg s H C cl fp)
    (fun s H C cl fp => ⟨fun pins s' σ' H' Q' I ⟨ρ', q⟩ => (ht s H C cl fp ρ').run pins s' σ' H' Q' I q⟩) (fun s H C cl fp => ⟨fun pins s' σ' H' Q' I ⟨ρ', q⟩ => (he s H C cl fp ρ').run pins s' σ' H' Q' I q⟩) hf
  refine pe_weak rule fun σ H Q q => ?_
  unfold mLcO at q
  cases q1 : mLcL src (own.map (·.2)) t tt te ρ with
  | stuck => rw [q1] at q; exact q.elim
  | ex c ds ρ1 =>
    rw [q1] at q
    unfold mLcL at q1
    cases q2 : src ρ with
    | stuck => rw [q2] at q1; cases q1
    | ex c' ds' ρ2 => rw [q2] at q1; cases q1; exact q
    | ok ds' ρ2 =>
      rw [q2] at q1
      simp only [R.bind_ok] at q1
      split at q1
      · cases q5 : lcGo (own.map (·.2)) t tt te ds' [] (wipeE ρ2 (own.map (·.2))) with
        | stuck => rw [q5] at q1; cases q1
        | ex c ds ρ1 => exact absurd q5 lcGo_ok
        | ok z ρe => rw [q5] at q1; cases q1
      · cases q1
  | ok zs ρf =>
    rw [q1] at q
    obtain ⟨F, Z, L, r, k⟩ := q
    exact lc_coreV hws q1 r fun D0 acc F' H' e hz r' ra => k D0 _ F' H' e hz r' ⟨acc, rfl, ra⟩
/-! ### while -/
def whileGo (t : Ev Bool) (body : VEnv → RS) : Nat → VEnv → RS
  | 0, _ => .stuck
  | n + 1, ρ => match t ρ with
    | .ok true ρ1 => match body ρ1 with
      | .nx ρ2 => whileGo t body n ρ2
      | .ct ρ2 => whileGo t body n ρ2
      | .bk ρ2 => .nx ρ2
      | r => r
    | .ok false ρ1 => .nx ρ1
    | .ex c ds ρ1 => .ex c ds ρ1
    | .stuck => .stuck
open Classical in
noncomputable def mWhile (t : Ev Bool) (body : VEnv → RS) : VEnv → RS := fun ρ => if h : ∃ n, whileGo t body n ρ ≠ .stuck then whileGo t body h.choose ρ else .stuck
theorem js_while {t : Ev Bool} {body : VEnv → RS} {ss : List Stmt} (hp : PassesOwn (model X.prog X.w) X.A X.env X.xe) (hc : JT T X W c t) (hb : JSs T X W ss body) : JS T X W (.While c ss [] pos) (mWhile t body) := fun ρ => by
  refine ps_weak (ps_while hp (pt_all hc) (pss_all hb)) fun N σ H q => ?_
  obtain ⟨F, Z, L, r, k⟩ := q
  unfold mWhile at k
  split at k
  · rename_i hex
    generalize hex.choose = n at k
    refine ⟨fun m σ H => ∃ ρ F', Rel X.K T F' Z L σ ρ H ∧ KS X.K T W F' Z L N (whileGo t body m ρ), ⟨n, ρ, F, r, k⟩, ?_⟩
    rintro m σ H ⟨ρ, F, r, k⟩
    cases m with
    | zero => exact k.elim
    | succ m =>
      refine ⟨ρ, ?_⟩
      simp only [whileGo] at k
      cases q1 : t ρ with
      | stuck => rw [q1] at k; exact k.elim
      | ex c ds ρ1 => rw [q1] at k; exact ⟨F, Z, L, r, fun cls dd F' H' e r' x => k cls dd σ F' H' e r' x⟩
      | ok b ρ1 =>
        rw [q1] at k
        cases b with
        | false => exact ⟨F, Z, L, r, fun F' H' e r' => iteF (k σ F' H' e r')⟩
        | true =>
          dsimp only at k
          refine ⟨F, Z, L, r, fun F' H' e r' => iteT ⟨fun σ' H' => ∃ ρ F', Rel X.K T F' Z L σ' ρ H' ∧ KS X.K T W F' Z L N (whileGo t body m ρ), fun σ' H' h => ⟨m, Nat.lt_succ_self m, h⟩, ρ1, F', Z, L, r', ?_⟩⟩
          cases q2 : body ρ1 with
          | stuck => rw [q2] at k; exact k
          | nx ρ2 => rw [q2] at k; exact fun σ4 F4 H4 e4 r4 => ⟨ρ2, F4, r4, (k.mono e).mono e4⟩
          | ct ρ2 => rw [q2] at k; exact fun σ4 F4 H4 e4 r4 => ⟨ρ2, F4, r4, (k.mono e).mono e4⟩
          | bk ρ2 => rw [q2] at k; exact fun σ4 F4 H4 e4 r4 => k σ4 F4 H4 (e.trans e4) r4
          | rt d ρ2 => rw [q2] at k; exact fun v σ4 F4 H4 e4 r4 p4 => k v σ4 F4 H4 (e.trans e4) r4 p4
          | rn d ρ2 => rw [q2] at k; exact fun a o σ4 F4 H4 e4 r4 => k a o σ4 F4 H4 (e.trans e4) r4
          | ex c ds ρ2 => rw [q2] at k; exact fun cls dd σ4 F4 H4 e4 r4 p4 => k cls dd σ4 F4 H4 (e.trans e4) r4 p4
  · exact k.elim
end
end VS
set_option maxHeartbeats 2000000
namespace VS
open PySem L2 PySem.Spec PyProof.Rows
/-! ### defs: arguments, answers -/
inductive Arg where
  | v (d : D) | l (m : MO)
inductive Res where
  | ok (d : D) | nw (m : MO) | ex (c : Nat) (ds : List D)
abbrev Fn := List Arg → Option (Res × List MO)
def slotOf : Arg → Option Sl
  | .v d => some (.val d)
  | .l m => some (.own true m)
def lentOf (vs : List V) (as : List Arg) : Nat → Option Addr := fun i => match as[i]?, vs[i]? with
  | some (.l _), some (.ref a) => some a
  | _, _ => none
def upArgs : List Arg → List MO → List Arg
  | [], _ => []
  | .v d :: as, ms => .v d :: upArgs as ms
  | .l _ :: as, m :: ms => .l m :: upArgs as ms
  | .l m :: as, [] => .l m :: upArgs as []
/-- the arguments stand, all else (Z) too -/
abbrev RelA (K : PySem.W.Frag) (T : Txt) (F Z : Hp) (vs : List V) (as : List Arg) (H : Hp) : Prop := Rel K T F Z (lentOf vs as) (vs.map some) (as.map slotOf) H
def KR (K : PySem.W.Frag) (T : Txt) (F Z : Hp) (vs : List V) (as : List Arg) (Q : VK) (E : XK) : Res → Prop
  | .ok d => ∀ v F' H, Ex F F' → RelA K T F' Z vs as H → Rep K T F' d v → Q v H
  | .nw m => ∀ a o F' H, Ex F F' → Z a = none → RelA K T F' (upd Z a o) vs as H → RepO K T F' m o → Q (.ref a) H
  | .ex c ds => ∀ cls dd F' H, Ex F F' → RelA K T F' Z vs as H → ExR K T F' cls dd c ds → E cls dd H
/-- the promise: it answers as G does -/
def spG (K : PySem.W.Frag) (T : Txt) (G : Fn) (n : Nat) : Sp := fun vs H Q E => ∃ F Z as r ms, vs.length = n ∧ RelA K T F Z vs as H ∧ G as = some (r, ms) ∧ KR K T F Z vs (upArgs as ms) Q E r
/-- what stood in the lent places at the end -/
def lents : Nat → List Arg → VEnv → Option (List MO)
  | _, [], _ => some []
  | i, .v _ :: as, ρ => lents (i + 1) as ρ
  | i, .l _ :: as, ρ => match ρ[i]? with
    | some (some (Sl.own true m)) => (lents (i + 1) as ρ).map (m :: ·)
    | _ => none
def startE (n : Nat) (as : List Arg) : VEnv := as.map slotOf ++ List.replicate (n - as.length) none
def runG (n : Nat) (h : VEnv → RS) : Fn := fun as => match h (startE n as) with
  | .nx ρ => (lents 0 as ρ).map fun ms => (.ok .non, ms)
  | .rt d ρ => (lents 0 as ρ).map fun ms => (.ok d, ms)
  | .rn m ρ => (lents 0 as ρ).map fun ms => (.nw m, ms)
  | .ex c ds ρ => (lents 0 as ρ).map fun ms => (.ex c ds, ms)
  | _ => none
section
variable {K : PySem.W.Frag} {T : Txt} {F F' Z H H' : Hp} {vs : List V} {as : List Arg}
theorem upArgs_length : ∀ (as : List Arg) (ms : List MO), (upArgs as ms).length = as.length
  | [], _ => rfl
  | .v d :: as, ms => by simp [upArgs, upArgs_length as ms]
  | .l _ :: as, m :: ms => by simp [upArgs, upArgs_length as ms]
  | .l m :: as, [] => by simp [upArgs, upArgs_length as []]
theorem upArgs_v : ∀ {as : List Arg} {ms : List MO} {i : Nat} {d : D}, (upArgs as ms)[i]? = some (.v d) ↔ as[i]? = some (.v d)
  | [], ms, i, d => by simp [upArgs]
  | .v d' :: as, ms, 0, d => by simp [upArgs]
  | .v d' :: as, ms, i + 1, d => by simpa [upArgs] using upArgs_v (as := as) (ms := ms) (i := i) (d := d)
  | .l _ :: as, m :: ms, 0, d => by simp [upArgs]
  | .l _ :: as, m :: ms, i + 1, d => by simpa [upArgs] using upArgs_v (as := as) (ms := ms) (i := i) (d := d)
  | .l m :: as, [], 0, d => by simp [upArgs]
  | .l m :: as, [], i + 1, d => by simpa [upArgs] using upArgs_v (as := as) (ms := []) (i := i) (d := d)
theorem upArgs_l : ∀ {as : List Arg} {ms : List MO} {i : Nat} {m : MO}, (upArgs as ms)[i]? = some (.l m) → ∃ m', as[i]? = some (.l m')
  | [], ms, i, m, h => by simp [upArgs] at h
  | .v d' :: as, ms, 0, m, h => by simp [upArgs] at h
  | .v d' :: as, ms, i + 1, m, h => by simpa using upArgs_l (as := as) (ms := ms) (i := i) (m := m) (by simpa [upArgs] using h)
  | .l m0 :: as, m1 :: ms, 0, m, h => ⟨m0, rfl⟩
  | .l _ :: as, m1 :: ms, i + 1, m, h => by simpa using upArgs_l (as := as) (ms := ms) (i := i) (m := m) (by simpa [upArgs] using h)
  | .l m0 :: as, [], 0, m, h => ⟨m0, rfl⟩
  | .l m0 :: as, [], i + 1, m, h => by simpa using upArgs_l (as := as) (ms := []) (i := i) (m := m) (by simpa [upArgs] using h)
theorem lentOf_up (vs : List V) (as : List Arg) (ms : List MO) : lentOf vs (upArgs as ms) = lentOf vs as := by
  funext i
  unfold lentOf
  cases q : as[i]? with
  | none =>
    have : (upArgs as ms)[i]? = none := by
      rw [List.getElem?_eq_none_iff] at q ⊢
      rw [upArgs_length]; exact q
    rw [this]
  | some x =>
    cases x with
    | v d => rw [upArgs_v.mpr q]
    | l m =>
      have hlt : i < (upArgs as ms).length := by rw [upArgs_length]; exact (List.getElem?_eq_some_iff.mp q).1
      have e : (upArgs as ms)[i]? = some ((upArgs as ms)[i]) := by simp [hlt]
      rw [e]
      cases q2 : (upArgs as ms)[i] with
      | v d => rw [q2] at e; rw [upArgs_v.mp e] at q; cases q
      | l m' =>
        cases vs[i]? with
        | none => rfl
        | some w => cases w <;> rfl
theorem lents_up : ∀ {as : List Arg} {ms : List MO} {ρ : VEnv} {k i : Nat} {m : MO}, lents k as ρ = some ms → (upArgs as ms)[i]? = some (.l m) → ρ[k + i]? = some (some (Sl.own true m))
  | [], ms, ρ, k, i, m, h, q => by simp [upArgs] at q
  | .v d :: as, ms, ρ, k, 0, m, h, q => by simp [upArgs] at q
  | .v d :: as, ms, ρ, k, i + 1, m, h, q => by
    have := lents_up (as := as) (ms := ms) (ρ := ρ) (k := k + 1) (i := i) (m := m) h (by simpa [upArgs] using q)
    rw [show k + (i + 1) = k + 1 + i by omega]; exact this
  | .l m0 :: as, ms, ρ, k, i, m, h, q => by
    simp only [lents] at h
    split at h
    · rename_i m1 q1
      cases q2 : lents (k + 1) as ρ with
      | none => rw [q2] at h; cases h
      | some ns =>
        rw [q2] at h
        cases h
        cases i with
        | zero => simp [upArgs] at q; subst q; exact q1
        | succ i =>
          have := lents_up (as := as) (ms := ns) (ρ := ρ) (k := k + 1) (i := i) (m := m) q2 (by simpa [upArgs] using q)
          rw [show k + (i + 1) = k + 1 + i by omega]; exact this
    · cases h
theorem getSlot {as : List Arg} {i : Nat} {s : Sl} (h : (as.map slotOf)[i]? = some (some s)) : (∃ d, as[i]? = some (.v d) ∧ s = .val d) ∨ ∃ m, as[i]? = some (.l m) ∧ s = .own true m := by
  rw [List.getElem?_map] at h
  cases q : as[i]? with
  | none => rw [q] at h; cases h
  | some x =>
    rw [q] at h
    cases x with
    | v d => cases h; exact .inl ⟨d, rfl, rfl⟩
    | l m => cases h; exact .inr ⟨m, rfl, rfl⟩
/-- the def's slots at its start -/
theorem RelA.start {n : Nat} (N : List Str) (hn : N.length = n) (r : RelA K T F Z vs as H) : Rel K T F Z (lentOf vs as) (L2.start N vs) (startE n as) H := by
  have hl : as.length = vs.length := by have := r.len; simpa using this
  have inS : ∀ {i : Nat} {s : Sl}, (startE n as)[i]? = some (some s) → (as.map slotOf)[i]? = some (some s) ∧ (L2.start N vs)[i]? = (vs.map some)[i]? := fun {i s} q => by
    unfold startE at q
    by_cases hi : i < as.length
    · rw [List.getElem?_append_left (by simpa using hi)] at q
      refine ⟨q, ?_⟩
      unfold L2.start
      rw [List.getElem?_append_left (by rw [List.length_map]; omega)]
    · rw [List.getElem?_append_right (by simpa using hi)] at q
      rw [List.getElem?_replicate] at q
      split at q <;> cases q
  refine ⟨r.exF, r.exZ, r.dis, ?_, fun i d q => ?_, fun i l m q => ?_, fun i j l m l' m' a q1 q2 q3 q4 => ?_, fun i a q => ?_⟩
  · unfold startE L2.start
    rw [List.length_append, List.length_append, List.length_map, List.length_map, List.length_replicate, List.length_replicate, hl, hn]
  · obtain ⟨h1, h2⟩ := inS q; rw [h2]; exact r.val i d h1
  · obtain ⟨h1, h2⟩ := inS q; rw [h2]; exact r.own i l m h1
  · obtain ⟨h1, h2⟩ := inS q1
    obtain ⟨h3, h4⟩ := inS q2
    rw [h2] at q3; rw [h4] at q4
    exact r.sep i j l m l' m' a h1 h3 q3 q4
  · obtain ⟨h1, m, h2⟩ := r.lent i a q
    have hi : i < as.length := by
      have := (List.getElem?_eq_some_iff.mp h2).1
      simpa using this
    refine ⟨?_, m, ?_⟩
    · unfold L2.start
      rw [List.getElem?_append_left (by rw [List.length_map]; omega)]; exact h1
    · unfold startE
      rw [List.getElem?_append_left (by simpa using hi)]; exact h2
/-- .. and at its end -/
theorem RelA.fin {ms : List MO} {σ : L2.St} {ρ : VEnv} {Z' : Hp} (r0 : RelA K T F Z vs as H) (e : Ex F F') (r : Rel K T F' Z' (lentOf vs as) σ ρ H') (hm : lents 0 as ρ = some ms) : RelA K T F' Z' vs (upArgs as ms) H' := by
  have hl : as.length = vs.length := by have := r0.len; simpa using this
  have lentAt : ∀ {i : Nat} {m : MO}, (upArgs as ms)[i]? = some (.l m) → ∃ a, vs[i]? = some (.ref a) ∧ lentOf vs as i = some a ∧ σ[i]? = some (some (.ref a)) ∧ ρ[i]? = some (some (Sl.own true m)) := fun {i m} q => by
    obtain ⟨m', q'⟩ := upArgs_l q
    have qs : (as.map slotOf)[i]? = some (some (Sl.own true m')) := by rw [List.getElem?_map, q']; rfl
    obtain ⟨a, o, h1, _⟩ := r0.own i true m' qs
    have hv : vs[i]? = some (.ref a) := by
      rw [List.getElem?_map] at h1
      cases z : vs[i]? with
      | none => rw [z] at h1; cases h1
      | some w => rw [z] at h1; cases h1; rfl
    have hL : lentOf vs as i = some a := by unfold lentOf; rw [q', hv]
    have hρ := lents_up (k := 0) hm q
    rw [Nat.zero_add] at hρ
    exact ⟨a, hv, hL, (r.lent i a hL).1, hρ⟩
  refine ⟨r.exF, r.exZ, r.dis, by simp [upArgs_length, hl], fun i d q => ?_, fun i l m q => ?_, fun i j l m l' m' a q1 q2 q3 q4 => ?_, fun i a q => ?_⟩
  · rcases getSlot q with ⟨d', q', e'⟩ | ⟨m, q', e'⟩
    · cases e'
      have qs : (as.map slotOf)[i]? = some (some (Sl.val d)) := by rw [List.getElem?_map, upArgs_v.mp q']; rfl
      obtain ⟨v, h1, h2⟩ := r0.val i d qs
      exact ⟨v, h1, h2.mono e⟩
    · cases e'
  · rcases getSlot q with ⟨d', q', e'⟩ | ⟨m', q', e'⟩
    · cases e'
    · cases e'
      obtain ⟨a, hv, hL, hs, hρ⟩ := lentAt q'
      obtain ⟨a2, o, h1, h2, h3, h4, h5⟩ := r.own i true m hρ
      have ea : a2 = a := by rw [hs] at h1; cases h1; rfl
      subst ea
      exact ⟨a2, o, by rw [List.getElem?_map, hv]; rfl, h2, h3, h4, h5⟩
  · rcases getSlot q1 with ⟨d', q', e'⟩ | ⟨n1, q', e'⟩
    · cases e'
    · cases e'
      rcases getSlot q2 with ⟨d', q'', e'⟩ | ⟨n2, q'', e'⟩
      · cases e'
      · cases e'
        obtain ⟨a1, hv1, hL1, hs1, hρ1⟩ := lentAt q'
        obtain ⟨a2, hv2, hL2, hs2, hρ2⟩ := lentAt q''
        rw [List.getElem?_map, hv1] at q3
        rw [List.getElem?_map, hv2] at q4
        cases q3
        cases q4
        exact r.sep i j _ _ _ _ _ hρ1 hρ2 hs1 hs2
  · rw [lentOf_up] at q
    obtain ⟨h1, m, h2⟩ := r0.lent i a q
    refine ⟨h1, ?_⟩
    rcases getSlot h2 with ⟨d', q', e'⟩ | ⟨n1, q', e'⟩
    · cases e'
    · have hlt : i < (upArgs as ms).length := by rw [upArgs_length]; exact (List.getElem?_eq_some_iff.mp q').1
      have e : (upArgs as ms)[i]? = some ((upArgs as ms)[i]) := by simp [hlt]
      cases q2 : (upArgs as ms)[i] with
      | v d => rw [q2] at e; rw [upArgs_v.mp e] at q'; cases q'
      | l m' => rw [q2] at e; exact ⟨m', by rw [List.getElem?_map, e]; rfl⟩
/-- a body that answers as h does keeps the promise -/
theorem runG_ok {W : WX} {n : Nat} {N : List Str} {h : VEnv → RS} {Q : VK} {E : XK} (hn : N.length = n) (hW : ∀ cls dd σ H, E cls dd H → W cls dd σ H) (hs : spG K T (runG n h) m vs H Q E) :
    ∃ ρ, rdS K T W ρ (h ρ) { nx := fun _ H' => Q .non H', rt := Q } (L2.start N vs) H := by
  obtain ⟨F, Z, as, r, ms, hl, ra, hg, k⟩ := hs
  refine ⟨startE n as, F, Z, lentOf vs as, ra.start N hn, ?_⟩
  unfold runG at hg
  cases q : h (startE n as) with
  | nx ρ =>
    rw [q] at hg
    dsimp only at hg
    cases q2 : lents 0 as ρ with
    | none => rw [q2] at hg; cases hg
    | some ms' => rw [q2] at hg; cases hg; exact fun σ F' H' e r => k _ F' H' e (ra.fin e r q2) rfl
  | rt d ρ =>
    rw [q] at hg
    dsimp only at hg
    cases q2 : lents 0 as ρ with
    | none => rw [q2] at hg; cases hg
    | some ms' => rw [q2] at hg; cases hg; exact fun v σ F' H' e r p => k _ F' H' e (ra.fin e r q2) p
  | rn m ρ =>
    rw [q] at hg
    dsimp only at hg
    cases q2 : lents 0 as ρ with
    | none => rw [q2] at hg; cases hg
    | some ms' =>
      rw [q2] at hg; cases hg
      refine fun a o σ F' H' e r hF hZ hL hH p => k a o F' H' e hZ ?_ p
      have r' : Rel K T F' (upd Z a o) (lentOf vs as) σ ρ H' → RelA K T F' (upd Z a o) vs (upArgs as ms) H' := fun r' => ra.fin e r' q2
      have r3 : RelA K T F' Z vs (upArgs as ms) H' := ra.fin e r q2
      refine ⟨r3.exF, fun b u q => ?_, fun b u q => ?_, r3.len, r3.val, fun i l m q => ?_, r3.sep, r3.lent⟩
      · by_cases hb : b = a
        · subst hb; rw [upd_same] at q; cases q; exact hH
        · rw [upd_ne hb] at q; exact r3.exZ b u q
      · rw [upd_ne (ne_of_none q hF)]; exact r3.dis b u q
      · obtain ⟨b, u, g1, g2, g3, g4, g5⟩ := r3.own i l m q
        have hb : b ≠ a := fun z => by
          subst z
          rcases getSlot q with ⟨d', q', e'⟩ | ⟨m', q', e'⟩
          · cases e'
          · have hv : vs[i]? = some (.ref b) := by
              rw [List.getElem?_map] at g1
              cases z : vs[i]? with
              | none => rw [z] at g1; cases g1
              | some w => rw [z] at g1; cases g1; rfl
            refine hL i ?_
            rw [← lentOf_up vs as ms]
            unfold lentOf
            rw [q', hv]
        exact ⟨b, u, g1, g2, by rw [upd_ne hb]; exact g3, g4, g5⟩
  | ex c ds ρ =>
    rw [q] at hg
    dsimp only at hg
    cases q2 : lents 0 as ρ with
    | none => rw [q2] at hg; cases hg
    | some ms' => rw [q2] at hg; cases hg; exact fun cls dd σ F' H' e r p => hW _ _ _ _ (k cls dd F' H' e (ra.fin e r q2) p)
  | bk ρ => rw [q] at hg; cases hg
  | ct ρ => rw [q] at hg; cases hg
  | stuck => rw [q] at hg; cases hg
end
end VS
set_option maxHeartbeats 2000000
namespace VS
open PySem L2 PySem.Spec PyProof.Rows
/-! ### a def's promise where no repr is under way -/
structure FnG (P : Program) (w : World) (K : PySem.W.Frag) (mg : Str → Option Value) (base : Heap) (k : Nat) (f : Addr) (fd : FuncData) (ps : List Str) (sp : Sp) : Prop where
  len : ∀ {vs H Q E}, sp vs H Q E → vs.length = ps.length
  run : ∀ {A outer s H args us vs Q E}, A.guards = some [] → Room k A → Env0 P w K mg base A outer s H → BindsTo s fd args (ps.zip us) → Vals vs us → sp vs H Q E →
    codeAny (model P w) A (.call (.ref f) args) (CR (L2.CX P w) outer P w H s Q E) s
theorem FnG.mono {P : Program} {w : World} {K : PySem.W.Frag} {mg : Str → Option Value} {base : Heap} {j k : Nat} {f : Addr} {fd : FuncData} {ps : List Str} {sp : Sp} (h : FnG P w K mg base j f fd ps sp) (hjk : j ≤ k) : FnG P w K mg base k f fd ps sp :=
  ⟨h.len, fun g hr => h.run g (hr.mono hjk)⟩
/-- a def of the text by its body -/
theorem fnG_of {P : Program} {w : World} {K : PySem.W.Frag} {mg : Str → Option Value} {base : Heap} {k : Nat} {x qual : Str} {pa : Arguments} {bd : List Stmt} {sc : Scope} {dvs : List V} {kws : List (Str × V)} {f : Addr} {fd : FuncData} {N ps : List Str} {sp : Sp}
    (D0 : FunD K x qual pa bd sc dvs kws f fd) (S : FnScope N ps sc) (len : ∀ {vs H Q E}, sp vs H Q E → vs.length = ps.length)
    (body : ∀ {cdv A outer s H vs Q E}, A.guards = some [] → Room k (A.deeper (envOfC qual sc s.heap.objs.size f cdv)) → sp vs H Q E →
      ∃ t, PSs (cxOf (L2.CX P w) P w K mg base N qual sc f cdv A outer s H E) bd t ∧ t { nx := fun _ G => Q .non G, rt := Q } (L2.start N vs) H) : FnG P w K mg base (k + 1) f fd ps sp := by
  obtain ⟨oc, od, dV, kV, doc, pm, an, cdv, ct, osl, e, lk, hcd, _, _⟩ := D0.ex
  subst e
  refine ⟨len, ?_⟩
  intro A outer s H args us vs Q E hA hr e0 hb rv hsp
  have inK : K.In s.heap := e0.mod.kin.keeps fun b o z => (e0.bs b o z).1
  have noL : s.heap.NoLimit := e0.mod.nolimit.keeps fun b o z => (e0.bs b o z).1
  have kinds : ∀ y ∈ ps.zip us, sc.names.lookup y.1 = some .local ∨ (sc.names.lookup y.1 = some .cell ∧ ((cellsFrom (s.heap.objs.size + 1) sc.names []).lookup y.1).isSome = true) := by
    rintro ⟨n, u⟩ hy
    cases S.par n (List.of_mem_zip hy).1 with
    | inl z => exact Or.inl z
    | inr z => exact Or.inr ⟨z, PySem.W.cellsFrom_some _ _ _ (Or.inl z)⟩
  refine codeAny_call_function hr.depth (inK _ _ lk) rfl S.co S.gen rfl (PySem.W.codeRec_of inK hcd) (hb _ _ _ _ ?_)
  refine wpAny_newFunctionEnv_cells S.kind kinds ?_
  intro env he s1 ic
  subst he
  refine ⟨noL.keeps ic.toInCall.keep, codeAny_func ?_⟩
  obtain ⟨t, pt, hq⟩ := body (cdv := cdv) (outer := outer) hA (hr.deeper _) hsp
  have J := inv_start (CX := L2.CX P w) (E := E) S hr.hd e0 (len hsp) rv ic
  have done : ∀ {τ : L2.St} {G : Hp} {v : V} {u : Value} {s2 : Shared}, Inv (cxOf (L2.CX P w) P w K mg base N qual sc f cdv A outer s H E) [] τ G s2 → RelV v u → Q v G → CE outer P w H s Q u s2 := by
    intro τ G v u s2 j r q
    exact ⟨v, G, j.os, j.bare, j.base, j.hok, r, q⟩
  refine wpAny_mono (pt.run [] s1 (L2.start N vs) H _ J hq) ?_ (fun _ _ z => z)
  intro fl s2 z
  cases fl with
  | ret u => obtain ⟨v, τ, G, j, r, q⟩ := z; exact done j r q
  | next => obtain ⟨τ, G, j, q⟩ := z; exact done (v := .non) (u := .none) j rfl q
  | brk => obtain ⟨_, _, _, q⟩ := z; exact q.elim
  | cont => obtain ⟨_, _, _, q⟩ := z; exact q.elim
/-! ### calls -/
section
variable {X : Cx} {k : Nat} {f C : Addr} {fd : FuncData} {ps : List Str} {sp : Sp} {dvs : List V} {ds : List Value} {W : WX} {x m : Str} {p pos apos : Pos} {e o : Expr} {es : List Expr} {ta : TE} {t : TA}
theorem callG_run {pins : List (Addr × Obj)} {σ : L2.St} {H : Hp} {s : Shared} {Q : VK} {us : List Value} {vs : List V} (G : FnG X.prog X.w X.K X.mg X.base k f fd ps sp) (hA : X.A.guards = some []) (hr : Room k X.A) (hb : Binds X.K fd ps ds) (hd : Vals dvs ds) (tk : Takes X W)
    (I : Inv X pins σ H s) (r : Vals vs us) (h : sp (vs ++ dvs) H Q (WE W σ)) : wpAny (model X.prog X.w) X.A (call (.ref f) us) (EP X pins σ Q) X.xe s := by
  have r2 : Vals (vs ++ dvs) (us ++ ds) := r.append hd
  have hl : (us ++ ds).length = ps.length := r2.length.symm.trans (G.len h)
  refine wpAny_call (codeAny_mono (G.run (args := ⟨us, []⟩) hA hr I.env0 (hb s us I.kIn hl) r2 h) ?_)
  intro z s2 hz
  cases z with
  | error u => exact passAt tk σ pins H s u s2 I hz
  | ok fl =>
    cases fl with
    | ret u => exact I.after hz
    | next => exact hz.elim
    | brk => exact hz.elim
    | cont => exact hz.elim
def tCallG (sp : Sp) (dvs : List V) (W : WX) (t : TA) : TE := fun σ H Q => t σ H fun vs H1 => sp (vs ++ dvs) H1 Q (WE W σ)
theorem pe_callG (G : FnG X.prog X.w X.K X.mg X.base k f fd ps sp) (hA : X.A.guards = some []) (hr : Room k X.A) (hg : Gl X x) (hm : X.mg x = some (.ref f)) (hk : PySem.W.keepIn X.K (.ref f) = true) (hb : Binds X.K fd ps ds) (hd : Vals dvs ds) (tk : Takes X W)
    (ha : PA X (e :: es) t) (hdb : (x == ("__debug__" : Str)) = false) (he : starEach (e :: es) X.env = (false, eval e X.env) :: starEach es X.env) (hpl : (backTo pos (starEach es X.env)).any (·.1) = false) :
    PE X (.Call (.Name x p) (e :: es) [] pos) (tCallG sp dvs W t) := ⟨fun pins s σ H Q I h => by
  refine wpAny_Call_Name_kw (ld_glob I hg hm ?_ hdb)
  refine PySem.W.callWith_K (h₀ := X.base) I.ok.mod.kin hk (thn (ha.run pos pins s σ H _ I h) ?_) he hpl
  rintro us s1 ⟨vs, H1, I1, r, q⟩
  exact ⟨I1.kIn, callG_run G hA hr hb hd tk I1 r q⟩⟩
theorem pe_callG0 (G : FnG X.prog X.w X.K X.mg X.base k f fd ps sp) (hA : X.A.guards = some []) (hr : Room k X.A) (hg : Gl X x) (hm : X.mg x = some (.ref f)) (hk : PySem.W.keepIn X.K (.ref f) = true) (hb : Binds X.K fd ps ds) (hd : Vals dvs ds) (tk : Takes X W)
    (hdb : (x == ("__debug__" : Str)) = false) : PE X (.Call (.Name x p) [] [] pos) (tCallG sp dvs W tNil) := ⟨fun pins s σ H Q I h => by
  refine wpAny_Call_Name_kw (ld_glob I hg hm ?_ hdb)
  exact PySem.W.callWith_K0 I.kIn hk (callG_run (us := []) G hA hr hb hd tk I .nil h)⟩
/-- o.m(..) -/
def tMethG (C : Addr) (m : Str) (sp : Sp) (dvs : List V) (W : WX) (ta : TE) (t : TA) : TE := fun σ H Q => ta σ H fun v H1 => ∃ a dx fs, v = .ref a ∧ H1 a = some (.ins C dx fs) ∧ fs.lookup m = none ∧
  t σ H1 fun vs H2 => sp (v :: (vs ++ dvs)) H2 Q (WE W σ)
theorem pe_methG {pl : Sem Bool} (he : PE X o ta) (c : Cls X.K C) (hm : Meth X.K C m f) (G : FnG X.prog X.w X.K X.mg X.base k f fd ps sp) (hA : X.A.guards = some []) (hr : Room k X.A) (hb : Binds X.K fd ps ds) (hd : Vals dvs ds) (tk : Takes X W) (ha : PA X (e :: es) t)
    (hst : starEach (e :: es) X.env = (false, eval e X.env) :: starEach es X.env) (hpl : (backTo pos (starEach es X.env)).any (·.1) = false)
    (ht : eval (.Call (.Attribute o m apos) (e :: es) [] pos) X.env = (do
      let ov ← eval o X.env
      standAt apos.atName
      let (f, first) ← holding [ov] (getMethod ov m pl)
      callWith pos f first (backTo pos (starEach (e :: es) X.env)) (backToKw pos (keywordEach [] X.env)))) :
    PE X (.Call (.Attribute o m apos) (e :: es) [] pos) (tMethG C m sp dvs W ta t) := ⟨fun pins s σ H Q I h => by
  refine PySem.W.methodCall_KW (pl := pl) (thn (he.run pins s σ H _ I h) ?_) ht
  rintro u s1 ⟨x, H1, I1, rx, a, dx, fs, ex, ea, l, q⟩
  subst ex
  obtain rfl : u = Value.ref a := rx
  refine getmeth_ok I1 ea c hm l ?_
  refine PySem.W.callWith_K (first := [.ref a]) (h₀ := X.base) I.ok.mod.kin hm.kp (thn (ha.run pos pins s1 σ H1 _ I1 q) ?_) hst hpl
  rintro us s2 ⟨vs, H2, I2, r, q2⟩
  exact ⟨I2.kIn, callG_run (us := .ref a :: us) (vs := .ref a :: vs) G hA hr hb hd tk I2 (.cons rfl r) q2⟩⟩
theorem pe_methG0 {pl : Sem Bool} (he : PE X o ta) (c : Cls X.K C) (hm : Meth X.K C m f) (G : FnG X.prog X.w X.K X.mg X.base k f fd ps sp) (hA : X.A.guards = some []) (hr : Room k X.A) (hb : Binds X.K fd ps ds) (hd : Vals dvs ds) (tk : Takes X W)
    (ht : eval (.Call (.Attribute o m apos) [] [] pos) X.env = (do
      let ov ← eval o X.env
      standAt apos.atName
      let (f, first) ← holding [ov] (getMethod ov m pl)
      callWith pos f first (backTo pos (starEach [] X.env)) (backToKw pos (keywordEach [] X.env)))) :
    PE X (.Call (.Attribute o m apos) [] [] pos) (tMethG C m sp dvs W ta tNil) := ⟨fun pins s σ H Q I h => by
  refine PySem.W.methodCall_KW (pl := pl) (thn (he.run pins s σ H _ I h) ?_) ht
  rintro u s1 ⟨x, H1, I1, rx, a, dx, fs, ex, ea, l, q⟩
  subst ex
  obtain rfl : u = Value.ref a := rx
  refine getmeth_ok I1 ea c hm l ?_
  exact PySem.W.callWith_K0 (first := [.ref a]) I1.kIn hm.kp (callG_run (us := [.ref a]) (vs := [.ref a]) G hA hr hb hd tk I1 (.cons rfl .nil) q)⟩
/-- C(..), an own class with its own __init__ -/
def tMakeG (C : Addr) (sp : Sp) (dvs : List V) (W : WX) (t : TA) : TE := fun σ H Q => t σ H fun vs H1 => ∀ a dx, H1 a = none → H1 dx = none → dx ≠ a →
  sp (.ref a :: (vs ++ dvs)) (upd (upd H1 dx (.own a)) a (.ins C dx [])) (fun v H2 => v = .non ∧ Q (.ref a) H2) (WE W σ)
theorem make_guards {A : Around} {C : Addr} {us : List Value} {kw : List (Str × Value)} (h : A.guards = some []) : (A.under (.builtin "type.__call__" ⟨.ref C :: us, kw⟩)).guards = some [] := by
  first
    | exact h
    | (simp [Around.under, Code.guards, Code.isGuard, pushGuards, guardIds, h])
theorem runMakeG {pins : List (Addr × Obj)} {σ : L2.St} {H : Hp} {s : Shared} {Q : VK} {us : List Value} {vs : List V} (M : Mk X.K C f) (G : FnG X.prog X.w X.K X.mg X.base k f fd ps sp) (hA : X.A.guards = some []) (hr : Room (k + 1) X.A) (hb : Binds X.K fd ps ds) (hd : Vals dvs ds) (tk : Takes X W)
    (I : Inv X pins σ H s) (r : Vals vs us) (h : ∀ a dx, H a = none → H dx = none → dx ≠ a → sp (.ref a :: (vs ++ dvs)) (upd (upd H dx (.own a)) a (.ins C dx [])) (fun v H2 => v = .non ∧ Q (.ref a) H2) (WE W σ)) :
    wpAny (model X.prog X.w) X.A (call (.ref C) us) (EP X pins σ Q) X.xe s := by
  have z := h (s.heap.objs.size + 1) s.heap.objs.size (I.hok.fresh (Nat.le_succ _)) (I.hok.fresh (Nat.le_refl _)) (Nat.ne_of_lt (Nat.lt_succ_self _))
  have J := Inv.made (C := C) I
  have r2 : Vals (V.ref (s.heap.objs.size + 1) :: (vs ++ dvs)) (Value.ref (s.heap.objs.size + 1) :: (us ++ ds)) := .cons rfl (r.append hd)
  have hl : (Value.ref (s.heap.objs.size + 1) :: us ++ ds).length = ps.length := r2.length.symm.trans (G.len z)
  refine wpAny_call (make_map (f := f) I.kIn M.makes M.init (beq_iff_eq.mp M.fn) (codeAny_mono (G.run (args := ⟨Value.ref (s.heap.objs.size + 1) :: us, []⟩) (make_guards hA) (hr.make C us []) (J.env0.make C us []) (hb _ (Value.ref (s.heap.objs.size + 1) :: us) J.kIn hl) r2 z) ?_))
  intro y s2 hy
  cases y with
  | error u => exact passAt tk σ pins _ _ u s2 J hy
  | ok fl =>
    cases fl with
    | ret u =>
      obtain ⟨v, H', J2, rv, ev, q3⟩ := J.after hy
      subst ev
      exact ⟨rv, ⟨V.ref (s.heap.objs.size + 1), H', J2, rfl, q3⟩⟩
    | next => exact hy.elim
    | brk => exact hy.elim
    | cont => exact hy.elim
theorem pe_makeG (M : Mk X.K C f) (G : FnG X.prog X.w X.K X.mg X.base k f fd ps sp) (hA : X.A.guards = some []) (hr : Room (k + 1) X.A) (hg : Gl X x) (hm : X.mg x = some (.ref C)) (hb : Binds X.K fd ps ds) (hd : Vals dvs ds) (tk : Takes X W)
    (ha : PA X (e :: es) t) (hdb : (x == ("__debug__" : Str)) = false) (he : starEach (e :: es) X.env = (false, eval e X.env) :: starEach es X.env) (hpl : (backTo pos (starEach es X.env)).any (·.1) = false) :
    PE X (.Call (.Name x p) (e :: es) [] pos) (tMakeG C sp dvs W t) := ⟨fun pins s σ H Q I h => by
  refine wpAny_Call_Name_kw (ld_glob I hg hm ?_ hdb)
  refine PySem.W.callWith_K (h₀ := X.base) I.ok.mod.kin M.kp (thn (ha.run pos pins s σ H _ I h) ?_) he hpl
  rintro us s1 ⟨vs, H1, I1, r, q⟩
  exact ⟨I1.kIn, runMakeG M G hA hr hb hd tk I1 r q⟩⟩
end
/-! ### the law's end -/
/-- at most the script at a is tracked, locked, and only where the written part does not have it -/
structure Sole (K : PySem.W.Frag) (H : Hp) (a : Addr) : Prop where
  eq : ∀ {b u}, H b = some u → b = a
  frz : ∀ {u}, H a = some u → ∃ o xs, u = .frz o (.lst xs)
  out : ∀ {u}, H a = some u → K.lookup a = none
section
variable {P : Program} {w : World} {K : PySem.W.Frag} {H : Hp} {a b : Addr} {h : Heap} {us : Array Value}
theorem Sole.free (S : Sole K H a) (p : ∀ u, H b = some u → b ≠ a) : H b = none :=
  match q : H b with
  | none => rfl
  | some u => absurd (S.eq q) (p u q)
/-- a dict is not the script -/
theorem Sole.dict (S : Sole K H a) (l : h.get? a = some { cls := .type "list", data := .seq us }) {g : Str → Option Value} (n : h.Ns b g) : (hidT h H).Ns b g := by
  obtain ⟨o, es, ep, e, d, more⟩ := n
  refine ⟨o, es, ep, hidT_get e (S.free fun _ _ z => ?_), d, more⟩
  rw [z, l] at e
  rw [← Option.some.inj e] at d
  exact nomatch d
theorem Sole.frag (S : Sole K H a) (X : K.In h) : K.In (hidT h H) := fun b o e => hidT_get (X b o e) (S.free fun u q z => by
  subst z
  have := S.out q
  rw [this] at e
  exact nomatch e)
/-- the law's def, called with the script: true comes back, what stood stands -/
theorem Sole.run {mg mb : Str → Option Value} {k : Nat} {f : Addr} {fd : FuncData} {x : Str} {sp : Sp} {s : Shared} (S : Sole K H a) (l : s.heap.get? a = some { cls := .type "list", data := .seq us }) (X : K.In s.heap)
    (ng : s.heap.Ns mainGlobals mg) (nb : s.heap.Ns builtinsNs mb) (eb : ∀ y : Str, y ≠ "__name__" → mb y = bootBuiltins y) (nl : s.heap.NoLimit) (eg : s.gens = #[]) (room : Room k callerA) (ok : HOk P w H s.heap)
    (G : ∀ base : Heap, K.In base → base.Ns mainGlobals mg → FnG P w K mg base k f fd [x] sp) (bnd : ∀ (s : Shared) (u : Value), BindsTo s fd ⟨[u], []⟩ [(x, u)]) (p : sp [.ref a] H (fun v _ => v = .bl true) fun _ _ _ => False) :
    codeAny (model P w) callerA (.call (.ref f) ⟨[.ref a], []⟩) (fun r s' => r = .ok (.ret (.bool true)) ∧ OldK s.heap s'.heap ∧ s'.os = s.os ∧ AllBare s'.gens) s := by
  have kin := S.frag X
  have ngh := S.dict l ng
  obtain ⟨mc, c1, c2⟩ := nl
  have env : Env0 P w K mg (hidT s.heap H) callerA [] s H := by
    refine { frames := rfl, mod := ⟨kin, ngh, ⟨mb, S.dict l nb, eb⟩, ⟨mc, S.dict l c1, c2⟩⟩, bs := fun _ _ e => of_hidT e, bsz := ?_, funs := trivial, frf := fun _ z => (List.not_mem_nil z).elim, hok := ok, bare := .of_eq eg }
    rw [hidT_size]
    exact Nat.le_refl _
  have called := (G _ kin ngh).run (args := ⟨[.ref a], []⟩) (us := [.ref a]) (vs := [.ref a]) rfl room env (bnd s (.ref a)) (.cons rfl .nil) p
  refine codeAny_mono called fun r s' => ?_
  rcases r with u | (_ | _ | _ | u)
  · rintro ⟨_, _, _, _, _, _, _, _, _, _, _, _, y⟩
    exact y.elim
  · exact False.elim
  · exact False.elim
  · exact False.elim
  · rintro ⟨_, H', e1, e2, un, ok', rel, rfl⟩
    cases rel
    refine ⟨rfl, .of_keep fun b o e => ?_, e1, e2⟩
    match q : H b with
    | none => exact un.keep b o e q List.not_mem_nil List.not_mem_nil
    | some u =>
      have z := S.eq q
      subst z
      obtain ⟨o1, xs, rfl⟩ := S.frz q
      have now := (ok b _ q).1
      rw [e, Option.some.injEq] at now
      subst now
      exact (ok' b _ (un.frzs b o _ q)).1
end
/-- what is asked of the law's def: K and its promise, from what the head tells -/
structure Asked (l : PySem.W.OpenLaw) (n k : Nat) (x : Str) (w : World) (mg : Str → Option Value) (fa : Addr) (h : Heap) (K : PySem.W.Frag) (fd : FuncData) (sp : Sp) : Prop where
  frag : K.In h
  bnd : ∀ (s : Shared) (u : Value), BindsTo s fd ⟨[u], []⟩ [(x, u)]
  holds : ∀ (H : Hp) (a : Addr) (ns : List Int), ns.length ≤ n → SqL K H a (ns.map V.int) → sp [.ref a] H (fun v _ => v = .bl true) fun _ _ _ => False
  ok : ∀ base : Heap, K.In base → base.Ns mainGlobals mg → FnG l.prog w K mg base k fa fd [x] sp
/-- behind the head -/
theorem walkG {l : PySem.W.OpenLaw} {n k : Nat} {q : Program} {loose : List Str} {x : Str} {d : DefRec} {XP : (Str → Option Value) → Heap → Prop} {YP : World → Heap → Prop} (most : l.most = some n) (few : n ≤ sizeLine) (plain : d.params.defaults = []) (room : Room k callerA)
    (asked : ∀ w mg fa h, YP w h → h.Ns mainGlobals mg → mg d.name = some (.ref fa) → ∃ K fd sp, Asked l n k x w mg fa h K fd sp) : PySem.W.WalkO q loose XP YP l.row.toRowW d [] (fun f vs => PySem.call f vs) := by
  refine Att.attach_callB most plain ?_
  intro w _ s mg mb fa _ _ _ _ a us ns G Y _ _ _ named at_a are len _ bare
  obtain ⟨K, fd, sp, A⟩ := asked w mg fa _ Y G.T.g named
  have vals := vals_ints are
  have size : ns.length ≤ sizeLine := Nat.le_trans len few
  have go : ∀ H : Hp, Sole K H a → HOk l.prog w H s.heap → SqL K H a (ns.map V.int) → _ := fun H S ok sq => S.run at_a A.frag G.T.g G.T.b G.T.builtins G.T.nolimit bare room ok A.ok A.bnd (A.holds H a ns len sq)
  match written : K.lookup a with
  | some o =>
    have e := A.frag a o written
    rw [at_a, Option.some.injEq] at e
    subst e
    refine go (fun _ => none) ⟨nofun, nofun, nofun⟩ nofun (.inr ⟨_, us.toArray, _, written, rfl, rfl, rfl, ?_, by simpa using vals⟩)
    rw [List.size_toArray, are.length]
    exact size
  | none =>
    have at' : ∀ {b u}, upd (fun _ => none) a (.frz { cls := .type "list", data := .seq us.toArray } (.lst (ns.map V.int))) b = some u → b = a ∧ u = .frz { cls := .type "list", data := .seq us.toArray } (.lst (ns.map V.int)) := by
      intro b u e
      by_cases z : b = a
      · subst z
        rw [upd_same] at e
        exact ⟨rfl, (Option.some.inj e).symm⟩
      · rw [upd_ne z] at e
        exact nomatch e
    refine go (upd (fun _ => none) a (.frz { cls := .type "list", data := .seq us.toArray } (.lst (ns.map V.int)))) ⟨fun e => (at' e).1, fun e => ⟨_, _, (at' e).2⟩, fun _ => written⟩ (fun b u e => ?_) (.inl (.inr ⟨_, upd_same⟩))
    obtain ⟨rfl, rfl⟩ := at' e
    exact ⟨at_a, by rw [List.length_map]; exact size, us, _, vals, at_a⟩
end VS
set_option maxHeartbeats 2000000
namespace VS
open PySem L2 PySem.Spec PyProof.Rows
/-! ### the caller's side: values, and owned names that are lent -/
inductive AR where
  | v (d : D) | l (i : Nat)
def ARs (K : PySem.W.Frag) (T : Txt) (F : Hp) (σ : L2.St) : List AR → List V → Prop
  | [], vs => vs = []
  | .v d :: as, vs => ∃ v ws, vs = v :: ws ∧ Rep K T F d v ∧ ARs K T F σ as ws
  | .l i :: as, vs => ∃ v ws, vs = v :: ws ∧ σ[i]? = some (some v) ∧ ARs K T F σ as ws
def lentIx : List AR → List Nat
  | [] => []
  | .v _ :: as => lentIx as
  | .l i :: as => i :: lentIx as
def resolve (ρ : VEnv) : List AR → Option (List Arg)
  | [] => some []
  | .v d :: as => (resolve ρ as).map (.v d :: ·)
  | .l i :: as => match ρ[i]? with
    | some (some (Sl.own _ m)) => (resolve ρ as).map (.l m :: ·)
    | _ => none
def setM (i : Nat) (m : MO) (ρ : VEnv) : VEnv := match ρ[i]? with
  | some (some (Sl.own l _)) => ρ.set i (some (Sl.own l m))
  | _ => ρ
def putBack : VEnv → List AR → List MO → VEnv
  | ρ, [], _ => ρ
  | ρ, .v _ :: as, ms => putBack ρ as ms
  | ρ, .l i :: as, m :: ms => putBack (setM i m ρ) as ms
  | ρ, .l _ :: as, [] => putBack ρ as []
section
variable {K : PySem.W.Frag} {T : Txt} {F F' Z H H' : Hp} {L : Nat → Option Addr} {σ : L2.St} {ρ : VEnv} {ars : List AR} {vs : List V} {as : List Arg}
theorem ARs.mono (e : Ex F F') : ∀ {ars : List AR} {vs : List V}, ARs K T F σ ars vs → ARs K T F' σ ars vs
  | [], _, h => h
  | .v d :: as, _, ⟨v, ws, e1, h, r⟩ => ⟨v, ws, e1, h.mono e, ARs.mono e r⟩
  | .l i :: as, _, ⟨v, ws, e1, h, r⟩ => ⟨v, ws, e1, h, ARs.mono e r⟩
theorem ARs.length : ∀ {ars : List AR} {vs : List V}, ARs K T F σ ars vs → vs.length = ars.length
  | [], _, h => by rw [show _ = ([] : List V) from h]; rfl
  | .v d :: as, _, ⟨v, ws, e1, h, r⟩ => by rw [e1]; simp [ARs.length r]
  | .l i :: as, _, ⟨v, ws, e1, h, r⟩ => by rw [e1]; simp [ARs.length r]
theorem ARs.vals : ∀ {ars : List AR} {vs ws : List V} {ds : List D}, ARs K T F σ ars vs → Reps K T F ds ws → ARs K T F σ (ars ++ ds.map AR.v) (vs ++ ws)
  | [], vs, ws, ds, h, r => by
    rw [show vs = _ from h]
    clear h
    induction ds generalizing ws with
    | nil => exact r
    | cons d ds ih => obtain ⟨v, us, e1, h1, r1⟩ := r; exact ⟨v, us, e1, h1, ih us r1⟩
  | .v d :: as, _, _, _, ⟨v, ws, e1, h, r⟩, q => by rw [e1]; exact ⟨v, _, rfl, h, ARs.vals r q⟩
  | .l i :: as, _, _, _, ⟨v, ws, e1, h, r⟩, q => by rw [e1]; exact ⟨v, _, rfl, h, ARs.vals r q⟩
theorem ARs.getV : ∀ {ars : List AR} {vs : List V} {p : Nat} {d : D}, ARs K T F σ ars vs → ars[p]? = some (.v d) → ∃ v, vs[p]? = some v ∧ Rep K T F d v
  | .v d' :: as, _, 0, d, ⟨v, ws, e1, h, r⟩, q => by simp at q; subst q; exact ⟨v, by rw [e1]; rfl, h⟩
  | .v d' :: as, _, p + 1, d, ⟨v, ws, e1, h, r⟩, q => by rw [e1]; simpa using ARs.getV (p := p) (d := d) r (by simpa using q)
  | .l i :: as, _, 0, d, ⟨v, ws, e1, h, r⟩, q => by simp at q
  | .l i :: as, _, p + 1, d, ⟨v, ws, e1, h, r⟩, q => by rw [e1]; simpa using ARs.getV (p := p) (d := d) r (by simpa using q)
  | [], _, p, d, _, q => by simp at q
theorem ARs.getL : ∀ {ars : List AR} {vs : List V} {p i : Nat}, ARs K T F σ ars vs → ars[p]? = some (.l i) → ∃ v, vs[p]? = some v ∧ σ[i]? = some (some v)
  | .v d' :: as, _, 0, i, ⟨v, ws, e1, h, r⟩, q => by simp at q
  | .v d' :: as, _, p + 1, i, ⟨v, ws, e1, h, r⟩, q => by rw [e1]; simpa using ARs.getL (p := p) (i := i) r (by simpa using q)
  | .l j :: as, _, 0, i, ⟨v, ws, e1, h, r⟩, q => by simp at q; subst q; exact ⟨v, by rw [e1]; rfl, h⟩
  | .l j :: as, _, p + 1, i, ⟨v, ws, e1, h, r⟩, q => by rw [e1]; simpa using ARs.getL (p := p) (i := i) r (by simpa using q)
  | [], _, p, i, _, q => by simp at q
theorem resolve_length : ∀ {ars : List AR} {as : List Arg}, resolve ρ ars = some as → as.length = ars.length
  | [], as, h => by simp only [resolve] at h; cases h; rfl
  | .v d :: ars, as, h => by
    simp only [resolve] at h
    cases q : resolve ρ ars with
    | none => rw [q] at h; cases h
    | some bs => rw [q] at h; cases h; simp [resolve_length q]
  | .l i :: ars, as, h => by
    simp only [resolve] at h
    split at h
    · cases q : resolve ρ ars with
      | none => rw [q] at h; cases h
      | some bs => rw [q] at h; cases h; simp [resolve_length q]
    · cases h
theorem resolve_v : ∀ {ars : List AR} {as : List Arg} {p : Nat} {d : D}, resolve ρ ars = some as → as[p]? = some (.v d) → ars[p]? = some (.v d)
  | [], as, p, d, h, q => by simp only [resolve] at h; cases h; simp at q
  | .v d' :: ars, as, p, d, h, q => by
    simp only [resolve] at h
    cases q1 : resolve ρ ars with
    | none => rw [q1] at h; cases h
    | some bs =>
      rw [q1] at h; cases h
      cases p with
      | zero => simp at q; subst q; rfl
      | succ p => simpa using resolve_v (p := p) (d := d) q1 (by simpa using q)
  | .l i :: ars, as, p, d, h, q => by
    simp only [resolve] at h
    split at h
    · cases q1 : resolve ρ ars with
      | none => rw [q1] at h; cases h
      | some bs =>
        rw [q1] at h; cases h
        cases p with
        | zero => simp at q
        | succ p => simpa using resolve_v (p := p) (d := d) q1 (by simpa using q)
    · cases h
theorem resolve_l : ∀ {ars : List AR} {as : List Arg} {p : Nat} {m : MO}, resolve ρ ars = some as → as[p]? = some (.l m) → ∃ i l, ars[p]? = some (.l i) ∧ ρ[i]? = some (some (Sl.own l m))
  | [], as, p, m, h, q => by simp only [resolve] at h; cases h; simp at q
  | .v d' :: ars, as, p, m, h, q => by
    simp only [resolve] at h
    cases q1 : resolve ρ ars with
    | none => rw [q1] at h; cases h
    | some bs =>
      rw [q1] at h; cases h
      cases p with
      | zero => simp at q
      | succ p => simpa using resolve_l (p := p) (m := m) q1 (by simpa using q)
  | .l i :: ars, as, p, m, h, q => by
    simp only [resolve] at h
    split at h
    · rename_i l0 m0 q0
      cases q1 : resolve ρ ars with
      | none => rw [q1] at h; cases h
      | some bs =>
        rw [q1] at h; cases h
        cases p with
        | zero => simp at q; subst q; exact ⟨i, l0, rfl, q0⟩
        | succ p => simpa using resolve_l (p := p) (m := m) q1 (by simpa using q)
    · cases h
theorem resolve_at : ∀ {ars : List AR} {as : List Arg} {p i : Nat}, resolve ρ ars = some as → ars[p]? = some (.l i) → ∃ l m, as[p]? = some (.l m) ∧ ρ[i]? = some (some (Sl.own l m))
  | [], as, p, i, h, q => by simp at q
  | .v d' :: ars, as, p, i, h, q => by
    simp only [resolve] at h
    cases q1 : resolve ρ ars with
    | none => rw [q1] at h; cases h
    | some bs =>
      rw [q1] at h; cases h
      cases p with
      | zero => simp at q
      | succ p => simpa using resolve_at (p := p) (i := i) q1 (by simpa using q)
  | .l j :: ars, as, p, i, h, q => by
    simp only [resolve] at h
    split at h
    · rename_i l0 m0 q0
      cases q1 : resolve ρ ars with
      | none => rw [q1] at h; cases h
      | some bs =>
        rw [q1] at h; cases h
        cases p with
        | zero => simp at q; subst q; exact ⟨l0, m0, rfl, q0⟩
        | succ p => simpa using resolve_at (p := p) (i := i) q1 (by simpa using q)
    · cases h
theorem lentIx_mem : ∀ {ars : List AR} {i : Nat}, i ∈ lentIx ars ↔ ∃ p : Nat, ars[p]? = some (AR.l i)
  | [], i => by simp [lentIx]
  | .v d :: ars, i => by
    rw [lentIx, lentIx_mem]
    constructor
    · rintro ⟨p, h⟩; exact ⟨p + 1, by simpa using h⟩
    · rintro ⟨p, h⟩
      cases p with
      | zero => simp at h
      | succ p => exact ⟨p, by simpa using h⟩
  | .l j :: ars, i => by
    rw [lentIx, List.mem_cons, lentIx_mem]
    constructor
    · rintro (h | ⟨p, h⟩)
      · subst h; exact ⟨0, rfl⟩
      · exact ⟨p + 1, by simpa using h⟩
    · rintro ⟨p, h⟩
      cases p with
      | zero => simp at h; exact .inl h.symm
      | succ p => exact .inr ⟨p, by simpa using h⟩
theorem lentIx_inj : ∀ {ars : List AR} {p q i : Nat}, (lentIx ars).Nodup → ars[p]? = some (.l i) → ars[q]? = some (.l i) → p = q
  | [], p, q, i, _, h, _ => by simp at h
  | .v d :: ars, p, q, i, nd, h1, h2 => by
    cases p with
    | zero => simp at h1
    | succ p =>
      cases q with
      | zero => simp at h2
      | succ q => rw [lentIx_inj (ars := ars) (p := p) (q := q) nd (by simpa using h1) (by simpa using h2)]
  | .l j :: ars, p, q, i, nd, h1, h2 => by
    obtain ⟨n1, n2⟩ := List.nodup_cons.mp nd
    cases p with
    | zero =>
      cases q with
      | zero => rfl
      | succ q =>
        simp at h1; subst h1
        exact absurd (lentIx_mem.mpr ⟨q, by simpa using h2⟩) n1
    | succ p =>
      cases q with
      | zero =>
        simp at h2; subst h2
        exact absurd (lentIx_mem.mpr ⟨p, by simpa using h1⟩) n1
      | succ q => rw [lentIx_inj (ars := ars) (p := p) (q := q) n2 (by simpa using h1) (by simpa using h2)]
theorem setM_ne {i j : Nat} {m : MO} (h : j ≠ i) : (setM i m ρ)[j]? = ρ[j]? := by
  unfold setM
  split
  · exact List.getElem?_set_ne (Ne.symm h)
  · rfl
theorem setM_length (i : Nat) (m : MO) (ρ : VEnv) : (setM i m ρ).length = ρ.length := by unfold setM; split <;> simp
theorem putBack_length : ∀ (ars : List AR) (ms : List MO) (ρ : VEnv), (putBack ρ ars ms).length = ρ.length
  | [], _, _ => rfl
  | .v _ :: as, ms, ρ => putBack_length as ms ρ
  | .l i :: as, m :: ms, ρ => by rw [putBack, putBack_length as ms, setM_length]
  | .l _ :: as, [], ρ => putBack_length as [] ρ
theorem putBack_out : ∀ {ars : List AR} {ms : List MO} {ρ : VEnv} {j : Nat}, j ∉ lentIx ars → (putBack ρ ars ms)[j]? = ρ[j]?
  | [], _, _, _, _ => rfl
  | .v _ :: as, ms, ρ, j, h => putBack_out (ars := as) (ms := ms) (ρ := ρ) h
  | .l i :: as, m :: ms, ρ, j, h => by
    rw [putBack, putBack_out (fun z => h (List.mem_cons_of_mem _ z)), setM_ne (fun z => h (by rw [z]; exact List.mem_cons_self))]
  | .l _ :: as, [], ρ, j, h => putBack_out (ars := as) (ms := []) (ρ := ρ) (fun z => h (List.mem_cons_of_mem _ z))
theorem putBack_in : ∀ {ars : List AR} {as : List Arg} {ms : List MO} {ρ ρ0 : VEnv} {p j : Nat}, (lentIx ars).Nodup → resolve ρ0 ars = some as → (∀ i ∈ lentIx ars, ρ[i]? = ρ0[i]?) → ars[p]? = some (.l j) →
    ∃ l m0 m, ρ0[j]? = some (some (Sl.own l m0)) ∧ (upArgs as ms)[p]? = some (.l m) ∧ (putBack ρ ars ms)[j]? = some (some (Sl.own l m))
  | [], as, ms, ρ, ρ0, p, j, nd, h, hs, q => by simp at q
  | .v d :: ars, as, ms, ρ, ρ0, p, j, nd, h, hs, q => by
    simp only [resolve] at h
    cases q1 : resolve ρ0 ars with
    | none => rw [q1] at h; cases h
    | some bs =>
      rw [q1] at h; cases h
      cases p with
      | zero => simp at q
      | succ p => simpa [upArgs, putBack] using putBack_in (ars := ars) (as := bs) (ms := ms) (ρ := ρ) (p := p) (j := j) nd q1 hs (by simpa using q)
  | .l i :: ars, as, ms, ρ, ρ0, p, j, nd, h, hs, q => by
    simp only [resolve] at h
    obtain ⟨n1, n2⟩ := List.nodup_cons.mp nd
    split at h
    · rename_i l0 m0 q0
      cases q1 : resolve ρ0 ars with
      | none => rw [q1] at h; cases h
      | some bs =>
        rw [q1] at h; cases h
        have hi : ρ[i]? = some (some (Sl.own l0 m0)) := by rw [hs i List.mem_cons_self]; exact q0
        have hlt : i < ρ.length := (List.getElem?_eq_some_iff.mp hi).1
        cases ms with
        | nil =>
          cases p with
          | zero =>
            simp at q; subst q
            refine ⟨l0, m0, m0, q0, rfl, ?_⟩
            rw [putBack, putBack_out n1]; exact hi
          | succ p => simpa [upArgs, putBack] using putBack_in (ars := ars) (as := bs) (ms := []) (ρ := ρ) (p := p) (j := j) n2 q1 (fun k hk => hs k (List.mem_cons_of_mem _ hk)) (by simpa using q)
        | cons m ms =>
          have hset : setM i m ρ = ρ.set i (some (Sl.own l0 m)) := by unfold setM; rw [hi]
          cases p with
          | zero =>
            simp at q; subst q
            refine ⟨l0, m0, m, q0, rfl, ?_⟩
            rw [putBack, putBack_out n1, hset]
            exact List.getElem?_set_self hlt
          | succ p =>
            have := putBack_in (ars := ars) (as := bs) (ms := ms) (ρ := setM i m ρ) (p := p) (j := j) n2 q1 (fun k hk => by
              rw [setM_ne (fun z => n1 (by rw [← z]; exact hk))]
              exact hs k (List.mem_cons_of_mem _ hk)) (by simpa using q)
            simpa [upArgs, putBack] using this
    · cases h
open Classical in
/-- all else that the caller holds -/
noncomputable def zOf (Z H : Hp) (σ : L2.St) (ρ : VEnv) (is : List Nat) : Hp := fun b => if ∃ (j : Nat) (l : Bool) (m : MO), ρ[j]? = some (some (Sl.own l m)) ∧ σ[j]? = some (some (V.ref b)) ∧ j ∉ is then H b else Z b
theorem zOf_own {is : List Nat} {b : Addr} {j : Nat} {l : Bool} {m : MO} (h1 : ρ[j]? = some (some (Sl.own l m))) (h2 : σ[j]? = some (some (V.ref b))) (h3 : j ∉ is) : zOf Z H σ ρ is b = H b := if_pos ⟨j, l, m, h1, h2, h3⟩
theorem zOf_else {is : List Nat} {b : Addr} (h : ¬ ∃ (j : Nat) (l : Bool) (m : MO), ρ[j]? = some (some (Sl.own l m)) ∧ σ[j]? = some (some (V.ref b)) ∧ j ∉ is) : zOf Z H σ ρ is b = Z b := if_neg h
/-- into the call -/
theorem call_in (r : Rel K T F Z L σ ρ H) (ha : ARs K T F σ ars vs) (nd : (lentIx ars).Nodup) (hr : resolve ρ ars = some as) : RelA K T F (zOf Z H σ ρ (lentIx ars)) vs as H := by
  have la := resolve_length hr
  have lv := ha.length
  have own : ∀ {p : Nat} {m : MO}, as[p]? = some (Arg.l m) → ∃ (i : Nat) (l : Bool) (a : Addr) (o : HO), ars[p]? = some (AR.l i) ∧ ρ[i]? = some (some (Sl.own l m)) ∧ σ[i]? = some (some (.ref a)) ∧ vs[p]? = some (.ref a) ∧ F a = none ∧ Z a = none ∧ H a = some o ∧ RepO K T F m o := by
    intro p m q
    obtain ⟨i, l, h1, h2⟩ := resolve_l hr q
    obtain ⟨v, h3, h4⟩ := ha.getL h1
    obtain ⟨a, o, g1, g2, g3, g4, g5⟩ := r.own i l m h2
    rw [g1] at h4; cases h4
    exact ⟨i, l, a, o, h1, h2, g1, h3, g2, g3, g4, g5⟩
  refine ⟨r.exF, fun b o q => ?_, fun b o q => ?_, by simp [la, lv], fun p d q => ?_, fun p l m q => ?_, fun p p' l m l' m' a q1 q2 q3 q4 => ?_, fun p a q => ?_⟩
  · by_cases c : ∃ (j : Nat) (l : Bool) (m : MO), ρ[j]? = some (some (Sl.own l m)) ∧ σ[j]? = some (some (V.ref b)) ∧ j ∉ lentIx ars
    · obtain ⟨j, l, m, c1, c2, c3⟩ := c
      rw [zOf_own c1 c2 c3] at q; exact q
    · rw [zOf_else c] at q; exact r.exZ b o q
  · by_cases c : ∃ (j : Nat) (l : Bool) (m : MO), ρ[j]? = some (some (Sl.own l m)) ∧ σ[j]? = some (some (V.ref b)) ∧ j ∉ lentIx ars
    · obtain ⟨j, l, m, c1, c2, c3⟩ := c
      obtain ⟨a, u, g1, g2, _⟩ := r.own j l m c1
      rw [c2] at g1; cases g1
      rw [q] at g2; cases g2
    · rw [zOf_else c]; exact r.dis b o q
  · rcases getSlot q with ⟨d', q', e'⟩ | ⟨m, q', e'⟩
    · cases e'
      obtain ⟨v, h1, h2⟩ := ha.getV (resolve_v hr q')
      exact ⟨v, by rw [List.getElem?_map, h1]; rfl, h2⟩
    · cases e'
  · rcases getSlot q with ⟨d', q', e'⟩ | ⟨m', q', e'⟩
    · cases e'
    · cases e'
      obtain ⟨i, l0, a, o, h1, h2, h3, h4, h5, h6, h7, h8⟩ := own q'
      refine ⟨a, o, by rw [List.getElem?_map, h4]; rfl, h5, ?_, h7, h8⟩
      rw [zOf_else]
      · exact h6
      · rintro ⟨j, l, m2, c1, c2, c3⟩
        have := r.sep j i _ _ _ _ a c1 h2 c2 h3
        subst this
        exact c3 (lentIx_mem.mpr ⟨p, h1⟩)
  · rcases getSlot q1 with ⟨d', q', e'⟩ | ⟨n1, q', e'⟩
    · cases e'
    · cases e'
      rcases getSlot q2 with ⟨d', q'', e'⟩ | ⟨n2, q'', e'⟩
      · cases e'
      · cases e'
        obtain ⟨i1, l1, a1, o1, h11, h12, h13, h14, _⟩ := own q'
        obtain ⟨i2, l2, a2, o2, h21, h22, h23, h24, _⟩ := own q''
        rw [List.getElem?_map, h14] at q3
        rw [List.getElem?_map, h24] at q4
        cases q3
        cases q4
        have := r.sep i1 i2 _ _ _ _ _ h12 h22 h13 h23
        subst this
        exact lentIx_inj nd h11 h21
  · unfold lentOf at q
    split at q
    · rename_i m a' q1 q2
      cases q
      exact ⟨by rw [List.getElem?_map, q2]; rfl, m, by rw [List.getElem?_map, q1]; rfl⟩
    · cases q
/-- .. and back: Z' what is held aside behind it -/
theorem call_out {ms : List MO} {Z' Zc' : Hp} (r : Rel K T F Z L σ ρ H) (ha : ARs K T F σ ars vs) (nd : (lentIx ars).Nodup) (hr : resolve ρ ars = some as) (e : Ex F F') (r' : RelA K T F' Zc' vs (upArgs as ms) H')
    (h1 : ∀ b o, Z' b = some o → Zc' b = some o) (h2 : ∀ b o, zOf Z H σ ρ (lentIx ars) b = some o → Zc' b = some o) (h3 : ∀ b, Zc' b = none → Z' b = none) (h4 : ∀ b, zOf Z H σ ρ (lentIx ars) b ≠ none → Z' b = Z b) :
    Rel K T F' Z' L σ (putBack ρ ars ms) H' := by
  have slotIn : ∀ {j : Nat}, j ∈ lentIx ars → ∃ (p : Nat) (l : Bool) (m0 m : MO), ars[p]? = some (AR.l j) ∧ ρ[j]? = some (some (Sl.own l m0)) ∧ (upArgs as ms)[p]? = some (Arg.l m) ∧ (putBack ρ ars ms)[j]? = some (some (Sl.own l m)) := by
    intro j hj
    obtain ⟨p, hp⟩ := lentIx_mem.mp hj
    obtain ⟨l, m0, m, g1, g2, g3⟩ := putBack_in (ms := ms) nd hr (fun _ _ => rfl) hp
    exact ⟨p, l, m0, m, hp, g1, g2, g3⟩
  have ownOld : ∀ {j : Nat} {l : Bool} {m : MO}, (putBack ρ ars ms)[j]? = some (some (Sl.own l m)) → ∃ m0, ρ[j]? = some (some (Sl.own l m0)) := by
    intro j l m q
    by_cases hj : j ∈ lentIx ars
    · obtain ⟨p, l', m0, m', g1, g2, g3, g4⟩ := slotIn hj
      rw [g4] at q; cases q
      exact ⟨m0, g2⟩
    · rw [putBack_out hj] at q; exact ⟨m, q⟩
  refine ⟨r'.exF, fun b o q => r'.exZ b o (h1 b o q), fun b o q => h3 b (r'.dis b o q), by rw [putBack_length]; exact r.len, fun j d q => ?_, fun j l m q => ?_, fun j k l m l' m' a q1 q2 q3 q4 => ?_, fun j a q => ?_⟩
  · by_cases hj : j ∈ lentIx ars
    · obtain ⟨p, l', m0, m', g1, g2, g3, g4⟩ := slotIn hj
      rw [g4] at q; cases q
    · rw [putBack_out hj] at q
      obtain ⟨v, g1, g2⟩ := r.val j d q
      exact ⟨v, g1, g2.mono e⟩
  · by_cases hj : j ∈ lentIx ars
    · obtain ⟨p, l', m0, m', g1, g2, g3, g4⟩ := slotIn hj
      rw [g4] at q; cases q
      obtain ⟨v, f1, f2⟩ := ha.getL g1
      obtain ⟨a, o, k1, k2, k3, k4, k5⟩ := r.own j _ m0 g2
      rw [k1] at f2; cases f2
      have qs : ((upArgs as ms).map slotOf)[p]? = some (some (Sl.own true m)) := by rw [List.getElem?_map, g3]; rfl
      obtain ⟨a2, o2, t1, t2, t3, t4, t5⟩ := r'.own p true m qs
      rw [List.getElem?_map, f1] at t1
      cases t1
      exact ⟨a, o2, k1, t2, h3 a t3, t4, t5⟩
    · rw [putBack_out hj] at q
      obtain ⟨a, o, k1, k2, k3, k4, k5⟩ := r.own j l m q
      have hz : zOf Z H σ ρ (lentIx ars) a = some o := by rw [zOf_own q k1 hj]; exact k4
      have hz' := h2 a o hz
      refine ⟨a, o, k1, ?_, by rw [h4 a (by rw [hz]; simp)]; exact k3, r'.exZ a o hz', k5.mono e⟩
      cases t : F' a with
      | none => rfl
      | some u => have := r'.dis a u t; rw [hz'] at this; cases this
  · obtain ⟨n1, q1⟩ := ownOld q1
    obtain ⟨n2, q2⟩ := ownOld q2
    exact r.sep j k _ _ _ _ a q1 q2 q3 q4
  · obtain ⟨g1, m, g2⟩ := r.lent j a q
    refine ⟨g1, ?_⟩
    by_cases hj : j ∈ lentIx ars
    · obtain ⟨p, l', m0, m', k1, k2, k3, k4⟩ := slotIn hj
      rw [g2] at k2; cases k2
      exact ⟨m', k4⟩
    · exact ⟨m, by rw [putBack_out hj]; exact g2⟩
end
end VS
set_option maxHeartbeats 2000000
namespace VS
open PySem L2 PySem.Spec PyProof.Rows
def rdC (K : PySem.W.Frag) (T : Txt) (W : WX) (ρ : VEnv) : R (List AR) → TA
  | .stuck => fun _ _ _ => False
  | .ok as ρ' => fun σ H Q => ∃ F Z L, Rel K T F Z L σ ρ H ∧ ∀ vs F' H', Ex F F' → Rel K T F' Z L σ ρ' H' → ARs K T F' σ as vs → Q vs H'
  | .ex c ds ρ' => fun σ H _ => ∃ F Z L, Rel K T F Z L σ ρ H ∧ ∀ cls dd F' H', Ex F F' → Rel K T F' Z L σ ρ' H' → ExR K T F' cls dd c ds → W cls dd σ H'
def JC (T : Txt) (X : Cx) (W : WX) (es : List Expr) (g : Ev (List AR)) : Prop := ∀ ρ, PA X es (rdC X.K T W ρ (g ρ))
def mCN : Ev (List AR) := fun ρ => .ok [] ρ
def mCV (g : Ev D) (h : Ev (List AR)) : Ev (List AR) := fun ρ => (g ρ).bind fun d ρ1 => (h ρ1).bind fun as ρ2 => .ok (.v d :: as) ρ2
def mCL (i : Nat) (h : Ev (List AR)) : Ev (List AR) := fun ρ => match ρ[i]? with
  | some (some (Sl.own _ _)) => (h ρ).bind fun as ρ2 => .ok (.l i :: as) ρ2
  | _ => .stuck
def callR (G : Fn) (n : Nat) (ars : List AR) (ρ : VEnv) : R Res := if (lentIx ars).Nodup ∧ ars.length = n then (match resolve ρ ars with
  | none => .stuck
  | some as => match G as with
    | none => .stuck
    | some (.ex c ds, ms) => .ex c ds (putBack ρ ars ms)
    | some (.ok d, ms) => .ok (.ok d) (putBack ρ ars ms)
    | some (.nw m, ms) => .ok (.nw m) (putBack ρ ars ms)) else .stuck
def mRes (G : Fn) (n : Nat) (dd : List D) (g : Ev (List AR)) : Ev Res := fun ρ => (g ρ).bind fun ars ρ1 => callR G n (ars ++ dd.map AR.v) ρ1
def rdR (K : PySem.W.Frag) (T : Txt) (W : WX) (ρ : VEnv) : R Res → TE
  | .stuck => fun _ _ _ => False
  | .ok (.ok d) ρ' => fun σ H Q => ∃ F Z L, Rel K T F Z L σ ρ H ∧ ∀ v F' H', Ex F F' → Rel K T F' Z L σ ρ' H' → Rep K T F' d v → Q v H'
  | .ok (.nw m) ρ' => fun σ H Q => ∃ F Z L, Rel K T F Z L σ ρ H ∧ ∀ a o F' H', Ex F F' → Z a = none → Rel K T F' (upd Z a o) L σ ρ' H' → RepO K T F' m o → Q (.ref a) H'
  | .ok (.ex _ _) _ => fun _ _ _ => False
  | .ex c ds ρ' => fun σ H _ => ∃ F Z L, Rel K T F Z L σ ρ H ∧ ∀ cls dd F' H', Ex F F' → Rel K T F' Z L σ ρ' H' → ExR K T F' cls dd c ds → W cls dd σ H'
def JR (T : Txt) (X : Cx) (W : WX) (e : Expr) (g : Ev Res) : Prop := ∀ ρ, PE X e (rdR X.K T W ρ (g ρ))
def mVal (g : Ev Res) : Ev D := fun ρ => (g ρ).bind fun r ρ' => match r with
  | .ok d => .ok d ρ'
  | .nw m => .ok m.frz ρ'
  | .ex _ _ => .stuck
def mNew (g : Ev Res) : Ev MO := fun ρ => (g ρ).bind fun r ρ' => match r with
  | .nw m => .ok m ρ'
  | _ => .stuck
section
variable {T : Txt} {X : Cx} {W : WX} {e a b c : Expr} {es : List Expr} {pos p : Pos} {K : PySem.W.Frag}
theorem jc_nil : JC T X W [] mCN := fun ρ => pa_weak pa_nil fun σ H Q ⟨F, Z, L, r, k⟩ => k [] F H (Ex.refl F) r rfl
theorem jc_v {g : Ev D} {h : Ev (List AR)} (h1 : JE T X W e g) (h2 : JC T X W es h) (hs : starEach (e :: es) X.env = (false, eval e X.env) :: starEach es X.env := by rfl) : JC T X W (e :: es) (mCV g h) := fun ρ => by
  have p1 := h1 ρ
  unfold mCV
  cases q1 : g ρ with
  | stuck => exact pa_no
  | ex c ds ρ1 => rw [q1] at p1; exact pa_weak (pa_cons p1 pa_no hs) fun σ H Q q => q
  | ok d ρ1 =>
    rw [q1] at p1
    have p2 := h2 ρ1
    simp only [R.bind_ok]
    cases q2 : h ρ1 with
    | stuck => exact pa_no
    | ex c ds ρ2 =>
      rw [q2] at p2
      exact pa_weak (pa_cons p1 p2 hs) fun σ H Q ⟨F, Z, L, r, k⟩ => ⟨F, Z, L, r, fun v F1 H1 e1 r1 _ => ⟨F1, Z, L, r1, fun cls dd F2 H2 e2 r2 x2 => k cls dd F2 H2 (e1.trans e2) r2 x2⟩⟩
    | ok as ρ2 =>
      rw [q2] at p2
      exact pa_weak (pa_cons p1 p2 hs) fun σ H Q ⟨F, Z, L, r, k⟩ => ⟨F, Z, L, r, fun v F1 H1 e1 r1 x1 => ⟨F1, Z, L, r1, fun vs F2 H2 e2 r2 x2 => k _ F2 H2 (e1.trans e2) r2 ⟨v, vs, rfl, x1.mono e2, x2⟩⟩⟩
theorem jc_l {i : Nat} {h : Ev (List AR)} (h1 : PE X e (tVar i)) (h2 : JC T X W es h) (hs : starEach (e :: es) X.env = (false, eval e X.env) :: starEach es X.env := by rfl) : JC T X W (e :: es) (mCL i h) := fun ρ => by
  unfold mCL
  split
  · rename_i l m q0
    have p2 := h2 ρ
    cases q2 : h ρ with
    | stuck => exact pa_no
    | ex c ds ρ2 =>
      rw [q2] at p2
      refine pa_weak (pa_cons h1 p2 hs) fun σ H Q ⟨F, Z, L, r, k⟩ => ?_
      obtain ⟨a, o, g1, _⟩ := r.own i l m q0
      exact ⟨_, g1, F, Z, L, r, k⟩
    | ok as ρ2 =>
      rw [q2] at p2
      refine pa_weak (pa_cons h1 p2 hs) fun σ H Q ⟨F, Z, L, r, k⟩ => ?_
      obtain ⟨a, o, g1, _⟩ := r.own i l m q0
      exact ⟨_, g1, F, Z, L, r, fun vs F2 H2 e2 r2 x2 => k _ F2 H2 e2 r2 ⟨_, vs, rfl, g1, x2⟩⟩
  · exact pa_no
/-- what a call of a promised def gives, from the arguments on -/
theorem call_mid {G : Fn} {n : Nat} {ars : List AR} {ρ1 : VEnv} {F Z H1 : Hp} {L : Nat → Option Addr} {σ : L2.St} {vs : List V} {Q : VK} {r : R Res} (hr : callR G n ars ρ1 = r) (r1 : Rel K T F Z L σ ρ1 H1) (ha : ARs K T F σ ars vs)
    (k : match r with
      | .stuck => False
      | .ok (.ok d) ρ' => ∀ v F' H', Ex F F' → Rel K T F' Z L σ ρ' H' → Rep K T F' d v → Q v H'
      | .ok (.nw m) ρ' => ∀ a o F' H', Ex F F' → Z a = none → Rel K T F' (upd Z a o) L σ ρ' H' → RepO K T F' m o → Q (.ref a) H'
      | .ok (.ex _ _) _ => False
      | .ex c ds ρ' => ∀ cls dd F' H', Ex F F' → Rel K T F' Z L σ ρ' H' → ExR K T F' cls dd c ds → W cls dd σ H') : spG K T G n vs H1 Q (WE W σ) := by
  unfold callR at hr
  split at hr
  · rename_i hc
    obtain ⟨nd, hlen⟩ := hc
    cases q1 : resolve ρ1 ars with
    | none => rw [q1] at hr; subst hr; exact k.elim
    | some as =>
      rw [q1] at hr
      dsimp only at hr
      have hin := call_in r1 ha nd q1
      have hlv : vs.length = n := ha.length.trans hlen
      have ownZ : ∀ {b : Addr}, (∃ (j : Nat) (l : Bool) (m : MO), ρ1[j]? = some (some (Sl.own l m)) ∧ σ[j]? = some (some (V.ref b)) ∧ j ∉ lentIx ars) → Z b = none ∧ ∃ o, H1 b = some o := by
        rintro b ⟨j, l, m, c1, c2, c3⟩
        obtain ⟨a, o, g1, g2, g3, g4, _⟩ := r1.own j l m c1
        rw [c2] at g1; cases g1
        exact ⟨g3, o, g4⟩
      have z1 : ∀ b o, Z b = some o → zOf Z H1 σ ρ1 (lentIx ars) b = some o := by
        intro b o q
        by_cases c : ∃ (j : Nat) (l : Bool) (m : MO), ρ1[j]? = some (some (Sl.own l m)) ∧ σ[j]? = some (some (V.ref b)) ∧ j ∉ lentIx ars
        · rw [(ownZ c).1] at q; cases q
        · rw [zOf_else c]; exact q
      have z3 : ∀ b, zOf Z H1 σ ρ1 (lentIx ars) b = none → Z b = none := by
        intro b q
        by_cases c : ∃ (j : Nat) (l : Bool) (m : MO), ρ1[j]? = some (some (Sl.own l m)) ∧ σ[j]? = some (some (V.ref b)) ∧ j ∉ lentIx ars
        · exact (ownZ c).1
        · rw [zOf_else c] at q; exact q
      cases q2 : G as with
      | none => rw [q2] at hr; subst hr; exact k.elim
      | some rm =>
        obtain ⟨rr, ms⟩ := rm
        rw [q2] at hr
        cases rr with
        | ok d =>
          dsimp only at hr
          subst hr
          exact ⟨F, _, as, .ok d, ms, hlv, hin, q2, fun v F' H' e r' p => k v F' H' e (call_out r1 ha nd q1 e r' z1 (fun b o q => q) z3 (fun b _ => rfl)) p⟩
        | nw m =>
          dsimp only at hr
          subst hr
          refine ⟨F, _, as, .nw m, ms, hlv, hin, q2, fun a o F' H' e hz r' p => k a o F' H' e (z3 a hz) (call_out r1 ha nd q1 e r' (fun b u q => ?_) (fun b u q => ?_) (fun b q => ?_) (fun b q => ?_)) p⟩
          · by_cases hb : b = a
            · subst hb; rw [upd_same] at q ⊢; exact q
            · rw [upd_ne hb] at q ⊢; exact z1 b u q
          · rw [upd_ne (ne_of_none q hz)]; exact q
          · by_cases hb : b = a
            · subst hb; rw [upd_same] at q; cases q
            · rw [upd_ne hb] at q ⊢; exact z3 b q
          · have hb : b ≠ a := fun z => by subst z; exact q hz
            exact upd_ne hb
        | ex c ds =>
          dsimp only at hr
          subst hr
          exact ⟨F, _, as, .ex c ds, ms, hlv, hin, q2, fun cls dd F' H' e r' p => k cls dd F' H' e (call_out r1 ha nd q1 e r' z1 (fun b o q => q) z3 (fun b _ => rfl)) p⟩
  · subst hr; exact k.elim
/-- f(..) -/
theorem jr_call {G : Fn} {n : Nat} {dd : List D} {dvs : List V} {g : Ev (List AR)} (rule : ∀ t, PA X es t → PE X e (tCallG (spG X.K T G n) dvs W t)) (hdv : ∀ F, Reps X.K T F dd dvs) (ha : JC T X W es g) : JR T X W e (mRes G n dd g) := fun ρ => by
  have p1 := ha ρ
  unfold mRes
  cases q1 : g ρ with
  | stuck => exact pe_no
  | ex c ds ρ1 => rw [q1] at p1; exact pe_weak (rule _ p1) fun σ H Q q => q
  | ok ars ρ1 =>
    rw [q1] at p1
    simp only [R.bind_ok]
    cases q2 : callR G n (ars ++ dd.map AR.v) ρ1 with
    | stuck => exact pe_no
    | ex c ds ρ2 => exact pe_weak (rule _ p1) fun σ H Q ⟨F, Z, L, r, k⟩ => ⟨F, Z, L, r, fun vs F1 H1 e1 r1 x1 => call_mid q2 r1 (x1.vals (hdv F1)) fun cls dd F' H' e r' p => k cls dd F' H' (e1.trans e) r' p⟩
    | ok rr ρ2 =>
      cases rr with
      | ok d => exact pe_weak (rule _ p1) fun σ H Q ⟨F, Z, L, r, k⟩ => ⟨F, Z, L, r, fun vs F1 H1 e1 r1 x1 => call_mid q2 r1 (x1.vals (hdv F1)) fun v F' H' e r' p => k v F' H' (e1.trans e) r' p⟩
      | nw m => exact pe_weak (rule _ p1) fun σ H Q ⟨F, Z, L, r, k⟩ => ⟨F, Z, L, r, fun vs F1 H1 e1 r1 x1 => call_mid q2 r1 (x1.vals (hdv F1)) fun a o F' H' e hz r' p => k a o F' H' (e1.trans e) hz r' p⟩
      | ex c ds => exact pe_no
theorem je_of_jr {g : Ev Res} (h : JR T X W e g) : JE T X W e (mVal g) := fun ρ => by
  refine pe_weak (h ρ) fun σ H Q q => ?_
  unfold mVal at q
  cases q1 : g ρ with
  | stuck => rw [q1] at q; exact q.elim
  | ex c ds ρ1 => rw [q1] at q; exact q
  | ok rr ρ1 =>
    rw [q1] at q
    cases rr with
    | ok d => exact q
    | ex c ds => exact q.elim
    | nw m =>
      obtain ⟨F, Z, L, r, k⟩ := q
      refine ⟨F, Z, L, r, fun a o F' H' e hz r' x => ?_⟩
      have fn := (r'.zDrop hz).2.1
      exact k _ _ H' (e.trans (Ex.new fn)) (r'.zF hz) (x.frz fn)
theorem jf_of_jr {g : Ev Res} (h : JR T X W e g) : JF T X W e (mNew g) := fun ρ => by
  refine pe_weak (h ρ) fun σ H Q q => ?_
  unfold mNew at q
  cases q1 : g ρ with
  | stuck => rw [q1] at q; exact q.elim
  | ex c ds ρ1 => rw [q1] at q; exact q
  | ok rr ρ1 =>
    rw [q1] at q
    cases rr with
    | ok d => exact q.elim
    | ex c ds => exact q.elim
    | nw m => exact q
end
/-- a def of the text: it answers as its body's function does -/
theorem fnG_def {T : Txt} {P : Program} {w : World} {K : PySem.W.Frag} {mg : Str → Option Value} {base : Heap} {k : Nat} {x qual : Str} {pa : Arguments} {bd : List Stmt} {sc : Scope} {dvs : List V} {kws : List (Str × V)} {f : Addr} {fd : FuncData} {N ps : List Str} {h : VEnv → RS}
    (D0 : FunD K x qual pa bd sc dvs kws f fd) (S : FnScope N ps sc)
    (hb : ∀ {cdv A outer s H E}, A.guards = some [] → Room k (A.deeper (envOfC qual sc s.heap.objs.size f cdv)) → JSs T (cxOf (L2.CX P w) P w K mg base N qual sc f cdv A outer s H E) (fun cls dd _ H => E cls dd H) bd h) :
    FnG P w K mg base (k + 1) f fd ps (spG K T (runG N.length h) ps.length) := by
  refine fnG_of D0 S (fun {vs H Q E} hs => ?_) (fun {cdv A outer s H vs Q E} hA hr hs => ⟨_, pss_all (hb hA hr), runG_ok (W := fun cls dd _ H => E cls dd H) rfl (fun _ _ _ _ z => z) hs⟩)
  obtain ⟨F, Z, as, r, ms, hl, _⟩ := hs
  exact hl
end VS
set_option maxHeartbeats 2000000
namespace VS
open PySem L2 PySem.Spec PyProof.Rows
section
variable {T : Txt} {X : Cx} {W : WX} {e a b c : Expr} {es : List Expr} {pos p : Pos} {K : PySem.W.Frag}
/-! ### built-ins by their names -/
theorem je_len {g : Ev D} (hm : X.mg "len" = none) (ha : JB T X W a g) (hg : Gl X "len" := by rfl) (hs : starEach [a] X.env = (false, eval a X.env) :: starEach [] X.env := by rfl) : JE T X W (.Call (.Name "len" p) [a] [] pos) (mCall1 lenD g) :=
  je_call1 (fun _ h => pe_callB call_lenA hg hm (by decide +kernel) h (by decide) (by decide) hs rfl) callv_len ha hs
theorem je_abs {g : Ev D} (hm : X.mg "abs" = none) (ha : JB T X W a g) (hg : Gl X "abs" := by rfl) (hs : starEach [a] X.env = (false, eval a X.env) :: starEach [] X.env := by rfl) : JE T X W (.Call (.Name "abs" p) [a] [] pos) (mCall1 absD g) :=
  je_call1 (fun _ h => pe_callB call_abs hg hm (by decide +kernel) h (by decide) (by decide) hs rfl) callv_abs ha hs
theorem je_int {g : Ev D} (hm : X.mg "int" = none) (ha : JB T X W a g) (hg : Gl X "int" := by rfl) (hs : starEach [a] X.env = (false, eval a X.env) :: starEach [] X.env := by rfl) : JE T X W (.Call (.Name "int" p) [a] [] pos) (mCall1 int1D g) :=
  je_call1 (fun _ h => pe_callTy call_int1 hg hm (by decide +kernel) h (by decide) (by decide) hs rfl) callv_int ha hs
theorem je_str {g : Ev D} (hm : X.mg "str" = none) (ha : JB T X W a g) (hg : Gl X "str" := by rfl) (hs : starEach [a] X.env = (false, eval a X.env) :: starEach [] X.env := by rfl) : JE T X W (.Call (.Name "str" p) [a] [] pos) (mCall1 strD g) :=
  je_call1 (fun _ h => pe_callTy call_strA hg hm (by decide +kernel) h (by decide) (by decide) hs rfl) callv_str ha hs
theorem je_tuple {g : Ev D} (hm : X.mg "tuple" = none) (ha : JB T X W a g) (hg : Gl X "tuple" := by rfl) (hs : starEach [a] X.env = (false, eval a X.env) :: starEach [] X.env := by rfl) : JE T X W (.Call (.Name "tuple" p) [a] [] pos) (mCall1 tupleD g) :=
  je_call1 (fun _ h => pe_callTy call_tuple_of hg hm (by decide +kernel) h (by decide) (by decide) hs rfl) callv_tuple ha hs
theorem je_list {g : Ev D} (hm : X.mg "list" = none) (ha : JB T X W a g) (hg : Gl X "list" := by rfl) (hs : starEach [a] X.env = (false, eval a X.env) :: starEach [] X.env := by rfl) : JE T X W (.Call (.Name "list" p) [a] [] pos) (mCall1 listD g) :=
  je_call1 (fun _ h => pe_callTy call_list_of hg hm (by decide +kernel) h (by decide) (by decide) hs rfl) callv_list ha hs
theorem jf_list1 {g : Ev D} (hm : X.mg "list" = none) (ha : JB T X W a g) (hg : Gl X "list" := by rfl) (hs : starEach [a] X.env = (false, eval a X.env) :: starEach [] X.env := by rfl) : JF T X W (.Call (.Name "list" p) [a] [] pos) (mListO g) :=
  jf_list (fun _ h => pe_callTy call_list_of hg hm (by decide +kernel) h (by decide) (by decide) hs rfl) ha hs
theorem je_sum {g : Ev D} (hc : X.calm = true) (hm : X.mg "sum" = none) (ha : JB T X W a g) (hg : Gl X "sum" := by rfl) (hs : starEach [a] X.env = (false, eval a X.env) :: starEach [] X.env := by rfl) : JE T X W (.Call (.Name "sum" p) [a] [] pos) (mCall1 sumD g) :=
  je_call1 (fun _ h => pe_callB (cr_sumA hc) hg hm (by decide +kernel) h (by decide) (by decide) hs rfl) callv_sum ha hs
theorem je_all {g : Ev D} (hc : X.calm = true) (hm : X.mg "all" = none) (ha : JB T X W a g) (hg : Gl X "all" := by rfl) (hs : starEach [a] X.env = (false, eval a X.env) :: starEach [] X.env := by rfl) : JE T X W (.Call (.Name "all" p) [a] [] pos) (mCall1 allD g) :=
  je_call1 (fun _ h => pe_callB (cr_all hc) hg hm (by decide +kernel) h (by decide) (by decide) hs rfl) callv_all ha hs
theorem je_any {g : Ev D} (hc : X.calm = true) (hm : X.mg "any" = none) (ha : JB T X W a g) (hg : Gl X "any" := by rfl) (hs : starEach [a] X.env = (false, eval a X.env) :: starEach [] X.env := by rfl) : JE T X W (.Call (.Name "any" p) [a] [] pos) (mCall1 anyD g) :=
  je_call1 (fun _ h => pe_callB (cr_any hc) hg hm (by decide +kernel) h (by decide) (by decide) hs rfl) callv_any ha hs
theorem je_max1 {g : Ev D} (hc : X.calm = true) (hm : X.mg "max" = none) (ha : JB T X W a g) (hg : Gl X "max" := by rfl) (hs : starEach [a] X.env = (false, eval a X.env) :: starEach [] X.env := by rfl) : JE T X W (.Call (.Name "max" p) [a] [] pos) (mCall1 maxD g) :=
  je_call1 (fun _ h => pe_callB (cr_max hc) hg hm (by decide +kernel) h (by decide) (by decide) hs rfl) callv_max ha hs
theorem je_min1 {g : Ev D} (hc : X.calm = true) (hm : X.mg "min" = none) (ha : JB T X W a g) (hg : Gl X "min" := by rfl) (hs : starEach [a] X.env = (false, eval a X.env) :: starEach [] X.env := by rfl) : JE T X W (.Call (.Name "min" p) [a] [] pos) (mCall1 minD g) :=
  je_call1 (fun _ h => pe_callB (cr_min hc) hg hm (by decide +kernel) h (by decide) (by decide) hs rfl) callv_min ha hs
/-- two ints -/
def max2D : List D → Option D
  | [.int i, .int j] => some (.int (if j > i then j else i))
  | _ => none
def min2D : List D → Option D
  | [.int i, .int j] => some (.int (if j < i then j else i))
  | _ => none
def divmodD : List D → Option D
  | [.int i, .int j] => if 0 < j ∧ j.natAbs < big then some (.tup [.int (i / j), .int (i % j)]) else none
  | _ => none
theorem callv_max2 : CallV K T (fun xs H Q => ∃ i j, xs = [.int i, .int j] ∧ Q (.int (if j > i then j else i)) H) max2D := by
  intro ds z h F H vs Q e r k
  unfold max2D at h
  split at h
  · cases h
    obtain ⟨v, ws, rfl, h1, v2, ws2, rfl, h2, h3⟩ := r
    exact ⟨_, _, by rw [show v = _ from h1, show v2 = _ from h2, show ws2 = _ from h3], k _ F H .refl rfl⟩
  · cases h
theorem callv_min2 : CallV K T (fun xs H Q => ∃ i j, xs = [.int i, .int j] ∧ Q (.int (if j < i then j else i)) H) min2D := by
  intro ds z h F H vs Q e r k
  unfold min2D at h
  split at h
  · cases h
    obtain ⟨v, ws, rfl, h1, v2, ws2, rfl, h2, h3⟩ := r
    exact ⟨_, _, by rw [show v = _ from h1, show v2 = _ from h2, show ws2 = _ from h3], k _ F H .refl rfl⟩
  · cases h
theorem callv_divmod : CallV K T (fun xs H Q => ∃ i j, xs = [.int i, .int j] ∧ CDivP i j ∧ ∀ p, H p = none → Q (.ref p) (upd H p (.tup [.int (i / j), .int (i % j)]))) divmodD := by
  intro ds z h F H vs Q e r k
  unfold divmodD at h
  split at h
  · split at h
    · rename_i i j c
      cases h
      obtain ⟨v, ws, rfl, h1, v2, ws2, rfl, h2, h3⟩ := r
      refine ⟨i, j, by rw [show v = _ from h1, show v2 = _ from h2, show ws2 = _ from h3], ⟨c.1, PyProof.noPylong_of_log2 ?_⟩, fun p hp => ?_⟩
      · have := PySem.Flt.log2_lt_of (k := 250) (by decide) c.2
        omega
      · have g := Grow.new (K := K) (T := T) (o := HO.tup [.int (i / j), .int (i % j)]) e hp
        exact k _ _ _ g ⟨p, _, rfl, SqT.of upd_same, ⟨_, _, rfl, rfl, _, _, rfl, rfl, rfl⟩⟩
    · cases h
  · cases h
theorem je_max2 {g : Ev (List D)} (hc : X.calm = true) (hm : X.mg "max" = none) (ha : JA T X W [a, b] g) (hg : Gl X "max" := by rfl) (hs : starEach [a, b] X.env = (false, eval a X.env) :: starEach [b] X.env := by rfl) (hp : (backTo pos (starEach [b] X.env)).any (·.1) = false := by rfl) :
    JE T X W (.Call (.Name "max" p) [a, b] [] pos) (mCall max2D g) := je_callR (fun _ h => pe_callB (call_max2 hc) hg hm (by decide +kernel) h (by decide) (by decide) hs hp) callv_max2 ha
theorem je_min2 {g : Ev (List D)} (hc : X.calm = true) (hm : X.mg "min" = none) (ha : JA T X W [a, b] g) (hg : Gl X "min" := by rfl) (hs : starEach [a, b] X.env = (false, eval a X.env) :: starEach [b] X.env := by rfl) (hp : (backTo pos (starEach [b] X.env)).any (·.1) = false := by rfl) :
    JE T X W (.Call (.Name "min" p) [a, b] [] pos) (mCall min2D g) := je_callR (fun _ h => pe_callB (call_min2 hc) hg hm (by decide +kernel) h (by decide) (by decide) hs hp) callv_min2 ha
theorem je_divmod {g : Ev (List D)} (hm : X.mg "divmod" = none) (ha : JA T X W [a, b] g) (hg : Gl X "divmod" := by rfl) (hs : starEach [a, b] X.env = (false, eval a X.env) :: starEach [b] X.env := by rfl) (hp : (backTo pos (starEach [b] X.env)).any (·.1) = false := by rfl) :
    JE T X W (.Call (.Name "divmod" p) [a, b] [] pos) (mCall divmodD g) := je_callR (fun _ h => pe_callB call_divmodW hg hm (by decide +kernel) h (by decide) (by decide) hs hp) callv_divmod ha
/-- repr -/
theorem call_reprA {k : Nat} (hA : X.A.guards = some []) (hr : Room k X.A) : CallR X (.builtin "repr") (rRepr X.K) := by
  intro pins s σ H vs us Q I r h
  obtain ⟨v, p, rfl, hd, h1, h2, h3, h4, q⟩ := h
  have hu := hr.un
  cases r with
  | cons r1 rr =>
    cases rr
    rename_i u
    obtain ⟨as, rd⟩ := Dp.reads I p v u hd r1
    cases hd with
    | non => cases r1; exact P.repr_of_none ⟨.str _, H, I.tok _, ⟨_, rfl⟩, q⟩
    | bl b => cases r1; exact P.repr_of_bool ⟨.str _, H, I.tok _, ⟨_, rfl⟩, q⟩
    | int i => obtain ⟨t, rfl⟩ := r1; exact P.repr_of_int (by simpa [PyData.showable] using h1) ⟨.str _, H, I.tok _, ⟨_, rfl⟩, q⟩
    | str x => obtain ⟨t, rfl⟩ := r1; exact P.repr_of_str ⟨.str _, H, I.tok _, ⟨_, rfl⟩, q⟩ h4
    | lst hs hds =>
      cases r1
      exact repr_of_reads' rd h1 (by rw [h2]; intro z; cases z) hA (by omega) (fun _ _ z => z) (fun h' u tk hk => ⟨.str _, H, I.kept hk, ⟨_, rfl⟩, q⟩) h4
    | tup hs hds =>
      cases r1
      exact repr_of_reads' rd h1 (by rw [h2]; intro z; cases z) hA (by omega) (fun _ _ z => z) (fun h' u tk hk => ⟨.str _, H, I.kept hk, ⟨_, rfl⟩, q⟩) h4
theorem je_repr {k : Nat} {g : Ev D} (hA : X.A.guards = some []) (hr : Room k X.A) (hm : X.mg "repr" = none) (ha : JB T X W a g) (hg : Gl X "repr" := by rfl) (hs : starEach [a] X.env = (false, eval a X.env) :: starEach [] X.env := by rfl) : JE T X W (.Call (.Name "repr" p) [a] [] pos) (mCall1 reprD g) :=
  je_call1 (fun _ h => pe_callB (call_reprA hA hr) hg hm (by decide +kernel) h (by decide) (by decide) hs rfl) callv_repr ha hs
/-! ### isinstance -/
def IsiV (K : PySem.W.Frag) (T : Txt) (c : V) (f : D → Option Bool) : Prop := ∀ d b, f d = some b → ∀ F H v, Ex F H → RepB K T F H d v → ∃ t u, ClsV c u ∧ TyX K H v t ∧ PySem.W.kitOne K t u = some b
def mIsi (f : D → Option Bool) (g : Ev D) : Ev D := fun ρ => (g ρ).bind fun d ρ' => R.of ((f d).map .bl) ρ'
theorem je_isi {cv : V} {f : D → Option Bool} {g : Ev D} (hf : IsiV X.K T cv f) (hm : X.mg "isinstance" = none) (ha : JB T X W a g) (hb : PE X b (tC cv)) (hg : Gl X "isinstance" := by rfl)
    (hs : starEach [a, b] X.env = (false, eval a X.env) :: starEach [b] X.env := by rfl) (hs2 : starEach [b] X.env = (false, eval b X.env) :: starEach [] X.env := by rfl) (hp : (backTo pos (starEach [b] X.env)).any (·.1) = false := by rfl) :
    JE T X W (.Call (.Name "isinstance" p) [a, b] [] pos) (mIsi f g) := fun ρ => by
  have p1 := ha ρ
  have rule : ∀ ta, PE X a ta → PE X (.Call (.Name "isinstance" p) [a, b] [] pos) (tCB (rIsi X.K) (tCons ta (tCons (tC cv) tNil))) := fun ta h => pe_callB call_isi hg hm (by decide +kernel) (pa_cons h (pa_cons hb pa_nil hs2) hs) (by decide) (by decide) hs hp
  unfold mIsi
  cases q1 : g ρ with
  | stuck => exact pe_no
  | ex c ds ρ1 => rw [q1] at p1; exact pe_weak (rule _ p1) fun σ H Q q => q
  | ok d ρ1 =>
    rw [q1] at p1
    simp only [R.bind_ok]
    cases q2 : f d with
    | none => exact pe_no
    | some z =>
      refine pe_weak (rule _ p1) fun σ H Q ⟨F, Z, L, r, k⟩ => ⟨F, Z, L, r, fun v F1 H1 e1 r1 x1 => ?_⟩
      obtain ⟨t, u, h1, h2, h3⟩ := hf d z q2 F1 H1 v r1.exF x1
      exact ⟨v, cv, t, u, z, rfl, h1, h2, h3, k _ F1 H1 e1 r1 rfl⟩
/-- the built-in type of data; own instances are left out -/
def tyD : D → Option String
  | .non => some "NoneType"
  | .bl _ => some "bool"
  | .int _ => some "int"
  | .str _ => some "str"
  | .tup _ => some "tuple"
  | .lst _ => some "list"
  | .frl _ => some "list"
  | .dct _ => some "dict"
  | _ => none
theorem ty_of {F H : Hp} {d : D} {v : V} {n : String} (h : tyD d = some n) (e : Ex F H) (r : RepB K T F H d v) : TyX K H v (.type n) := by
  cases d with
  | non => rw [show v = _ from r]; cases h; exact .base .non
  | bl b => rw [show v = _ from r]; cases h; exact .base (.bl b)
  | int b => rw [show v = _ from r]; cases h; exact .base (.int b)
  | str b => rw [show v = _ from r]; cases h; exact .base (.str b)
  | tup xs =>
    obtain ⟨a, vs, rfl, h1, _⟩ := r
    cases h
    rcases e.sqT h1 with (h1 | ⟨o, h1⟩) | ⟨o, its, n, h1, h2, _⟩
    · exact .base (.tup h1)
    · exact .fTuple h1
    · exact .kTuple h1 h2
  | lst xs => obtain ⟨a, vs, rfl, h1, _⟩ := r; cases h; exact .base (.lst h1)
  | frl xs =>
    obtain ⟨a, vs, rfl, h1, _⟩ := r
    cases h
    rcases e.sqL h1 with (h1 | ⟨o, h1⟩) | ⟨o, its, n, h1, h2, _⟩
    · exact .base (.lst h1)
    · exact .base (.frz h1)
    · exact .kList h1 h2
  | dct xs => obtain ⟨a, vs, rfl, h1, _⟩ := r; cases h; exact .base (.dK h1)
  | _ => cases h
def isiB (n : String) (d : D) : Option Bool := (tyD d).bind fun t => kitB t n
theorem isi_ty {n : String} : IsiV K T (.ty n) (isiB n) := by
  intro d b h F H v e r
  unfold isiB at h
  cases q : tyD d with
  | none => rw [q] at h; cases h
  | some t => rw [q] at h; exact ⟨_, _, .ty n, ty_of q e r, kit_ty h⟩
/-! ### own defs -/
/-- a def that stands and answers as G does -/
structure Cal (P : Program) (w : World) (K : PySem.W.Frag) (mg : Str → Option Value) (base : Heap) (T : Txt) (k : Nat) (x : Str) (G : Fn) (ps : List Str) : Prop where
  ex : ∃ f fd, FnG P w K mg base k f fd ps (spG K T G ps.length) ∧ mg x = some (.ref f) ∧ PySem.W.keepIn K (.ref f) = true ∧ Binds K fd ps []
theorem jr_def {k n : Nat} {x : Str} {G : Fn} {ps : List Str} {g : Ev (List AR)} (c : Cal X.prog X.w X.K X.mg X.base T k x G ps) (hA : X.A.guards = some []) (hr : Room k X.A) (tk : Takes X W) (ha : JC T X W (e :: es) g) (hn : ps.length = n := by rfl) (hg : Gl X x := by rfl)
    (hdb : (x == ("__debug__" : Str)) = false := by decide) (he : starEach (e :: es) X.env = (false, eval e X.env) :: starEach es X.env := by rfl) (hpl : (backTo pos (starEach es X.env)).any (·.1) = false := by rfl) : JR T X W (.Call (.Name x p) (e :: es) [] pos) (mRes G n [] g) := by
  subst hn
  obtain ⟨f, fd, hG, hm, hk, hb⟩ := c.ex
  exact jr_call (fun t h => pe_callG hG hA hr hg hm hk hb .nil tk h hdb he hpl) (fun _ => rfl) ha
/-- a module's int, text -/
theorem je_gint {x : Str} {i : Int} (h : ∃ t, X.mg x = some (.int i t)) (hg : Gl X x := by rfl) (hd : (x == ("__debug__" : Str)) = false := by decide) : JE T X W (.Name x p) (mC (.int i)) := by
  obtain ⟨t, h⟩ := h
  exact je_const (pe_glob (v := .int i) hg h ⟨t, rfl⟩ hd) rfl
theorem je_cint {i : Int} {j : Nat} : JE T X W (.Constant (.int i) j p) (mC (.int i)) := je_const pe_int rfl
theorem je_cstr {x : Str} {j : Nat} : JE T X W (.Constant (.str x) j p) (mC (.str x)) := je_const pe_str rfl
theorem je_cbl {x : Bool} {j : Nat} : JE T X W (.Constant (.bool x) j p) (mC (.bl x)) := je_const pe_bl rfl
theorem je_cnon {j : Nat} : JE T X W (.Constant .none j p) (mC .non) := je_const pe_non rfl
theorem je_v (i : Nat) {x : Str} (hN : X.N[i]? = some x := by rfl) (hv : Vis X.env.scope x := by first | exact Or.inl rfl | exact Or.inr (Or.inl rfl) | exact Or.inr (Or.inr rfl)) (hd : (x == ("__debug__" : Str)) = false := by decide)
    (hcd : (x == ("__classdict__" : Str)) = false := by decide) : JE T X W (.Name x p) (mVar i) := je_pe_var (pv i hN hv hd hcd)
theorem jb_v (i : Nat) {x : Str} (hN : X.N[i]? = some x := by rfl) (hv : Vis X.env.scope x := by first | exact Or.inl rfl | exact Or.inr (Or.inl rfl) | exact Or.inr (Or.inr rfl)) (hd : (x == ("__debug__" : Str)) = false := by decide)
    (hcd : (x == ("__classdict__" : Str)) = false := by decide) : JB T X W (.Name x p) (mOwn i) := jb_own (pv i hN hv hd hcd)
theorem jg_v (i : Nat) {x : Str} (hN : X.N.Nodup) (hi : X.N[i]? = some x := by rfl) (hx : Loc X.env.scope x := by first | exact Or.inl rfl | exact Or.inr rfl) (hf : X.fn x = true ∨ X.env.scope.names.lookup x = some .local := by first | exact .inl rfl | exact .inr rfl) : JG T X (.Name x p) [i] (setV i) := jg_name (pg_name hN hi hx hf)
/-- a[lo:hi] -/
def mPart (g : Ev D) : Ev (Option Int) := fun ρ => (g ρ).bind fun d ρ' => match d with
  | .int i => .ok (some i) ρ'
  | _ => .stuck
def mNoPart : Ev (Option Int) := fun ρ => .ok none ρ
def rdP (K : PySem.W.Frag) (T : Txt) (W : WX) (ρ : VEnv) : R (Option Int) → TO
  | .stuck => fun _ _ _ => False
  | .ok b ρ' => fun σ H Q => ∃ F Z L, Rel K T F Z L σ ρ H ∧ ∀ F' H', Ex F F' → Rel K T F' Z L σ ρ' H' → Q b H'
  | .ex c ds ρ' => fun σ H _ => ∃ F Z L, Rel K T F Z L σ ρ H ∧ ∀ cls dd F' H', Ex F F' → Rel K T F' Z L σ ρ' H' → ExR K T F' cls dd c ds → W cls dd σ H'
def JP (T : Txt) (X : Cx) (W : WX) (e : Option Expr) (g : Ev (Option Int)) : Prop := ∀ ρ, PO X e (rdP X.K T W ρ (g ρ))
theorem po_weak {o : Option Expr} {t t' : TO} (h : PO X o t) (w : ∀ σ H Q, t' σ H Q → t σ H Q) : PO X o t' := ⟨fun pins s σ H Q I q => h.run pins s σ H Q I (w σ H Q q)⟩
theorem po_no {o : Option Expr} : PO X o (fun _ _ _ => False) := ⟨fun _ _ _ _ _ _ h => h.elim⟩
theorem jp_none : JP T X W none mNoPart := fun ρ => po_weak po_none fun σ H Q ⟨F, Z, L, r, k⟩ => k F H (Ex.refl F) r
theorem jp_some {g : Ev D} (h : JE T X W a g) : JP T X W (some a) (mPart g) := fun ρ => by
  have p1 := h ρ
  unfold mPart
  cases q1 : g ρ with
  | stuck => exact po_no
  | ex c ds ρ1 => rw [q1] at p1; exact po_weak (po_some p1) fun σ H Q q => q
  | ok d ρ1 =>
    rw [q1] at p1
    simp only [R.bind_ok]
    cases d with
    | int i => exact po_weak (po_some p1) fun σ H Q ⟨F, Z, L, r, k⟩ => ⟨F, Z, L, r, fun v F1 H1 e1 r1 x1 => ⟨i, x1, k F1 H1 e1 r1⟩⟩
    | _ => exact po_no
def mSlice (g : Ev D) (lo hi : Ev (Option Int)) : Ev D := fun ρ => (g ρ).bind fun d ρ1 => (lo ρ1).bind fun l ρ2 => (hi ρ2).bind fun u ρ3 => R.of (slD d l u) ρ3
theorem je_slice {lo hi : Option Expr} {p2 : Pos} {g : Ev D} {gl gh : Ev (Option Int)} (ha : JE T X W a g) (hl : JP T X W lo gl) (hh : JP T X W hi gh) : JE T X W (.Subscript a (.Slice lo hi none p2) pos) (mSlice g gl gh) := fun ρ => by
  have h1 := ha ρ
  unfold mSlice
  cases q1 : g ρ with
  | stuck => exact pe_no
  | ex c ds ρ1 => rw [q1] at h1; exact pe_weak (pe_slice sl_any h1 po_no po_no) fun σ H Q h => h
  | ok x ρ1 =>
    rw [q1] at h1
    have h2 := hl ρ1
    simp only [R.bind_ok]
    cases q2 : gl ρ1 with
    | stuck => exact pe_no
    | ex c ds ρ2 =>
      rw [q2] at h2
      exact pe_weak (pe_slice sl_any h1 h2 po_no) fun σ H Q ⟨F, Z, L, r, k⟩ => ⟨F, Z, L, r, fun v F1 H1 e1 r1 p1 => ⟨F1, Z, L, r1, fun cls dd F2 H2 e2 r2 x2 => k cls dd F2 H2 (e1.trans e2) r2 x2⟩⟩
    | ok l ρ2 =>
      rw [q2] at h2
      have h3 := hh ρ2
      simp only [R.bind_ok]
      cases q3 : gh ρ2 with
      | stuck => exact pe_no
      | ex c ds ρ3 =>
        rw [q3] at h3
        exact pe_weak (pe_slice sl_any h1 h2 h3) fun σ H Q ⟨F, Z, L, r, k⟩ => ⟨F, Z, L, r, fun v F1 H1 e1 r1 p1 => ⟨F1, Z, L, r1, fun F2 H2 e2 r2 => ⟨F2, Z, L, r2, fun cls dd F3 H3 e3 r3 x3 => k cls dd F3 H3 ((e1.trans e2).trans e3) r3 x3⟩⟩⟩
      | ok u ρ3 =>
        rw [q3] at h3
        simp only [R.bind_ok]
        cases q4 : slD x l u with
        | none => exact pe_no
        | some z =>
          exact pe_weak (pe_slice sl_any h1 h2 h3) fun σ H Q ⟨F, Z, L, r, k⟩ => ⟨F, Z, L, r, fun v F1 H1 e1 r1 p1 => ⟨F1, Z, L, r1, fun F2 H2 e2 r2 => ⟨F2, Z, L, r2, fun F3 H3 e3 r3 =>
            slv_any q4 r3.exF (((p1.mono e2).mono e3).b r3.exF) fun w F4 H4 g p4 => k w F4 H4 (((e1.trans e2).trans e3).trans g.1) (g.2 _ _ _ _ r3) p4⟩⟩⟩
/-- sep.join(xs) -/
def strsOf : List D → Option (List Str)
  | [] => some []
  | .str x :: ds => (strsOf ds).map (x :: ·)
  | _ => none
end
end VS
namespace VS
open PySem L2 PySem.Spec PyProof.Rows
theorem fnG_def' {T : Txt} {P : Program} {w : World} {K : PySem.W.Frag} {mg : Str → Option Value} {base : Heap} {k n m : Nat} {x qual : Str} {pa : Arguments} {bd : List Stmt} {sc : Scope} {dvs : List V} {kws : List (Str × V)} {f : Addr} {fd : FuncData} {N ps : List Str} {h : VEnv → RS} {G : Fn}
    (D0 : FunD K x qual pa bd sc dvs kws f fd) (S : FnScope N ps sc) (hn : N.length = n) (hm : ps.length = m) (hG : G = runG n h)
    (hb : ∀ {cdv A outer s H E}, A.guards = some [] → Room k (A.deeper (envOfC qual sc s.heap.objs.size f cdv)) → Takes (cxOf (L2.CX P w) P w K mg base N qual sc f cdv A outer s H E) (fun cls dd _ H => E cls dd H) →
      PassesOwn (model P w) (cxOf (L2.CX P w) P w K mg base N qual sc f cdv A outer s H E).A (cxOf (L2.CX P w) P w K mg base N qual sc f cdv A outer s H E).env (cxOf (L2.CX P w) P w K mg base N qual sc f cdv A outer s H E).xe →
      JSs T (cxOf (L2.CX P w) P w K mg base N qual sc f cdv A outer s H E) (fun cls dd _ H => E cls dd H) bd h) :
    FnG P w K mg base (k + 1) f fd ps (spG K T G m) := by
  subst hn hm hG
  exact fnG_def D0 S fun {cdv A outer s H E} hA hr => hb hA hr (takes_of rfl rfl rfl rfl) (passes_of rfl)
end VS
set_option maxHeartbeats 2000000
namespace VS
open PySem L2 PySem.Spec PyProof.Rows
section
variable {T : Txt} {X : Cx} {W : WX} {st : Stmt} {sts : List Stmt} {tg e a b c : Expr} {es : List Expr} {pos p : Pos} {K : PySem.W.Frag}
/-! ### what never comes -/
def mNever : VEnv → RS := fun _ => .stuck
theorem js_never : JS T X W st mNever := fun ρ => ⟨fun _ _ _ _ _ _ ⟨_, _, _, _, z⟩ => z.elim⟩
theorem js_nevers : JSs T X W sts mNever := fun ρ => ⟨fun _ _ _ _ _ _ ⟨_, _, _, _, z⟩ => z.elim⟩
theorem js_stuck {h : VEnv → RS} {ρ : VEnv} (q : h ρ = .stuck) : PS X st (rdS X.K T W ρ (h ρ)) := by rw [q]; exact js_never ρ
/-! ### a, b = x, y -/
def setVS (i : Nat) (d : D) (ρ : VEnv) (k : VEnv → RS) : RS := match setV i d ρ with
  | some ρ' => k ρ'
  | none => .stuck
def setOS (i : Nat) (m : MO) (ρ : VEnv) (k : VEnv → RS) : RS := match setO i m ρ with
  | some ρ' => k ρ'
  | none => .stuck
def mParEE (i j : Nat) (ga gb : Ev D) : VEnv → RS := fun ρ => (ga ρ).thenS fun x ρ1 => (gb ρ1).thenS fun y ρ2 => setVS i x ρ2 fun ρ3 => setVS j y ρ3 .nx
def mParEF (i j : Nat) (ga : Ev D) (gb : Ev MO) : VEnv → RS := fun ρ => (ga ρ).thenS fun x ρ1 => (gb ρ1).thenM fun y ρ2 => setVS i x ρ2 fun ρ3 => setOS j y ρ3 .nx
theorem setVS_ks {F Z : Hp} {L : Nat → Option Addr} {N : Ends} {i : Nat} {d : D} {ρ : VEnv} {k : VEnv → RS} (h : KS K T W F Z L N (setVS i d ρ k)) : ∃ ρ', setV i d ρ = some ρ' ∧ KS K T W F Z L N (k ρ') := by
  unfold setVS at h
  split at h
  · rename_i ρ' q; exact ⟨ρ', q, h⟩
  · exact h.elim
theorem setOS_ks {F Z : Hp} {L : Nat → Option Addr} {N : Ends} {i : Nat} {d : MO} {ρ : VEnv} {k : VEnv → RS} (h : KS K T W F Z L N (setOS i d ρ k)) : ∃ ρ', setO i d ρ = some ρ' ∧ KS K T W F Z L N (k ρ') := by
  unfold setOS at h
  split at h
  · rename_i ρ' q; exact ⟨ρ', q, h⟩
  · exact h.elim
section
variable {i j : Nat} {x y : Str} {px py pt pt2 : Pos} {kt k2 : Nat}
theorem js_parEE {ga gb : Ev D} (hc : X.calm = true) (hN : X.N.Nodup) (hi : X.N[i]? = some x) (hj : X.N[j]? = some y) (hij : i ≠ j) (hx : X.env.scope.names.lookup x = some .local) (hy : X.env.scope.names.lookup y = some .local)
    (ha : JE T X W a ga) (hb : JE T X W b gb) (hw : swappedStores [.Tuple [.Name x px, .Name y py] kt pt] (.Tuple [a, b] k2 pt2) X.env = pure (some [x, y]))
    (hs : starEach [a, b] X.env = (false, eval a X.env) :: starEach [b] X.env := by rfl) (hs2 : starEach [b] X.env = (false, eval b X.env) :: starEach [] X.env := by rfl) :
    JS T X W (.Assign [.Tuple [.Name x px, .Name y py] kt pt] (.Tuple [a, b] k2 pt2) pos) (mParEE i j ga gb) := fun ρ => by
  have rule : ∀ ta tb, PE X a ta → PE X b tb → PS X (.Assign [.Tuple [.Name x px, .Name y py] kt pt] (.Tuple [a, b] k2 pt2) pos) (tPar i j (tCons ta (tCons tb tNil))) :=
    fun ta tb h1 h2 => ps_par hc hN hi hj hij hx hy (pa_cons h1 (pa_cons h2 pa_nil hs2) hs) hw
  have p1 := ha ρ
  unfold mParEE
  cases q1 : ga ρ with
  | stuck => exact js_never ρ
  | ex c ds ρ1 => rw [q1] at p1; exact ps_weak (rule _ _ p1 pe_no) fun N σ H ⟨F, Z, L, r, k⟩ => ⟨F, Z, L, r, fun cls dd F' H' e r' x => k cls dd σ F' H' e r' x⟩
  | ok d ρ1 =>
    rw [q1] at p1
    have p2 := hb ρ1
    simp only [R.thenS_ok]
    cases q2 : gb ρ1 with
    | stuck => exact js_never ρ
    | ex c ds ρ2 => rw [q2] at p2; exact ps_weak (rule _ _ p1 p2) fun N σ H ⟨F, Z, L, r, k⟩ => ⟨F, Z, L, r, fun v F1 H1 e1 r1 x1 => ⟨F1, Z, L, r1, fun cls dd F' H' e r' x => k cls dd σ F' H' (e1.trans e) r' x⟩⟩
    | ok d2 ρ2 =>
      rw [q2] at p2
      refine ps_weak (rule _ _ p1 p2) fun N σ H ⟨F, Z, L, r, k⟩ => ⟨F, Z, L, r, fun v F1 H1 e1 r1 x1 => ⟨F1, Z, L, r1, fun w F2 H2 e2 r2 x2 => ?_⟩⟩
      obtain ⟨ρ3, q3, k⟩ := setVS_ks k
      obtain ⟨ρ4, q4, k⟩ := setVS_ks k
      exact ⟨v, w, rfl, k _ F2 H2 (e1.trans e2) ((r2.setV q3 (x1.mono e2)).setV q4 x2)⟩
theorem js_parEF {ga : Ev D} {gb : Ev MO} (hc : X.calm = true) (hN : X.N.Nodup) (hi : X.N[i]? = some x) (hj : X.N[j]? = some y) (hij : i ≠ j) (hx : X.env.scope.names.lookup x = some .local) (hy : X.env.scope.names.lookup y = some .local)
    (ha : JE T X W a ga) (hb : JF T X W b gb) (hw : swappedStores [.Tuple [.Name x px, .Name y py] kt pt] (.Tuple [a, b] k2 pt2) X.env = pure (some [x, y]))
    (hs : starEach [a, b] X.env = (false, eval a X.env) :: starEach [b] X.env := by rfl) (hs2 : starEach [b] X.env = (false, eval b X.env) :: starEach [] X.env := by rfl) :
    JS T X W (.Assign [.Tuple [.Name x px, .Name y py] kt pt] (.Tuple [a, b] k2 pt2) pos) (mParEF i j ga gb) := fun ρ => by
  have rule : ∀ ta tb, PE X a ta → PE X b tb → PS X (.Assign [.Tuple [.Name x px, .Name y py] kt pt] (.Tuple [a, b] k2 pt2) pos) (tPar i j (tCons ta (tCons tb tNil))) :=
    fun ta tb h1 h2 => ps_par hc hN hi hj hij hx hy (pa_cons h1 (pa_cons h2 pa_nil hs2) hs) hw
  have p1 := ha ρ
  unfold mParEF
  cases q1 : ga ρ with
  | stuck => exact js_never ρ
  | ex c ds ρ1 => rw [q1] at p1; exact ps_weak (rule _ _ p1 pe_no) fun N σ H ⟨F, Z, L, r, k⟩ => ⟨F, Z, L, r, fun cls dd F' H' e r' x => k cls dd σ F' H' e r' x⟩
  | ok d ρ1 =>
    rw [q1] at p1
    have p2 := hb ρ1
    simp only [R.thenS_ok]
    cases q2 : gb ρ1 with
    | stuck => exact js_never ρ
    | ex c ds ρ2 => rw [q2] at p2; exact ps_weak (rule _ _ p1 p2) fun N σ H ⟨F, Z, L, r, k⟩ => ⟨F, Z, L, r, fun v F1 H1 e1 r1 x1 => ⟨F1, Z, L, r1, fun cls dd F' H' e r' x => k cls dd σ F' H' (e1.trans e) r' x⟩⟩
    | ok d2 ρ2 =>
      rw [q2] at p2
      refine ps_weak (rule _ _ p1 p2) fun N σ H ⟨F, Z, L, r, k⟩ => ⟨F, Z, L, r, fun v F1 H1 e1 r1 x1 => ⟨F1, Z, L, r1, fun a o F2 H2 e2 hz r2 x2 => ?_⟩⟩
      obtain ⟨ρ3, q3, k⟩ := setVS_ks k
      obtain ⟨ρ4, q4, k⟩ := setOS_ks k
      exact ⟨v, .ref a, rfl, k _ F2 H2 (e1.trans e2) ((r2.setV q3 (x1.mono e2)).setO hz q4 x2)⟩
end
/-! ### sep.join(xs) -/
def joinD (z : Str) : D → Option D := fun d => match seqOf d with
  | some ds => match d with
    | .str _ => none
    | _ => (strsOf ds).bind fun ys => if (ys.map (·.length)).sum + ys.length * z.length ≤ 16777216 then some (.str (Txt.join z ys)) else none
  | none => none
theorem strsOf_reps {F : Hp} : ∀ {ds : List D} {ys : List Str} {vs : List V}, strsOf ds = some ys → Reps K T F ds vs → vs = ys.map V.str
  | [], ys, vs, h, r => by cases h; exact r
  | d :: ds, ys, vs, h, ⟨v, ws, e1, h1, r⟩ => by
    cases d <;> simp only [strsOf, reduceCtorEq] at h
    rename_i x
    cases q : strsOf ds with
    | none => rw [q] at h; cases h
    | some zs => rw [q] at h; cases h; rw [e1, show v = _ from h1, strsOf_reps q r]; rfl
theorem je_join {z : Str} {j : Nat} {p1 apos : Pos} {g : Ev D} (ha : JE T X W a g)
    (h1 : attributeBase (.Constant (.str z) j p1) "join" X.env (eval (.Constant (.str z) j p1) X.env) = eval (.Constant (.str z) j p1) X.env := by rfl) (h3 : (apos.endLine == pos.line) = true := by rfl)
    (h4 : starEach [a] X.env = [(false, eval a X.env)] := by rfl) : JE T X W (.Call (.Attribute (.Constant (.str z) j p1) "join" apos) [a] [] pos) (mCall1 (joinD z) g) := fun ρ => by
  have p1 := ha ρ
  unfold mCall1
  cases q1 : g ρ with
  | stuck => exact pe_no
  | ex c ds ρ1 => rw [q1] at p1; exact pe_weak (pe_join pe_str p1 h4 h1 h3) fun σ H Q q => ⟨⟨_, rfl⟩, q⟩
  | ok d ρ1 =>
    rw [q1] at p1
    simp only [R.bind_ok]
    cases q2 : joinD z d with
    | none => exact pe_no
    | some u =>
      refine pe_weak (pe_join pe_str p1 h4 h1 h3) fun σ H Q ⟨F, Z, L, r, k⟩ => ⟨⟨_, rfl⟩, F, Z, L, r, fun v F1 H1 e1 r1 x1 => ?_⟩
      unfold joinD at q2
      have fin : ∀ ds ys, strsOf ds = some ys → (ys.map (·.length)).sum + ys.length * z.length ≤ 16777216 → u = .str (Txt.join z ys) → (∃ p vs, v = .ref p ∧ (SqL X.K H1 p vs ∨ SqT X.K H1 p vs) ∧ Reps X.K T F1 ds vs) →
          ∃ a p, ∃ ys : List Str, V.str z = .str a ∧ [v] = [.ref p] ∧ (SqL X.K H1 p (ys.map V.str) ∨ SqT X.K H1 p (ys.map V.str)) ∧ (ys.map (·.length)).sum + ys.length * a.length ≤ 16777216 ∧ Q (.str (Txt.join a ys)) H1 := by
        intro ds ys h1 h2 h3 ⟨p, vs, e2, h4, h5⟩
        rw [strsOf_reps h1 h5] at h4
        subst h3
        exact ⟨z, p, ys, rfl, by rw [e2], h4, h2, k _ F1 H1 e1 r1 rfl⟩
      cases d with
      | tup xs =>
        simp only [seqOf] at q2
        cases q3 : strsOf xs with
        | none => rw [q3] at q2; cases q2
        | some ys =>
          rw [q3] at q2
          simp only [Option.bind_some] at q2
          split at q2
          · rename_i hz
            obtain ⟨a, vs, rfl, h5, rr⟩ := x1
            exact fin xs ys q3 hz (by cases q2; rfl) ⟨a, vs, rfl, .inr (r1.exF.sqT h5), rr⟩
          · cases q2
      | lst xs =>
        simp only [seqOf] at q2
        cases q3 : strsOf xs with
        | none => rw [q3] at q2; cases q2
        | some ys =>
          rw [q3] at q2
          simp only [Option.bind_some] at q2
          split at q2
          · rename_i hz
            obtain ⟨a, vs, rfl, h5, rr⟩ := x1
            exact fin xs ys q3 hz (by cases q2; rfl) ⟨a, vs, rfl, .inl (SqL.of (r1.exF _ _ h5)), rr⟩
          · cases q2
      | frl xs =>
        simp only [seqOf] at q2
        cases q3 : strsOf xs with
        | none => rw [q3] at q2; cases q2
        | some ys =>
          rw [q3] at q2
          simp only [Option.bind_some] at q2
          split at q2
          · rename_i hz
            obtain ⟨a, vs, rfl, h5, rr⟩ := x1
            exact fin xs ys q3 hz (by cases q2; rfl) ⟨a, vs, rfl, .inl (r1.exF.sqL h5), rr⟩
          · cases q2
      | _ => simp [seqOf] at q2
end
end VS
set_option maxHeartbeats 2000000
namespace VS
open PySem L2 PySem.Spec PyProof.Rows
/-! ### t[::-1] of a tuple -/
section
variable {prog : Program} {w : World} {A : Around} {E : Value → Shared → Prop} {s : Shared} {sl : Addr} {v1 v2 v3 : Value}
/-- from the last one down to the first, all of them -/
theorem down_all {n : Nat} {Q : Int × Int × Nat → Shared → Prop} (obj : s.heap.IsSliceOf sl v1 v2 v3) (p1 : IsPart v1 none) (p2 : IsPart v2 none) (p3 : IsPart v3 (some (-1))) (then_ : Q ((n : Int) - 1, -1, n) s) :
    wpAny (model prog w) A (Builtin.Slice.sliceApplied (.ref sl) (pure (n : Int))) Q E s := by
  have count : Builtin.Slice.slicePlaces ((n : Int) - 1) (-1) (-1) = n := by
    simp only [Builtin.Slice.slicePlaces]
    rw [if_neg (by decide), show (- -1 : Int) = 1 from rfl, Int.ediv_one]
    split <;> omega
  have ends : Builtin.Slice.sliceAdjust none none (-1) (n : Int) = ((n : Int) - 1, -1) := rfl
  have obj' := obj
  obtain ⟨ob, at_ob, _, flds⟩ := obj'
  simp only [Builtin.Slice.sliceApplied, Builtin.Slice.sliceFields]
  refine wpAny_bind (wpAny_bind (wpAny_field at_ob flds (x := v1) rfl (wpAny_bind (wpAny_field at_ob flds (x := v2) rfl (wpAny_bind (wpAny_field at_ob flds (x := v3) rfl (wpAny_pure (wpAny_bind (HT.slicePart_ p3 ?_)))))))))
  show wpAny _ _ (ite (((-1 : Int) == 0) = true) _ _) _ _ s
  rw [if_neg (by decide)]
  refine wpAny_bind (HT.slicePart_ p1 (wpAny_bind (HT.slicePart_ p2 (wpAny_bind (wpAny_pure ?_)))))
  refine wpAny_pure ?_
  show Q ((Builtin.Slice.sliceAdjust none none (-1) (n : Int)).fst, -1, Builtin.Slice.slicePlaces (Builtin.Slice.sliceAdjust none none (-1) (n : Int)).fst (Builtin.Slice.sliceAdjust none none (-1) (n : Int)).snd (-1)) s
  rw [ends, count]
  exact then_
theorem pick_down (xs : Array Value) : ((List.range xs.size).filterMap fun (k : Nat) => xs[((xs.size : Int) - 1 + (k : Int) * (-1)).toNat]?).toArray = xs.toList.reverse.toArray := by
  have turned : ∀ k : Nat, xs[((xs.size : Int) - 1 + (k : Int) * (-1)).toNat]? = xs[xs.size - 1 - k]? := fun k => by
    rw [show ((xs.size : Int) - 1 + (k : Int) * (-1)).toNat = xs.size - 1 - k by omega]
  simp only [turned]
  have := List.filterMap_map (f := fun k => xs.size - 1 - k) (g := fun k => xs[k]?) (l := List.range xs.size)
  rw [PySem.W.krv_range, List.filterMap_reverse, PySem.W.krv_all] at this
  rw [show (fun k => xs[xs.size - 1 - k]?) = (fun k => xs[k]?) ∘ fun k => xs.size - 1 - k from rfl, ← this]
theorem item_down {t : Addr} {items : Array Value} {Q : Value → Shared → Prop} (tup : IsTup s.heap t items) (obj : s.heap.IsSliceOf sl v1 v2 v3) (p1 : IsPart v1 none) (p2 : IsPart v2 none) (p3 : IsPart v3 (some (-1))) (few : items.size ≤ sizeLine)
    (then_ : Q (.ref s.heap.objs.size) { s with heap := s.heap.push { cls := .type "tuple", data := .seq items.toList.reverse.toArray } }) : wpAny (model prog w) A (getItem (.ref t) (.ref sl)) Q E s := by
  have fits : sizeOk (.seq items.toList.reverse.toArray) := by simpa [sizeOk] using few
  have slice_ : s.TypeIs (.ref sl) "slice" := let ⟨ob, at_ob, c, _⟩ := obj; ⟨ob, at_ob, c⟩
  simp only [getItem]
  try with_reducible apply wpAny_holding
  try apply wpAny_bind; apply wpAny_pure
  refine wpAny_bind (wpAny_sequenceKey tup.typeIs (by decide) (wpAny_bind (wpAny_callSpecial?_slot (name := Str.ofString "__getitem__") tup.typeIs PyProof.Rows.slot_tuple_getitem (wpAny_call_entry PyProof.Rows.slot_tuple_getitem tup.typeIs entry_tuple_getitem ?_ (args_tuple_getitem _ _)))))
  refine wpAny_bind (m := Builtin.Tuple.tupleItemsOf (.ref t)) (tupleItemsOf_ tup (wpAny_bind (wpAny_typeOf slice_ ?_)))
  rw [if_pos (by decide)]
  refine wpAny_bind (down_all obj p1 p2 p3 ?_)
  show wpAny _ _ (ite (((items.size : Int) - 1 == 0 && (-1 : Int) == 1 && items.size == items.size) = true) _ _) _ _ s
  rw [if_neg (by simp), pick_down]
  first
    | exact wpAny_bind (m := Builtin.Tuple.tupleExact _) (wpAny_newObj_type (wpAny_pure ⟨_, rfl, wpAny_pure then_⟩) fits)
    | exact wpAny_bind (m := Builtin.Tuple.tupleExact _) (wpAny_newObj_type (wpAny_bind (wpAny_pure (wpAny_pure ⟨_, rfl, wpAny_pure then_⟩))) fits)
    | exact wpAny_bind (wpAny_bind (m := Builtin.Tuple.tupleExact _) (wpAny_newObj_type (wpAny_pure (wpAny_pure ⟨_, rfl, wpAny_pure then_⟩)) fits))
    | exact wpAny_bind (wpAny_bind (m := Builtin.Tuple.tupleExact _) (wpAny_newObj_type (wpAny_pure ⟨_, rfl, wpAny_pure then_⟩) fits))
end
section
variable {T : Txt} {X : Cx} {W : WX} {st : Stmt} {sts : List Stmt} {tg e a b c : Expr} {es : List Expr} {pos p : Pos} {K : PySem.W.Frag}
def tRevT (K : PySem.W.Frag) (te : TE) : TE := fun σ H Q => te σ H fun x H1 => ∃ a xs, x = .ref a ∧ SqT K H1 a xs ∧ ∀ p, H1 p = none → Q (.ref p) (upd H1 p (.tup xs.reverse))
theorem pe_revT {te : TE} {k : Nat} {p1 p2 p3 : Pos} (he : PE X e te) : PE X (.Subscript e (.Slice none none (some (.UnaryOp .USub (.Constant (.int 1) k p1) p2)) p3) pos) (tRevT X.K te) := by
  have step : PO X (some (.UnaryOp .USub (.Constant (.int 1) k p1) p2)) (tPart (tUn (rU fun i => .int (-i)) (tC (.int 1)))) := po_some (pe_un un_neg pe_int)
  refine ⟨fun pins s σ H Q I h => Subscript_ (thn (he.run pins s σ H _ I h) ?_)⟩
  rintro _ s1 ⟨_, H1, J1, rel, t, xs, rfl, sq, then_⟩
  cases rel
  refine wpAny_Slice (thn (po_none.run pins s1 σ H1 (fun o G => o = none ∧ G = H1) J1 ⟨rfl, rfl⟩) ?_)
  rintro v1 s2 ⟨_, _, J2, is1, rfl, rfl⟩
  refine thn (po_none.run pins s2 σ _ (fun o G => o = none ∧ G = _) J2 ⟨rfl, rfl⟩) ?_
  rintro v2 s3 ⟨_, _, J3, is2, rfl, rfl⟩
  refine thn (step.run pins s3 σ _ (fun o G => o = some (-1) ∧ G = _) J3 ⟨1, rfl, -1, rfl, rfl, rfl⟩) ?_
  rintro v3 s4 ⟨_, _, J4, is3, rfl, rfl⟩
  have J5 := J4.kept (h' := s4.heap.push { cls := .type "slice", data := .fields #[v1, v2, v3] }) (t' := s4.toks) fun b ob q => Heap.get?_push_of_some _ q
  obtain ⟨its, vals, tup, few⟩ := J5.tuple sq
  show wpAny (model X.prog X.w) X.A (subscriptTail e (.Slice none none (some (.UnaryOp .USub (.Constant (.int 1) k p1) p2)) p3) (.ref t) (.ref s4.heap.objs.size)) (EP X pins σ Q) X.xe _
  refine tail_any (ops := [.ref t, .ref s4.heap.objs.size]) tup.typeIs PyProof.Rows.slot_tuple_getitem.lookup ?_ (by with_unfolding_all rfl)
  refine item_down tup (Heap.IsSliceOf.new _ v1 v2 v3) is1 is2 is3 (by rw [List.size_toArray, ← vals.length]; exact few) ?_
  refine ⟨.ref _, _, J5.laid (t' := s4.toks) (o := .tup xs.reverse) (fun b ob q => Heap.get?_push_of_some _ q) (Nat.le_refl _) ?_, rfl, then_ _ (J5.hok.fresh (Nat.le_refl _))⟩
  refine ⟨?_, _, vals.reverse, _, Heap.get?_push_size _ rfl, rfl, _, rfl⟩
  rw [List.length_reverse]
  exact few
def revD : D → Option D
  | .lst xs => some (.lst xs.reverse)
  | .frl xs => some (.lst xs.reverse)
  | .tup xs => some (.tup xs.reverse)
  | _ => none
theorem Reps.reverse {F : Hp} : ∀ {ds : List D} {vs : List V}, Reps K T F ds vs → Reps K T F ds.reverse vs.reverse
  | [], vs, h => by rw [show vs = _ from h]; exact rfl
  | d :: ds, vs, ⟨v, ws, e1, h, r⟩ => by
    rw [e1, List.reverse_cons, List.reverse_cons]
    exact (Reps.reverse r).append (Reps.one h)
theorem je_rev {k : Nat} {p1 p2 p3 : Pos} {g : Ev D} (ha : JE T X W a g) : JE T X W (.Subscript a (.Slice none none (some (.UnaryOp .USub (.Constant (.int 1) k p1) p2)) p3) pos) (mCall1 revD g) := fun ρ => by
  have h1 := ha ρ
  unfold mCall1
  cases q1 : g ρ with
  | stuck => exact pe_no
  | ex c ds ρ1 => rw [q1] at h1; exact pe_weak (pe_revL h1) fun σ H Q q => q
  | ok d ρ1 =>
    rw [q1] at h1
    simp only [R.bind_ok]
    cases d with
    | tup xs =>
      refine pe_weak (pe_revT h1) fun σ H Q ⟨F, Z, L, r, k⟩ => ⟨F, Z, L, r, fun v F1 H1 e1 r1 ⟨q, vs, ev, hs, rr⟩ => ⟨q, vs, ev, r1.exF.sqT hs, fun p hp => ?_⟩⟩
      have g := Grow.new (K := X.K) (T := T) (o := HO.tup vs.reverse) r1.exF hp
      exact k _ _ _ (e1.trans g.1) (g.2 _ _ _ _ r1) ⟨p, _, rfl, SqT.of upd_same, rr.reverse.mono g.1⟩
    | lst xs =>
      refine pe_weak (pe_revL h1) fun σ H Q ⟨F, Z, L, r, k⟩ => ⟨F, Z, L, r, fun v F1 H1 e1 r1 ⟨q, vs, ev, hs, rr⟩ => ⟨q, vs, ev, SqL.of (r1.exF _ _ hs), fun p hp => ?_⟩⟩
      have g := Grow.new (K := X.K) (T := T) (o := HO.lst vs.reverse) r1.exF hp
      exact k _ _ _ (e1.trans g.1) (g.2 _ _ _ _ r1) ⟨p, _, rfl, upd_same, rr.reverse.mono g.1⟩
    | frl xs =>
      refine pe_weak (pe_revL h1) fun σ H Q ⟨F, Z, L, r, k⟩ => ⟨F, Z, L, r, fun v F1 H1 e1 r1 ⟨q, vs, ev, hs, rr⟩ => ⟨q, vs, ev, r1.exF.sqL hs, fun p hp => ?_⟩⟩
      have g := Grow.new (K := X.K) (T := T) (o := HO.lst vs.reverse) r1.exF hp
      exact k _ _ _ (e1.trans g.1) (g.2 _ _ _ _ r1) ⟨p, _, rfl, upd_same, rr.reverse.mono g.1⟩
    | _ => exact pe_no
/-! ### -x -/
def negD : D → Option D
  | .int i => some (.int (-i))
  | _ => none
theorem je_neg {g : Ev D} (ha : JE T X W a g) : JE T X W (.UnaryOp .USub a pos) (mCall1 negD g) := fun ρ => by
  have h1 := ha ρ
  unfold mCall1
  cases q1 : g ρ with
  | stuck => exact pe_no
  | ex c ds ρ1 => rw [q1] at h1; exact pe_weak (pe_un un_neg h1) fun σ H Q q => q
  | ok d ρ1 =>
    rw [q1] at h1
    simp only [R.bind_ok]
    cases d with
    | int i => exact pe_weak (pe_un un_neg h1) fun σ H Q ⟨F, Z, L, r, k⟩ => ⟨F, Z, L, r, fun v F1 H1 e1 r1 x1 => ⟨i, x1, k _ F1 H1 e1 r1 rfl⟩⟩
    | _ => exact pe_no
end
end VS
set_option maxHeartbeats 2000000
namespace VS
open PySem L2 PySem.Spec PyProof.Rows
/-! ### sorted -/
def sle (x y : Str) : Bool := !decide (y.cps.toList < x.cps.toList)
def sortI (ns : List Int) : List Int := ns.mergeSort fun a b => decide (a ≤ b)
def sortS (xs : List Str) : List Str := xs.mergeSort sle
theorem sle_iff {x y : Str} : sle x y = true ↔ x.cps.toList ≤ y.cps.toList := by
  unfold sle
  simp [List.not_lt]
theorem sle_trans (x y z : Str) (h1 : sle x y = true) (h2 : sle y z = true) : sle x z = true := by
  rw [sle_iff] at *
  exact List.le_trans h1 h2
theorem sle_total (x y : Str) : (sle x y || sle y x) = true := by
  rw [Bool.or_eq_true, sle_iff, sle_iff]
  exact List.le_total _ _
theorem str_ext {x y : Str} (h : x.cps.toList = y.cps.toList) : x = y := by
  cases x; cases y
  simp only [Str.mk.injEq]
  exact Array.toList_inj.mp h
theorem sle_anti {x y : Str} (h1 : sle x y = true) (h2 : sle y x = true) : x = y := by
  rw [sle_iff] at h1 h2
  exact str_ext (List.le_antisymm h1 h2)
theorem risingS_pw : ∀ (xs : List Str) (p : Str), risingS p xs = true → (p :: xs).Pairwise fun a b => sle a b = true
  | [], p, _ => by simp
  | x :: r, p, h => by
    simp only [risingS, Bool.and_eq_true] at h
    have h1 : sle p x = true := by
      unfold sle
      have := h.1
      rw [ltCps_eq] at this
      exact this
    have ih := risingS_pw r x h.2
    refine List.pairwise_cons.mpr ⟨fun z hz => ?_, ih⟩
    rcases List.mem_cons.mp hz with e | e
    · rw [e]; exact h1
    · exact sle_trans p x z h1 ((List.pairwise_cons.mp ih).1 z e)
theorem sortedS_pw {xs : List Str} (h : sortedS xs = true) : xs.Pairwise fun a b => sle a b = true := by
  cases xs with
  | nil => exact .nil
  | cons x r => exact risingS_pw r x h
theorem sortS_unique {xs ys : List Str} (hp : ys.Perm xs) (h : sortedS ys = true) : ys = sortS xs :=
  List.Perm.eq_of_pairwise (fun x y _ _ h1 h2 => sle_anti h1 h2) (sortedS_pw h) (List.pairwise_mergeSort sle_trans sle_total xs) (hp.trans (List.mergeSort_perm xs sle).symm)
theorem sortI_unique {xs ys : List Int} (hp : ys.Perm xs) (h : ys.Pairwise (· ≤ ·)) : ys = sortI xs := by
  refine PySem.W.ksm_same (hp.trans (List.mergeSort_perm xs _).symm) h ?_
  have := List.pairwise_mergeSort (le := fun (a b : Int) => decide (a ≤ b)) (fun a b c h1 h2 => by simp only [decide_eq_true_eq] at *; omega) (fun a b => by simp only [Bool.or_eq_true, decide_eq_true_eq]; omega) xs
  exact this.imp fun h => by simpa using h
def sortedL (xs : List D) : Option D := match intsOf xs with
  | some ns => some (.lst ((sortI ns).map .int))
  | none => (strsOf xs).bind fun zs => if zs.length < 64 then some (.lst ((sortS zs).map .str)) else none
def sortedD : D → Option D
  | .lst xs => sortedL xs
  | .frl xs => sortedL xs
  | _ => none
section
variable {T : Txt} {X : Cx} {W : WX} {st : Stmt} {sts : List Stmt} {tg e a b c : Expr} {es : List Expr} {pos p : Pos} {K : PySem.W.Frag}
def rSortA (K : PySem.W.Frag) : List V → Hp → VK → Prop := fun vs H Q => rSortedI K vs H Q ∨ rSortedS K vs H Q
theorem cr_sortA : CallR X (.builtin "sorted") (rSortA X.K) := callr_or cr_sortedI cr_sortedS
theorem reps_ints {F : Hp} : ∀ (ns : List Int), Reps K T F (ns.map .int) (ns.map V.int)
  | [] => rfl
  | n :: ns => ⟨_, _, rfl, rfl, reps_ints ns⟩
theorem reps_strs {F : Hp} : ∀ (ns : List Str), Reps K T F (ns.map .str) (ns.map V.str)
  | [] => rfl
  | n :: ns => ⟨_, _, rfl, rfl, reps_strs ns⟩
theorem callv_sorted : CallV1 K T (rSortA K) sortedD := by
  intro d z h F H v Q e r k
  have core : ∀ xs, sortedL xs = some z → (∃ a vs, v = .ref a ∧ SqL K H a vs ∧ Reps K T F xs vs) → rSortA K [v] H Q := by
    intro xs h ⟨a, vs, ev, hs, rr⟩
    unfold sortedL at h
    split at h
    · rename_i ns q
      cases h
      rw [ints_rep q rr] at hs
      refine .inl ⟨a, ns, by rw [ev], hs, fun ns' p hp hw hn => ?_⟩
      rw [sortI_unique hp hw]
      have g := Grow.new (K := K) (T := T) (o := HO.lst ((sortI ns).map V.int)) e hn
      exact k _ _ _ g ⟨p, _, rfl, upd_same, reps_ints _⟩
    · cases q : strsOf xs with
      | none => rw [q] at h; cases h
      | some zs =>
        rw [q] at h
        simp only [Option.bind_some] at h
        split at h
        · rename_i hl
          cases h
          rw [strsOf_reps q rr] at hs
          refine .inr ⟨a, zs, by rw [ev], hs, hl, fun ys p hp hw hn => ?_⟩
          rw [sortS_unique hp hw]
          have g := Grow.new (K := K) (T := T) (o := HO.lst ((sortS zs).map V.str)) e hn
          exact k _ _ _ g ⟨p, _, rfl, upd_same, reps_strs _⟩
        · cases h
  cases d <;> simp only [sortedD, reduceCtorEq] at h
  · obtain ⟨a, vs, rfl, h1, rr⟩ := r
    exact core _ h ⟨a, vs, rfl, SqL.of h1, rr⟩
  · obtain ⟨a, vs, rfl, h1, rr⟩ := r
    exact core _ h ⟨a, vs, rfl, e.sqL h1, rr⟩
theorem je_sorted {g : Ev D} (hm : X.mg "sorted" = none) (ha : JB T X W a g) (hg : Gl X "sorted" := by rfl) (hs : starEach [a] X.env = (false, eval a X.env) :: starEach [] X.env := by rfl) : JE T X W (.Call (.Name "sorted" p) [a] [] pos) (mCall1 sortedD g) :=
  je_call1 (fun _ h => pe_callB cr_sortA hg hm (by decide +kernel) h (by decide) (by decide) hs rfl) callv_sorted ha hs
/-! ### zip of two tuples or two lists -/
def zipD : D → D → Option (List D)
  | .tup xs, .tup ys => some ((xs.zip ys).map fun q => .tup [q.1, q.2])
  | .lst xs, .lst ys => some ((xs.zip ys).map fun q => .tup [q.1, q.2])
  | _, _ => none
def mZip (ga gb : Ev D) : Ev (List D) := fun ρ => (ga ρ).bind fun x ρ1 => (gb ρ1).bind fun y ρ2 => R.of (zipD x y) ρ2
theorem zip_get {xs ys : List D} {i : Nat} {d : D} (h : ((xs.zip ys).map fun q => D.tup [q.1, q.2])[i]? = some d) : ∃ x y, xs[i]? = some x ∧ ys[i]? = some y ∧ d = .tup [x, y] := by
  rw [List.getElem?_map] at h
  cases q : (xs.zip ys)[i]? with
  | none => rw [q] at h; cases h
  | some z =>
    rw [q] at h
    cases h
    obtain ⟨h1, h2⟩ := List.getElem?_zip_eq_some.mp q
    exact ⟨z.1, z.2, h1, h2, rfl⟩
theorem itd_zipT {F : Hp} {a b : Addr} {vs ws : List V} {ds es : List D} (h1 : SqT K F a vs) (h2 : SqT K F b ws) (r1 : Reps K T F ds vs) (r2 : Reps K T F es ws) : ItD K T F (RZ.ItzT K a b) ((ds.zip es).map fun q => .tup [q.1, q.2]) where
  go := fun i H e hi => by
    have hl : i < vs.length ∧ i < ws.length := by rw [r1.length, r2.length]; simp at hi; omega
    exact ⟨vs, ws, vs[i], ws[i], e.sqT h1, e.sqT h2, by simp [hl.1], by simp [hl.2]⟩
  stop := fun H e => ⟨vs, ws, e.sqT h1, e.sqT h2, by rw [r1.length, r2.length]; simp; omega⟩
  yld := fun i d G H x H' e1 e2 hd y => by
    obtain ⟨t, u, v, rfl, hn, rfl, q1, q2⟩ := y
    obtain ⟨d1, d2, g1, g2, rfl⟩ := zip_get hd
    obtain ⟨v1, f1, f2⟩ := r1.get g1
    obtain ⟨v2, f3, f4⟩ := r2.get g2
    have x1 := q1 vs ((e1.trans e2).sqT h1)
    have x2 := q2 ws ((e1.trans e2).sqT h2)
    obtain rfl : v1 = u := Option.some.inj (f1.symm.trans x1)
    obtain rfl : v2 = v := Option.some.inj (f3.symm.trans x2)
    have g := Grow.new (K := K) (T := T) (o := HO.tup [v1, v2]) e2 hn
    exact ⟨_, g, ⟨t, _, rfl, SqT.of upd_same, ⟨_, _, rfl, (f2.mono e1).mono g.1, _, _, rfl, (f4.mono e1).mono g.1, rfl⟩⟩⟩
theorem itd_zipL {F : Hp} {a b : Addr} {vs ws : List V} {ds es : List D} (h1 : SqL K F a vs) (h2 : SqL K F b ws) (r1 : Reps K T F ds vs) (r2 : Reps K T F es ws) : ItD K T F (Itz K a b) ((ds.zip es).map fun q => .tup [q.1, q.2]) where
  go := fun i H e hi => by
    have hl : i < vs.length ∧ i < ws.length := by rw [r1.length, r2.length]; simp at hi; omega
    exact ⟨vs, ws, vs[i], ws[i], e.sqL h1, e.sqL h2, by simp [hl.1], by simp [hl.2]⟩
  stop := fun H e => ⟨vs, ws, e.sqL h1, e.sqL h2, by rw [r1.length, r2.length]; simp; omega⟩
  yld := fun i d G H x H' e1 e2 hd y => by
    obtain ⟨t, u, v, rfl, hn, rfl, q1, q2⟩ := y
    obtain ⟨d1, d2, g1, g2, rfl⟩ := zip_get hd
    obtain ⟨v1, f1, f2⟩ := r1.get g1
    obtain ⟨v2, f3, f4⟩ := r2.get g2
    have x1 := q1 vs ((e1.trans e2).sqL h1)
    have x2 := q2 ws ((e1.trans e2).sqL h2)
    obtain rfl : v1 = u := Option.some.inj (f1.symm.trans x1)
    obtain rfl : v2 = v := Option.some.inj (f3.symm.trans x2)
    have g := Grow.new (K := K) (T := T) (o := HO.tup [v1, v2]) e2 hn
    exact ⟨_, g, ⟨t, _, rfl, SqT.of upd_same, ⟨_, _, rfl, (f2.mono e1).mono g.1, _, _, rfl, (f4.mono e1).mono g.1, rfl⟩⟩⟩
theorem ji_zip {ga gb : Ev D} {elts : List Expr} {kk : Nat} {tpos : Pos} (hg : Gl X "zip") (hm : X.mg "zip" = none) (ha : JE T X W a ga) (hb : JE T X W b gb)
    (hs1 : starEach [a, b] X.env = (false, eval a X.env) :: starEach [b] X.env := by rfl) (hs2 : starEach [b] X.env = (false, eval b X.env) :: starEach [] X.env := by rfl) (hpl : (backTo pos (starEach [b] X.env)).any (·.1) = false := by rfl) :
    JI T X W (.Tuple elts kk tpos) (.Call (.Name "zip" p) [a, b] [] pos) (mZip ga gb) := fun ρ => by
  have rule : ∀ ta tb, PE X a ta → PE X b tb → PI X (.Tuple elts kk tpos) (.Call (.Name "zip" p) [a, b] [] pos) (RZ.iZipA X.K (tCons ta (tCons tb tNil))) := fun ta tb h1 h2 => RZ.pi_zipA hg hm (pa_cons h1 (pa_cons h2 pa_nil hs2) hs1) hs1 hpl
  have p1 := ha ρ
  unfold mZip
  cases q1 : ga ρ with
  | stuck => exact pi_no
  | ex c ds ρ1 => rw [q1] at p1; exact pi_weak (rule _ _ p1 pe_no) fun σ H Q q => q
  | ok x ρ1 =>
    rw [q1] at p1
    have p2 := hb ρ1
    simp only [R.bind_ok]
    cases q2 : gb ρ1 with
    | stuck => exact pi_no
    | ex c ds ρ2 => rw [q2] at p2; exact pi_weak (rule _ _ p1 p2) fun σ H Q ⟨F, Z, L, r, k⟩ => ⟨F, Z, L, r, fun v F1 H1 e1 r1 x1 => ⟨F1, Z, L, r1, fun cls dd F2 H2 e2 r2 x2 => k cls dd F2 H2 (e1.trans e2) r2 x2⟩⟩
    | ok y ρ2 =>
      rw [q2] at p2
      simp only [R.bind_ok]
      cases q3 : zipD x y with
      | none => exact pi_no
      | some ds =>
        refine pi_weak (rule _ _ p1 p2) fun σ H Q ⟨F, Z, L, r, k⟩ => ⟨F, Z, L, r, fun v F1 H1 e1 r1 x1 => ⟨F1, Z, L, r1, fun w F2 H2 e2 r2 x2 => ?_⟩⟩
        unfold zipD at q3
        split at q3
        · obtain ⟨a1, vs, rfl, h1, rr1⟩ := x1
          obtain ⟨a2, ws, rfl, h2, rr2⟩ := x2
          cases q3
          exact ⟨a1, a2, vs, ws, rfl, .inr ⟨r2.exF.sqT (e2.sqT h1), r2.exF.sqT h2, k _ F2 H2 (e1.trans e2) r2 (itd_zipT (e2.sqT h1) h2 (rr1.mono e2) rr2)⟩⟩
        · obtain ⟨a1, vs, rfl, h1, rr1⟩ := x1
          obtain ⟨a2, ws, rfl, h2, rr2⟩ := x2
          cases q3
          exact ⟨a1, a2, vs, ws, rfl, .inl ⟨SqL.of (r2.exF _ _ (e2 _ _ h1)), SqL.of (r2.exF _ _ h2), k _ F2 H2 (e1.trans e2) r2 (itd_zipL (SqL.of (e2 _ _ h1)) (SqL.of h2) (rr1.mono e2) rr2)⟩⟩
        · cases q3
end
end VS
set_option maxHeartbeats 2000000
namespace VS
open PySem L2 PySem.Spec PyProof.Rows
section
variable {T : Txt} {X : Cx} {W : WX} {st : Stmt} {sts : List Stmt} {tg e a b c : Expr} {es : List Expr} {pos p : Pos} {K : PySem.W.Frag}
/-! ### times -/
theorem mul_one_meets (l : Addr) (items : Array Value) (n : Nat) (dd : Option Addr) (sl : Array (Option Value)) (u : Tok) :
    Meets (Builtin.«tuple.__mul__» ⟨[.ref l, .int 1 u], []⟩) (fun _ R s => s.heap.get? l = some { cls := .type "tuple", dict := dd, data := .seq items n, slots := sl } ∧ R (.ok (.ret (Value.ref l))) s) :=
  .of_wp fun prog w A R s h => by
    obtain ⟨hp, g, d, tk, os⟩ := s
    obtain ⟨hl, h⟩ := h
    have f1 := AutoSeq1.idx_int
    wp_walk using AutoSeq1.wpAny_loadPart' hl
    exact ⟨_, rfl, h⟩
def rRep1 (K : PySem.W.Frag) : R2 := fun x y H Q => ∃ l xs, x = .ref l ∧ y = .int 1 ∧ SqT K H l xs ∧ Q (.ref l) H
theorem op_rep1 : OpR X (binaryOp .Mult) (rRep1 X.K) := by
  intro pins s σ H x y v u Q I rx ry h
  obtain ⟨l, xs, rfl, rfl, hT, q⟩ := h
  cases rx
  obtain ⟨t, rfl⟩ := ry
  obtain ⟨its, r, ⟨⟨cls, dd, data, sl⟩, ho, hc, n, hd⟩, hs⟩ := I.tuple hT
  simp only at hc hd
  subst hc hd
  refine wpAny_binaryOp_repeat_ref (T := "tuple") (U := "int") (by decide) ⟨_, ho, rfl⟩ (fun s' => typeIs_int s' 1 t) noFill_tuple_mul F.fills_int_mul F.slot_int_rmul repeat_tuple F.slot_int_index.lookup ?_
  refine call_meets F.slot_int_rmul (typeIs_int s 1 t) F.entry_int_rmul (F.args_int_rmul_2 _ _) (int_rmul_tuple 1 t l its.toArray n dd sl) ⟨ho, rfl, ⟨_, ho, rfl⟩, ?_⟩
  exact call_meets F.slot_tuple_mul ⟨_, ho, rfl⟩ F.entry_tuple_mul (F.args_tuple_mul_2 _ _) (mul_one_meets l its.toArray n dd sl t) ⟨ho, ⟨.ref l, H, I, rfl, q⟩⟩
def repS (z : Str) (n : Nat) : Str := ⟨(List.replicate n z.cps).foldl (· ++ ·) #[]⟩
def rRepS : R2 := fun x y H Q => ∃ z k, x = .str z ∧ y = .int k ∧ 2 ≤ k ∧ k ≤ 1000 ∧ 0 < z.length ∧ z.length ≤ 1000 ∧ Q (.str (repS z k.toNat)) H
theorem op_repS : OpR X (binaryOp .Mult) rRepS := by
  intro pins s σ H x y v u Q I rx ry h
  obtain ⟨z, k, rfl, rfl, h2, h3, h4, h5, q⟩ := h
  obtain ⟨t, rfl⟩ := rx
  obtain ⟨t', rfl⟩ := ry
  have c : (k == 1 || z.length == 0) = false := by
    rw [beq_eq_false_iff_ne.mpr (by omega), beq_eq_false_iff_ne.mpr (by omega)]; rfl
  refine P.mul_str (by rw [decide_eq_false (by omega), decide_eq_false (by omega)]; rfl) (fun _ _ hb => ?_) (fun _ _ => ?_) ?_
  · have : (1000 : Int) ≤ (2 ^ 63 - 1) / k := by
      exact Int.le_ediv_of_mul_le (by omega) (by omega)
    omega
  · have e1 : z.length * k.toNat ≤ 1000 * 1000 := Nat.mul_le_mul h5 (by omega)
    exact decide_eq_false (by have : sizeLine ≥ 1000000 := by decide
                              omega)
  · rw [if_neg (by omega), c, if_neg Bool.false_ne_true]
    refine ⟨?_, .str (repS z k.toNat), H, I.tok _, ⟨_, rfl⟩, q⟩
    have e0 : ∀ (m : Nat) (acc : Array Nat), ((List.replicate m z.cps).foldl (· ++ ·) acc).size = acc.size + m * z.cps.size := by
      intro m
      induction m with
      | zero => intro acc; simp
      | succ m ih => intro acc; rw [List.replicate_succ, List.foldl_cons, ih, Array.size_append, Nat.succ_mul]; omega
    show ((List.replicate k.toNat z.cps).foldl (· ++ ·) #[]).size ≤ sizeLine
    rw [e0]
    have e1 : k.toNat * z.cps.size ≤ 1000 * 1000 := Nat.mul_le_mul (by omega) h5
    have e2 : sizeLine ≥ 1000000 := by decide
    simp only [List.size_toArray, List.length_nil]
    omega
def mulE : D → D → Option D
  | .str z, .int k => if 2 ≤ k ∧ k ≤ 1000 ∧ 0 < z.length ∧ z.length ≤ 1000 then some (.str (repS z k.toNat)) else none
  | .tup xs, .int k => if k = 1 then some (.tup xs) else mulD (.tup xs) (.int k)
  | .lst xs, .int k => if -1000 ≤ k ∧ k ≤ 1000 ∧ xs.length ≤ 1000 then some (.lst (List.replicate k.toNat xs).flatten) else none
  | x, y => mulD x y
def rMulE (K : PySem.W.Frag) : R2 := fun x y H Q => rMulA K x y H Q ∨ (rRep1 K x y H Q ∨ (rRepS x y H Q ∨ rRep x y H Q))
theorem op_mulE : OpR X (binaryOp .Mult) (rMulE X.K) := opr_or op_mulA (opr_or op_rep1 (opr_or op_repS op_rep))
theorem opv_mulE : OpV K T (rMulE K) mulE := by
  intro x y z h F H v w Q e rx ry k
  unfold mulE at h
  split at h
  · obtain rfl : v = _ := rx
    obtain rfl : w = _ := ry
    split at h
    · rename_i q
      cases h
      exact .inr (.inr (.inl ⟨_, _, rfl, rfl, q.1, q.2.1, q.2.2.1, q.2.2.2, k _ F H .refl rfl⟩))
    · cases h
  · split at h
    · rename_i q
      cases h
      subst q
      obtain rfl : w = _ := ry
      obtain ⟨a, vs, rfl, ha, ra⟩ := rx
      exact .inr (.inl ⟨a, vs, rfl, rfl, e.sqT ha, k _ F H .refl ⟨a, vs, rfl, ha, ra⟩⟩)
    · exact .inl (opv_mul _ _ z h F H v w Q e rx ry k)
  · rename_i xs j
    split at h
    · rename_i q
      cases h
      obtain rfl : w = _ := ry
      obtain ⟨a, vs, rfl, ha, ra⟩ := rx
      refine .inr (.inr (.inr ⟨a, j, vs, rfl, rfl, e _ _ ha, by omega, by omega, ?_, fun p hp => ?_⟩))
      · rw [ra.length]
        have e1 : xs.length * j.toNat ≤ 1000 * 1000 := Nat.mul_le_mul q.2.2 (by omega)
        have : sizeLine ≥ 1000000 := by decide
        omega
      · have g := Grow.new (K := K) (T := T) (o := HO.lst (List.replicate j.toNat vs).flatten) e hp
        exact k _ _ _ g ⟨p, _, rfl, upd_same, (ra.rep _).mono g.1⟩
    · cases h
  · exact .inl (opv_mul _ _ z h F H v w Q e rx ry k)
theorem je_mulE {ga gb : Ev D} (ha : JE T X W a ga) (hb : JE T X W b gb) : JE T X W (.BinOp a .Mult b pos) (mOp mulE ga gb) := je_op2 (fun _ _ h1 h2 => pe_op op_mulE h1 h2) opv_mulE ha hb
/-! ### tuple(x), of a text too -/
def rTupS (calm : Bool) : List V → Hp → VK → Prop := fun xs H Q => calm = true ∧ ∃ z : Str, xs = [V.str z] ∧ z.cps.size ≤ sizeLine ∧ ∀ l, H l = none → Q (.ref l) (upd H l (.tup (z.cps.toList.map fun c => V.str ⟨#[c]⟩)))
theorem call_tupS : CallR X (.type "tuple") (rTupS X.calm) := by
  intro pins s σ H xs us Q I r h
  obtain ⟨hc, z, rfl, hz, q⟩ := h
  cases r with
  | cons r1 rr =>
    cases rr
    obtain ⟨t, rfl⟩ := r1
    refine call_tuple_str (I.ok.hd hc) z t (fun h' tk acc hk hi => ?_) hz
    have I1 : Inv X pins σ H { s with heap := h', toks := tk } := I.kept hk
    have vals : ∀ (k : Nat), k ≤ z.cps.size → Vals ((z.cps.toList.take k).map fun c => V.str ⟨#[c]⟩) (acc.toList.take k) := by
      intro k
      induction k with
      | zero => intro _; exact .nil
      | succ k ih =>
        intro hk
        have hlt : k < z.cps.size := by omega
        have hka : k < acc.size := by rw [hi.1]; exact hlt
        obtain ⟨v, hv⟩ : ∃ v, acc[k]? = some v := ⟨acc[k], by simp [hka]⟩
        obtain ⟨c, u, hc1, hv2⟩ := hi.2 k v hv
        rw [List.take_add_one, List.take_add_one, List.map_append]
        have e1 : z.cps.toList[k]? = some c := by simpa using hc1
        have e2 : acc.toList[k]? = some v := by simpa using hv
        rw [e1, e2]
        exact (ih (by omega)).append (.cons ⟨u, hv2⟩ .nil)
    have hv := vals z.cps.size (Nat.le_refl _)
    rw [List.take_of_length_le (by simp), List.take_of_length_le (by rw [Array.length_toList, hi.1]; exact Nat.le_refl _)] at hv
    have e3 : acc = acc.toList.toArray := by simp
    have I2 : Inv X pins σ (upd H h'.objs.size (.tup (z.cps.toList.map fun c => V.str ⟨#[c]⟩))) { s with heap := h'.push { cls := .type "tuple", data := .seq acc }, toks := tk } := by
      rw [e3]
      exact I1.laid (t' := tk) (fun b o e => Heap.get?_push_of_some _ e) (Nat.le_refl _) (show ObjOk X.prog X.w _ _ _ (.tup _) from ⟨by rw [List.length_map, Array.length_toList]; exact hz, acc.toList, hv, IsTup.new _ _⟩)
    exact ⟨.ref h'.objs.size, _, I2, rfl, q _ (I1.hok.fresh (Nat.le_refl _))⟩
def tupleE : D → Option D
  | .str z => if z.length ≤ lim then some (.tup (signs z)) else none
  | d => tupleD d
def rTupE (K : PySem.W.Frag) (calm : Bool) : List V → Hp → VK → Prop := fun xs H Q => rTup1 K xs H Q ∨ rTupS calm xs H Q
theorem reps_signs {F : Hp} : ∀ (cs : List Nat), Reps K T F (cs.map fun c => .str ⟨#[c]⟩) (cs.map fun c => V.str ⟨#[c]⟩)
  | [] => rfl
  | n :: ns => ⟨_, _, rfl, rfl, reps_signs ns⟩
theorem callv_tupleE (hc : X.calm = true) : CallV1 K T (rTupE K X.calm) tupleE := by
  intro d z h F H v Q e r k
  unfold tupleE at h
  split at h
  · split at h
    · rename_i q
      cases h
      obtain rfl : v = _ := r
      refine .inr ⟨hc, _, rfl, le_line q, fun l hl => ?_⟩
      rename_i zz
      have g := Grow.new (K := K) (T := T) (o := HO.tup (zz.cps.toList.map fun c => V.str ⟨#[c]⟩)) e hl
      exact k _ _ _ g ⟨l, _, rfl, SqT.of upd_same, reps_signs _⟩
    · cases h
  · exact .inl (callv_tuple d z h F H v Q e r k)
theorem je_tupleE {g : Ev D} (hc : X.calm = true) (hm : X.mg "tuple" = none) (ha : JB T X W a g) (hg : Gl X "tuple" := by rfl) (hs : starEach [a] X.env = (false, eval a X.env) :: starEach [] X.env := by rfl) : JE T X W (.Call (.Name "tuple" p) [a] [] pos) (mCall1 tupleE g) :=
  je_call1 (fun _ h => pe_callTy (callr_or call_tuple_of call_tupS) hg hm (by decide +kernel) h (by decide) (by decide) hs rfl) (callv_tupleE hc) ha hs
/-! ### d[k] = .., d an owned dict -/
def putD (kvs : List (Key × D)) (k : Key) (d : D) : List (Key × D) := if (kvs.any fun kv => decide (kv.1 = k)) = true then kvs.map (fun kv => if kv.1 = k then (kv.1, d) else kv) else kvs ++ [(k, d)]
theorem repK_any {F : Hp} {k : Key} : ∀ {kvs : List (Key × D)} {ws : List (Key × V)}, RepK K T F kvs ws → (ws.any fun kv => decide (kv.1 = k)) = kvs.any fun kv => decide (kv.1 = k)
  | [], ws, r => by rw [show ws = _ from r]; rfl
  | (k', d) :: kvs, ws, ⟨v, us, e1, h, r⟩ => by rw [e1]; simp only [List.any_cons]; rw [repK_any r]
theorem repK_map {F : Hp} {k : Key} {d : D} {v : V} (p : Rep K T F d v) : ∀ {kvs : List (Key × D)} {ws : List (Key × V)}, RepK K T F kvs ws → RepK K T F (kvs.map fun kv => if kv.1 = k then (kv.1, d) else kv) (ws.map fun kv => if kv.1 = k then (kv.1, v) else kv)
  | [], ws, r => by rw [show ws = _ from r]; exact rfl
  | (k', d') :: kvs, ws, ⟨v', us, e1, h, r⟩ => by
    rw [e1]
    simp only [List.map_cons]
    by_cases hk : k' = k
    · rw [if_pos hk, if_pos hk]; exact ⟨v, _, rfl, p, repK_map p r⟩
    · rw [if_neg hk, if_neg hk]; exact ⟨v', _, rfl, h, repK_map p r⟩
theorem RepK.snoc {F : Hp} {k : Key} {d : D} {v : V} (p : Rep K T F d v) : ∀ {kvs : List (Key × D)} {ws : List (Key × V)}, RepK K T F kvs ws → RepK K T F (kvs ++ [(k, d)]) (ws ++ [(k, v)])
  | [], ws, r => by rw [show ws = _ from r]; exact ⟨v, [], rfl, p, rfl⟩
  | (k', d') :: kvs, ws, ⟨v', us, e1, h, r⟩ => by rw [e1]; exact ⟨v', _, rfl, h, RepK.snoc p r⟩
theorem RepK.put {F : Hp} {k : Key} {d : D} {v : V} {kvs : List (Key × D)} {ws : List (Key × V)} (p : Rep K T F d v) (r : RepK K T F kvs ws) : RepK K T F (putD kvs k d) (putK ws k v) := by
  unfold putD putK
  rw [repK_any r]
  split
  · exact repK_map p r
  · exact r.snoc p
def tgPut (i : Nat) (gk : Ev D) (d : D) (ρ : VEnv) : Option VEnv := match ρ[i]? with
  | some (some (Sl.own _ (.dct _))) => match gk ρ with
    | .ok y ρ' => match ρ'[i]? with
      | some (some (Sl.own l (.dct kvs))) => (keyD y).bind fun k => if kvs.length < lim then some (ρ'.set i (some (Sl.own l (.dct (putD kvs k d))))) else none
      | _ => none
    | _ => none
  | _ => none
theorem jg_put {k i : Nat} (hr : Room k X.A) {gk : Ev D} (ho : PE X a (tVar i)) (hk : JE T X W b gk)
    (ha : ∀ v, assign (.Subscript a b pos) X.env v = (do
      let ov ← holding [v] (eval a X.env)
      let iv ← holding [v, ov] (eval b X.env)
      standAt pos
      holding [v, ov, iv] (setItem ov iv v)
      release [v, ov, iv] []) := by intro _; rfl) : JG T X (.Subscript a b pos) [] (tgPut i gk) := by
  refine pg_weak (pg_sub ho (pe_all hk) (set_dict (hu_of hr)) ha) fun v σ H Q ⟨d, ρ, ρ', F, Z, L, q, r, p, k⟩ => ?_
  unfold tgPut at q
  split at q
  · rename_i l0 xs0 q0
    obtain ⟨a0, o0, g1, g2, g3, g4, vs0, g5, g6⟩ := r.own i l0 _ q0
    refine ⟨_, g1, ρ, ?_⟩
    cases q1 : gk ρ with
    | stuck => rw [q1] at q; cases q
    | ex c ds ρ1 => rw [q1] at q; cases q
    | ok y ρ1 =>
      rw [q1] at q
      refine ⟨F, Z, L, r, fun w F1 H1 e1 r1 px => ?_⟩
      dsimp only at q
      split at q
      · rename_i l kvs q2
        obtain ⟨a1, o1, f1, f2, f3, f4, vs1, f5, f6⟩ := r1.own i l _ q2
        have ea : a1 = a0 := by rw [g1] at f1; cases f1; rfl
        subst ea
        cases q3 : keyD y with
        | none => rw [q3] at q; cases q
        | some key =>
          rw [q3] at q
          simp only [Option.bind_some] at q
          split at q
          · rename_i hl
            cases q
            refine ⟨a1, _, rfl, ?_, k σ F1 _ (fun _ _ => rfl) rfl e1 (r1.ownSet q2 f1 ⟨_, rfl, f6.put (p.mono e1)⟩)⟩
            rw [rep_key q3 px]
            exact DPut.k (by rw [f4, f5]) (by rw [f6.length]; exact lt_line hl)
          · cases q
      · cases q
  · cases q
end
end VS
set_option maxHeartbeats 2000000
namespace VS
open PySem L2 PySem.Spec PyProof.Rows
/-! ### enumerate of a tuple -/
section
variable {prog : Program} {w : World} {A : Around} {E : Value → Shared → Prop} {s : Shared} {v : Value} {o : Obj} {Good : Heap → Prop}
/-- what enumerate(v) makes, over the iterator at it -/
abbrev enObj (it : Addr) : Obj := { cls := .type "enumerate", data := .fields #[.none, .bool false, .ref it, rawInt 0, .none, .none] }
theorem en_new (B : Begins v o Good) : Meets (Builtin.«enumerate.__new__» ⟨[.type "enumerate", v], []⟩) (fun _ R s => Good s.heap ∧ R (.ok (.ret (.ref (s.heap.push o).objs.size))) { s with heap := (s.heap.push o).push (enObj s.heap.objs.size) }) := by
  refine .of_wp ?_
  rintro prog w A R ⟨heap, gens, drawn, toks, os⟩ ⟨good, then_⟩
  have known := sub_enumerate
  have begin_ : ∀ {A' : Around} {E : Value → Shared → Prop} {Q : Value → Shared → Prop}, Q (.ref heap.objs.size) ⟨heap.push o, gens, drawn, toks, os⟩ → wpAny (model prog w) A' (pyIter v) Q E ⟨heap, gens, drawn, toks, os⟩ := fun q => B.iter prog w _ _ _ _ good q
  wp_walk using begin_
  refine wpAny_stack_any fun _ => wpAny_pure ?_
  split
  · rename_i c _ _ _ _ _
    cases (c == Value.type "enumerate") <;> (wp_walk using begin_; exact ⟨_, rfl, then_⟩)
  · wp_walk using begin_
    exact ⟨_, rfl, then_⟩
/-- enumerate(v): its two new objects -/
theorem en_call {Q : Value → Shared → Prop} (B : Begins v o Good) (good : Good s.heap)
    (then_ : ∀ h', IsEnum h' (s.heap.objs.size + 1) s.heap.objs.size 0 .none → h'.get? s.heap.objs.size = some o → (∀ b u, s.heap.get? b = some u → h'.get? b = some u) → Q (.ref (s.heap.objs.size + 1)) { s with heap := h' }) :
    wpAny (model prog w) A (call (.type "enumerate") [v]) Q E s := by
  have size : (s.heap.push o).objs.size = s.heap.objs.size + 1 := Heap.size_push ..
  have is_en := Heap.get?_push_size (s.heap.push o) (o := enObj s.heap.objs.size) rfl
  refine callType_new F.called_enumerate (by decide) (F.typeCall_enumerate_1 v) (F.newCall_enumerate_1 v) (fun obj => F.args_object_init_2 obj v) F.entry_enumerate_new (en_new B) ⟨good, ?_⟩
  rw [size] at is_en
  show _ ∧ _
  rw [size]
  exact ⟨⟨_, is_en, rfl⟩, then_ _ is_en (Heap.get?_push_of_some _ (Heap.get?_push_size _ B.free)) fun b u q => Heap.get?_push_of_some _ (Heap.get?_push_of_some _ q)⟩
end
/-- the tuple at a as it stands at each turn, each item in a new pair -/
def IteT (K : PySem.W.Frag) (a : Addr) : It :=
  ⟨fun i H => ∃ (xs : List V) (x : V), SqT K H a xs ∧ xs[i]? = some x, fun i H v H' => ∃ T x, v = .ref T ∧ H T = none ∧ H' = upd H T (.tup [.int (i : Nat), x]) ∧ ∀ xs, SqT K H a xs → xs[i]? = some x, fun i H => ∃ xs : List V, SqT K H a xs ∧ xs.length = i⟩
/-- e enumerates by it over the tuple at a, i of which are gone -/
structure EnAt (a e it : Addr) (i : Nat) (h : Heap) : Prop where
  en : ∃ last, IsEnum h e it ((i : Nat) : Int) last
  it : h.IsTupleIter it a i
section
variable {P : Program} {w : World} {K : PySem.W.Frag} {elts : List Expr} {kk : Nat} {tpos : Pos} {a e it : Addr} {X : Cx} {i : Nat} {pins : List (Addr × Obj)} {s : Shared} {σ : L2.St} {H : Hp} {E : Value → Shared → Prop}
/-- one turn -/
theorem en_turn (d1 : e ≠ it) (d2 : e ≠ a) (d3 : a ≠ it) (calm : X.calm = true) (I : Inv X pins σ H s) (fp : ∀ b ∈ [e, it], FpOk X pins H b) (st : EnAt a e it i s.heap) (go : (IteT X.K a).go i H) :
    wpAny (model X.prog X.w) X.A (pyNext (.ref e)) (fun r s1 => ∃ u, r = some u ∧ wpAny (model X.prog X.w) X.A (letOwnedTupleGo (.Tuple elts kk tpos) (.ref e) u)
      (fun _ s2 => ∃ x H', Inv X pins σ H' s2 ∧ RelV x u ∧ (IteT X.K a).yld i H x H' ∧ EnAt a e it (i + 1) s2.heap ∧ ∀ b ∈ [e, it], H' b = none) E s1) E s := by
  obtain ⟨⟨last, is_e⟩, is_it⟩ := st
  obtain ⟨xs, x, sq, at_x⟩ := go
  obtain ⟨its, vals, tup, _⟩ := I.tuple sq
  obtain ⟨u, at_u, rel⟩ := vals.get at_x
  have le : e < s.heap.objs.size := Heap.lt_size is_e
  have li : it < s.heap.objs.size := let ⟨_, q, _⟩ := is_it; Heap.lt_size q
  have D := Draws.tuple (prog := X.prog) (w := X.w) (A := X.A.in1) (by simpa using I.ok.hd calm) it a d3 its.toArray
  have more : i < its.toArray.size := by simpa using (List.getElem?_eq_some_iff.mp at_u).1
  refine wpAny_pyNext_enum_itemD D is_e ⟨is_it, tup⟩ more d1 (by simp [d1, d2]) fun y h1 tk at_y out st1 new_ _ keep => ?_
  obtain rfl : y = u := Option.some.inj (Eq.trans (by simpa using at_y.symm) at_u)
  refine ⟨_, rfl, wpAny_letOwnedTupleGo_enum (s := { s with heap := h1, toks := tk + 1 }) out fun h2 is_e2 but => ?_⟩
  have pair : h2.get? s.heap.objs.size = some { cls := .type "tuple", data := .seq #[.int i tk, y] } := (but.2 _ (Nat.ne_of_gt le)).trans new_
  have I2 : Inv X pins σ (upd H s.heap.objs.size (.tup [.int (i : Nat), x])) { s with heap := h2, toks := tk + 1 } := by
    refine I.turnedNew (ch := [e, it]) (fun b ob out_ q => ?_) fp (Nat.le_refl _) ⟨by show 2 ≤ sizeLine; decide, [.int i tk, y], .cons ⟨_, rfl⟩ (.cons rel .nil), ⟨_, pair, rfl, _, rfl⟩⟩
    simp only [List.mem_cons, List.not_mem_nil, or_false, not_or] at out_
    exact (but.2 b out_.1).trans (keep b ob out_.1 out_.2 q)
  refine ⟨.ref s.heap.objs.size, _, I2, rfl, ⟨_, x, rfl, I.hok.fresh (Nat.le_refl _), rfl, fun ys sq2 => by rw [I.tuple_inj sq2 sq]; exact at_x⟩, ⟨⟨y, ?_⟩, st1.1.at fun ob q => (but.2 it (Ne.symm d1)).trans q⟩, fun b hb => ?_⟩
  · rw [show ((i + 1 : Nat) : Int) = (i : Int) + 1 by omega]
    exact is_e2
  · have lb : b < s.heap.objs.size := by
      simp only [List.mem_cons, List.not_mem_nil, or_false] at hb
      rcases hb with z | z <;> rw [z] <;> assumption
    rw [upd_ne (Nat.ne_of_lt lb)]
    exact (fp b hb).1
/-- the end -/
theorem en_end (d3 : a ≠ it) (calm : X.calm = true) (I : Inv X pins σ H s) (fp : ∀ b ∈ [e, it], FpOk X pins H b) (st : EnAt a e it i s.heap) (stop : (IteT X.K a).stop i H) :
    wpAny (model X.prog X.w) X.A (pyNext (.ref e)) (fun r s1 => r = none ∧ Inv X pins σ H s1) E s := by
  obtain ⟨⟨last, is_e⟩, is_it⟩ := st
  obtain ⟨xs, sq, rfl⟩ := stop
  obtain ⟨its, vals, tup, _⟩ := I.tuple sq
  obtain ⟨p0, p1, _, p3, p4, p5⟩ := fp it (by simp)
  have D := Draws.tuple (prog := X.prog) (w := X.w) (A := X.A.in1) (by simpa using I.ok.hd calm) it a d3 its.toArray
  refine wpAny_pyNext_enum_endD D is_e ⟨?_, tup⟩ fun h1 but => ⟨rfl, I.turned (t' := s.toks) (fun b ob out_ q => but b ob out_ q) p0 p1 p3 p4 p5⟩
  rw [List.size_toArray, ← vals.length]
  exact is_it
theorem en_turns (d1 : e ≠ it) (d2 : e ≠ a) (d3 : a ≠ it) : Turn P w K (.Tuple elts kk tpos) (IteT K a) [e, it] e (EnAt a e it) where
  mem := List.mem_cons_self
  obj := fun i h st b hb => by
    simp only [List.mem_cons, List.not_mem_nil, or_false] at hb
    obtain ⟨⟨last, is_e⟩, o, at_it, _, dat⟩ := st
    rcases hb with rfl | rfl
    · exact ⟨_, is_e, nofun⟩
    · exact ⟨o, at_it, fun u z => by rw [dat] at z; exact nomatch z⟩
  keep := fun i h h' ⟨⟨last, is_e⟩, is_it⟩ same => ⟨⟨last, same e List.mem_cons_self _ is_e⟩, is_it.at fun ob q => same it (by simp) ob q⟩
  item := by rintro X rfl rfl rfl calm i pins s σ H E I fp st go; exact en_turn d1 d2 d3 calm I fp st go
  done := by rintro X rfl rfl rfl calm i pins s σ H E I fp st stop; exact en_end d3 calm I fp st stop
  self := fun A i s Q E ⟨⟨_, is_e⟩, _⟩ q => wpAny_pyIter_enum is_e q
end
section
variable {T : Txt} {X : Cx} {W : WX} {st : Stmt} {sts : List Stmt} {tg e a b c : Expr} {es : List Expr} {pos p : Pos} {K : PySem.W.Frag}
def iEnumT (K : PySem.W.Frag) (ta : TA) : TI := fun σ H R => ta σ H fun vs H1 => ∃ a xs, vs = [.ref a] ∧ SqT K H1 a xs ∧ R (IteT K a) H1
theorem pi_enumT {ta : TA} {tpos : Pos} {elts : List Expr} {kk : Nat} (hg : Gl X "enumerate") (hm : X.mg "enumerate" = none) (ha : PA X [e] ta) (hs : starEach [e] X.env = [(false, eval e X.env)] := by rfl) :
    PI X (.Tuple elts kk tpos) (.Call (.Name "enumerate" p) [e] [] pos) (iEnumT X.K ta) := by
  refine ⟨fun pins s σ H R I h => Call_ (ld_blt I hg hm boot_enumerate (PyProof.Rows.callWith_type1 (thn (ha.run pos pins s σ H _ I h) ?_) hs rfl))⟩
  rintro us s1 ⟨_, H1, J, rel, t, xs, rfl, sq, then_⟩
  obtain ⟨_, rfl⟩ : ∃ u : Unit, us = [.ref t] := by
    cases rel with
    | cons r rr => cases rr; cases r; exact ⟨(), rfl⟩
  obtain ⟨its, vals, tup, _⟩ := J.tuple sq
  have lt : t < s1.heap.objs.size := let ⟨_, q, _⟩ := tup; Heap.lt_size q
  refine en_call (begins_tuple t its.toArray) tup fun h1 is_e at_it keep => wpAny_pyIter_enum is_e ?_
  refine ⟨_, [s1.heap.objs.size + 1, s1.heap.objs.size], EnAt t (s1.heap.objs.size + 1) s1.heap.objs.size, IteT X.K t, H1, rfl, J.kept (t' := s1.toks) keep, en_turns (Nat.succ_ne_self _) (Nat.ne_of_gt (Nat.lt_succ_of_lt lt)) (Nat.ne_of_lt lt), ⟨⟨_, is_e⟩, ⟨_, at_it, rfl, rfl⟩⟩, fun b hb => ?_, then_⟩
  have ge : s1.heap.objs.size ≤ b := by
    simp only [List.mem_cons, List.not_mem_nil, or_false] at hb
    rcases hb with z | z <;> rw [z]
    · exact Nat.le_succ _
    · exact Nat.le_refl _
  exact J.fpOk ge (J.hok.fresh ge)
theorem itd_enumT {F : Hp} {a : Addr} {vs : List V} {ds : List D} (hs : SqT K F a vs) (r : Reps K T F ds vs) : ItD K T F (IteT K a) (enumFrom 0 ds) where
  go := fun i H e hi => by
    rw [enumFrom_length] at hi
    have : i < vs.length := by rw [r.length]; exact hi
    exact ⟨vs, vs[i], e.sqT hs, by simp [this]⟩
  stop := fun H e => ⟨vs, e.sqT hs, by rw [r.length, enumFrom_length]⟩
  yld := fun i d G H x H' e1 e2 hd y => by
    obtain ⟨t, x', rfl, hn, rfl, q⟩ := y
    rw [enumFrom_get] at hd
    cases q1 : ds[i]? with
    | none => rw [q1] at hd; cases hd
    | some d0 =>
      rw [q1] at hd
      cases hd
      obtain ⟨v, h1, h2⟩ := r.get q1
      have hx := q vs ((e1.trans e2).sqT hs)
      rw [h1] at hx
      obtain rfl : v = x' := Option.some.inj hx
      have g := Grow.new (K := K) (T := T) (o := HO.tup [.int (i : Nat), v]) e2 hn
      refine ⟨_, g, ⟨t, _, rfl, SqT.of upd_same, ?_⟩⟩
      rw [Nat.zero_add]
      exact ⟨_, _, rfl, rfl, _, _, rfl, (h2.mono e1).mono g.1, rfl⟩
def mEnumE (g : Ev D) : Ev (List D) := fun ρ => (g ρ).bind fun d ρ' => match d with
  | .lst xs => .ok (enumFrom 0 xs) ρ'
  | .frl xs => .ok (enumFrom 0 xs) ρ'
  | .tup xs => .ok (enumFrom 0 xs) ρ'
  | _ => .stuck
theorem ji_enumE {g : Ev D} {elts : List Expr} {kk : Nat} {tpos : Pos} (hg : Gl X "enumerate") (hm : X.mg "enumerate" = none) (h : JE T X W a g) (hs : starEach [a] X.env = [(false, eval a X.env)] := by rfl) (hs1 : starEach [a] X.env = (false, eval a X.env) :: starEach [] X.env := by rfl) :
    JI T X W (.Tuple elts kk tpos) (.Call (.Name "enumerate" p) [a] [] pos) (mEnumE g) := fun ρ => by
  have p0 := ji_enum (tpos := tpos) (elts := elts) (kk := kk) (p := p) (pos := pos) hg hm h hs hs1 ρ
  have p1 := h ρ
  unfold mEnum at p0
  unfold mEnumE
  cases q1 : g ρ with
  | stuck => exact pi_no
  | ex c ds ρ1 => rw [q1] at p0; exact p0
  | ok d ρ1 =>
    rw [q1] at p1 p0
    simp only [R.bind_ok] at p0 ⊢
    cases d with
    | tup xs =>
      refine pi_weak (pi_enumT hg hm (pa_cons p1 pa_nil hs1) hs) fun σ H Q ⟨F, Z, L, r, k⟩ => ⟨F, Z, L, r, fun v F' H' e r' x => ?_⟩
      obtain ⟨a, vs, rfl, h1, rr⟩ := x
      exact ⟨a, vs, rfl, r'.exF.sqT h1, k _ F' H' e r' (itd_enumT h1 rr)⟩
    | lst xs => exact p0
    | frl xs => exact p0
    | _ => exact pi_no
end
end VS
set_option maxHeartbeats 4000000
namespace VS
open PySem L2 PySem.Spec PyProof.Rows
/-! ### a set made of a tuple, of keys of any kind -/
/-- how many unlike ones there are -/
def cntR {κ : Type} [DecidableEq κ] : List κ → Nat
  | [] => 0
  | x :: r => if x ∈ r then cntR r else cntR r + 1
def distinct {κ : Type} [DecidableEq κ] (xs : List κ) : Nat := cntR xs.reverse
section
variable {κ : Type} [DecidableEq κ]
theorem cntR_le : ∀ xs : List κ, cntR xs ≤ xs.length
  | [] => Nat.le_refl _
  | x :: r => by
    have := cntR_le r
    unfold cntR
    split <;> simp <;> omega
theorem cntR_iff : ∀ {xs : List κ}, cntR xs = xs.length ↔ xs.Nodup
  | [] => by simp [cntR]
  | x :: r => by
    have le := cntR_le r
    rw [List.nodup_cons, ← cntR_iff (xs := r), cntR, List.length_cons]
    split
    · rename_i h; simp [h]; omega
    · rename_i h; simp [h]
theorem distinct_le (xs : List κ) : distinct xs ≤ xs.length := by simpa [distinct] using cntR_le xs.reverse
theorem distinct_iff {xs : List κ} : distinct xs = xs.length ↔ xs.Nodup := by
  have := cntR_iff (xs := xs.reverse)
  rw [List.length_reverse, (List.reverse_perm xs).nodup_iff] at this
  exact this
theorem distinct_snoc (xs : List κ) (x : κ) : distinct (xs ++ [x]) = if x ∈ xs then distinct xs else distinct xs + 1 := by
  unfold distinct
  rw [List.reverse_append, List.reverse_singleton, List.singleton_append, cntR]
  simp only [List.mem_reverse]
variable [BEq κ] [LawfulBEq κ] {prog : Program} {w : World} {A : Around} {E : Value → Shared → Prop} {s : Shared} {knd : KeyKind prog w κ} {S : Addr}
/-- at S stands a set of just these keys -/
def SetHas (knd : KeyKind prog w κ) (h : Heap) (S : Addr) (ks : List κ) : Prop := h.SetOf knd S (fun k => decide (k ∈ ks)) (distinct ks)
theorem SetHas.on {h h' : Heap} {ks : List κ} (p : SetHas knd h S ks) (same : ∀ o, h.get? S = some o → h'.get? S = some o) : SetHas knd h' S ks :=
  let ⟨o, es, ep, t, at_S, more⟩ := p
  ⟨o, es, ep, t, same o at_S, more⟩
/-- the loop that puts in what an iterator gives, from any place on -/
theorem set_fill {I : Addr} {fp wr : List Addr} {G : Array GenState → Array GenState → Prop} {n : Nat} {P : Nat → Value → Prop} {St : Nat → Shared → Prop} {R : Result → Shared → Prop} {ks : List κ} (W : WalksS prog w A.in1 I fp wr G n P St) (apart : S ∉ fp) (few : n + 1 < scanBound) (len : ks.length = n)
    (key : ∀ i v, P i v → v.scannable = true ∧ ∃ k, ks[i]? = some k ∧ knd.is k v = true) (rest : List κ) : ∀ (pre : List κ) (s : Shared), ks = pre ++ rest → St pre.length s → SetHas knd s.heap S pre →
      (∀ s', Moved (S :: wr) G s s' → SetHas knd s'.heap S ks → R (.ok (.ret .none)) s') → codeAny (model prog w) A (.builtin "set.update.loop" ⟨[.ref S, .ref I], []⟩) R s := by
  have apart' : S ∉ wr := fun z => apart (W.sub S z)
  induction rest with
  | nil =>
    intro pre s e st has out
    rw [List.append_nil] at e
    subst e
    rw [len] at st
    refine codeAny_builtin PyProof.Rows.F.entry_set_update_loop ?_
    rw [Around.under_plainId PyProof.Rows.F.plain_set_update_loop]
    refine wpAny_bind (m := pyNext (.ref I)) (W.done s _ _ st fun s' moved => wpAny_pure (out s' (moved.mono fun b z => List.mem_cons_of_mem S z) (has.on fun o q => moved.heap S o apart' q)))
  | cons x rest ih =>
    intro pre s e st has out
    have here : ks[pre.length]? = some x := by rw [e]; simp
    have room : pre.length < n := by rw [← len, e]; simp
    refine codeAny_builtin PyProof.Rows.F.entry_set_update_loop ?_
    rw [Around.under_plainId PyProof.Rows.F.plain_set_update_loop]
    refine wpAny_bind (m := pyNext (.ref I)) (W.item pre.length s _ _ room st fun v s1 is_v st1 moved => ?_)
    obtain ⟨scan, k, at_k, is_k⟩ := key _ v is_v
    obtain rfl : x = k := Option.some.inj (here.symm.trans at_k)
    have has1 := has.on fun o q => moved.heap S o apart' q
    refine wpAny_bind (m := holding [v] (setAdd S v)) (wpAny_holding (wpAny_holding (wpAny_bind (knd.pyHash is_k ?_))))
    refine wpAny_setAddHashed_of (s := { s1 with toks := s1.toks + 1 }) is_k scan has1 (Nat.lt_of_le_of_lt (Nat.succ_le_succ (distinct_le pre)) (by omega)) fun h2 but has2 => ?_
    have has3 : SetHas knd h2 S (pre ++ [x]) := by
      refine SetOf_congr has2 (fun y => ?_) ?_
      · simp [Bool.decide_or]
      · rw [distinct_snoc]; simp
    refine wpAny_pure ⟨plainId_quiet PyProof.Rows.F.plain_set_update_loop _, ih (pre ++ [x]) _ (by rw [e]; simp) ?_ has3 fun s3 moved3 has4 => out s3 ?_ has4⟩
    · rw [List.length_append]
      refine W.frame _ s1 _ _ st1 (Nat.le_succ _) fun b hb o q => ?_
      show h2.get? b = some o
      rw [but.2 b fun z => apart (z ▸ hb)]
      exact q
    · refine Moved.trans W.gtrans ((moved.mono fun b z => List.mem_cons_of_mem S z).then_heap (Nat.le_succ _) fun b o hb q => ?_) moved3
      show h2.get? b = some o
      rw [but.2 b fun z => hb (z ▸ List.mem_cons_self)]
      exact q
/-- set(t) -/
theorem set_of_tuple {l : Addr} {items : Array Value} {ks : List κ} {Q : Value → Shared → Prop} (quiet : A.handled = none) (tup : s.heap.IsTuple l items) (len : ks.length = items.size) (few : items.size + 1 < scanBound)
    (key : ∀ (i : Nat) (v : Value), items[i]? = some v → v.scannable = true ∧ ∃ k, ks[i]? = some k ∧ knd.is k v = true)
    (out : ∀ (h' : Heap) (tk : Nat), SetHas knd h' s.heap.objs.size ks → (∀ b o, s.heap.get? b = some o → h'.get? b = some o) → Q (.ref s.heap.objs.size) { s with heap := h', toks := tk }) :
    wpAny (model prog w) A (call (.type "set") [.ref l]) Q E s := by
  obtain ⟨N, hN⟩ : ∃ N, N = s.heap.objs.size := ⟨_, rfl⟩
  rw [← hN] at out
  have ft := F.called_set
  obtain ⟨_, _, by_mro⟩ := ft.mro
  have f1 := ft.made
  have f2 := ft.sub
  have f3 := ft.notType
  have f4 := ft.canCreate
  have f5 := F.typeCall_set_1 (.ref l)
  have f6 := ft.init.lookup
  refine wpAny_call (codeAny_of_tree (wpAny_pure ⟨Code.quiet_builtin _ (by decide +kernel), codeAny_builtin F.entry_type_call ?_⟩))
  rw [Around.under_plain (weight_type_call_type "set" _ []) rfl]
  repeat any_goals (first | assumption | wp_step)
  refine codeAny_mono (code_set_new_1 (E := E) (Q₁ := fun obj s1 => ∃ led : Bool, obj = .ref N ∧ s1 = { s with heap := s.heap.push { cls := .type "set", dict := none, data := .set #[] 0 (.fresh 0 0 led) } }) _ fun led => ⟨led, by rw [hN], rfl⟩) ?_
  rintro (e | (_ | _ | _ | obj)) s1 made
  · exact made
  · exact made.elim
  · exact made.elim
  · exact made.elim
  obtain ⟨led, rfl, rfl⟩ := made
  have at_S : (s.heap.push { cls := .type "set", dict := none, data := .set #[] 0 (.fresh 0 0 led) }).get? N = some { cls := .type "set", dict := none, data := .set #[] 0 (.fresh 0 0 led) } := by rw [hN]; exact Heap.get?_push_size _ rfl
  have ty_S : Shared.TypeIs { s with heap := s.heap.push { cls := .type "set", dict := none, data := .set #[] 0 (.fresh 0 0 led) } } (.ref N) "set" := ⟨_, at_S, rfl⟩
  have f7 := ft.init.bind (.ref N)
  repeat any_goals (first | assumption | wp_step)
  refine codeAny_mono (codeAny_call_builtin (R := wants (fun r s2 => r = .none ∧ ∃ h' tk, s2 = { s with heap := h', toks := tk } ∧ SetHas knd h' N ks ∧ ∀ b o, s.heap.get? b = some o → h'.get? b = some o) E) ft.init.plain F.entry_set_init (check_set_init_1 ty_S ?_)) ?_
  · obtain ⟨⟨cl, dct, dat, sl⟩, at_l, is_cl, m, is_dat⟩ := tup
    replace is_cl : cl = .type "tuple" := is_cl
    replace is_dat : dat = .seq items m := is_dat
    subst is_cl is_dat
    have below : l < N := hN ▸ Heap.lt_size at_l
    have at_l1 : (s.heap.push { cls := .type "set", dict := none, data := .set #[] 0 (.fresh 0 0 led) }).get? l = some { cls := .type "tuple", dict := dct, data := .seq items m, slots := sl } := Heap.get?_push_of_some _ at_l
    have no1 := PySem.F.sub_tuple_set
    have no2 := PySem.F.sub_tuple_frozenset
    have no3 : (Value.type "tuple" == Value.type "dict") = false := by decide
    have big1 : (s.heap.push { cls := .type "set", dict := none, data := .set #[] 0 (.fresh 0 0 led) }).objs.size = N + 1 := by rw [hN]; exact Heap.size_push ..
    have tup1 : (s.heap.push { cls := .type "set", dict := none, data := .set #[] 0 (.fresh 0 0 led) }).IsTuple l items := ⟨_, at_l1, rfl, m, rfl⟩
    unfold Builtin.«set.__init__» noKeywords Builtin.Frozenset.updateFrom
    generalize gen : pyIter = it
    wp_walk
    subst gen
    refine wpAny_pyIter_tuple tup1 (wpAny_bind (wpAny_runValue ?_))
    have W := Walks.tuple (prog := prog) (w := w) (A := A.in1.in1.in1) (by simp [quiet]) (N + 1) l (Nat.ne_of_lt (Nat.lt_succ_of_lt below)) items
    rw [← big1] at W
    refine set_fill (knd := knd) W.toS (S := N) ?_ few len key ks [] _ rfl ⟨⟨_, Heap.get?_push_size _ rfl, rfl, rfl⟩, tup1.push _⟩ ?_ ?_
    · rw [big1]
      intro z
      rcases List.mem_cons.mp z with z | z
      · exact Nat.ne_of_lt (Nat.lt_succ_self N) z
      · exact Nat.ne_of_gt below (List.mem_singleton.mp z)
    · exact SetOf_congr ((setObjOf_fresh (knd := knd) led).setOf (Heap.get?_push_of_some _ at_S) (by unfold scanBound; omega)) (fun _ => by simp) rfl
    · rintro ⟨h', g', d', tk', os'⟩ moved has
      obtain rfl : g' = s.gens := moved.gens
      obtain rfl : d' = s.drawn := moved.drawn
      obtain rfl : os' = s.os := moved.os
      refine wpAny_pure (wpAny_pure ⟨rfl, h', tk', rfl, has, fun b o q => moved.heap b o (fun z => ?_) (Heap.get?_push_of_some _ (Heap.get?_push_of_some _ q))⟩)
      have lt : b < N := hN ▸ Heap.lt_size q
      rw [big1] at z
      rcases List.mem_cons.mp z with z | z
      · exact Nat.ne_of_lt lt z
      · exact Nat.ne_of_lt (Nat.lt_succ_of_lt lt) (List.mem_singleton.mp z)
  · rintro (e | (_ | _ | _ | r)) s2 made
    · exact made
    · exact made.elim
    · exact made.elim
    · exact made.elim
    obtain ⟨rfl, h', tk, rfl, has, keep⟩ := made
    repeat any_goals (first | assumption | wp_step)
    exact out _ _ has keep
end
section
variable {T : Txt} {X : Cx} {W : WX} {e a b c : Expr} {es : List Expr} {pos p p2 q : Pos} {K : PySem.W.Frag}
/-- len(set(t)), t a tuple of texts -/
def tLenSetT (K : PySem.W.Frag) (ta : TE) : TE := fun σ H Q => ta σ H fun x H1 => ∃ l, ∃ xs : List Str, x = .ref l ∧ SqT K H1 l (xs.map V.str) ∧ xs.length ≤ 1000 ∧ Q (.int (distinct xs : Nat)) H1
theorem pe_lenSetT {ta : TE} (calm : X.calm = true) (g1 : Gl X "len") (m1 : X.mg "len" = none) (g2 : Gl X "set") (m2 : X.mg "set" = none) (ha : PE X a ta)
    (na : starEach [a] X.env = (false, eval a X.env) :: starEach [] X.env := by rfl) : PE X (.Call (.Name "len" p) [.Call (.Name "set" p2) [a] [] q] [] pos) (tLenSetT X.K ta) := by
  refine ⟨fun pins s σ H Q I h => ?_⟩
  refine Call_ (ld_blt I g1 m1 boot_len (PyProof.Rows.callWith_builtin1 (PyProof.Rows.args_cons (Call_ (ld_blt I g2 m2 boot_set (PyProof.Rows.callWith_type1 (PyProof.Rows.args_cons (thn (ha.run pins s σ H _ I h) ?_) na) na rfl))) rfl) rfl rfl))
  rintro v s1 ⟨_, H1, J, rel, l, xs, rfl, sq, few, then_⟩
  cases rel
  obtain ⟨items, vals, tup, _⟩ := J.tuple sq
  have len : xs.length = items.length := by rw [← vals.length, List.length_map]
  refine PyProof.Rows.args_nil (set_of_tuple (knd := PySem.strKind X.prog X.w) (ks := xs) (J.ok.hd calm) (show s1.heap.IsTuple l items.toArray from tup) (by simpa using len) (by unfold scanBound; simp; omega) (fun i v at_v => ?_) fun h' tk has keep => PyProof.Rows.args_nil ?_)
  · have at_v' : items[i]? = some v := by simpa using at_v
    have lt : i < xs.length := by rw [len]; exact (List.getElem?_eq_some_iff.mp at_v').1
    obtain ⟨u, at_u, is_u⟩ := vals.get (i := i) (x := V.str xs[i]) (by simp [lt])
    rw [at_v'] at at_u
    obtain rfl : v = u := Option.some.inj at_u
    obtain ⟨t, rfl⟩ := is_u
    exact ⟨rfl, xs[i], by simp [lt], strKind_is _ _ _ _⟩
  · obtain ⟨o, els, ep, t, at_S, exact_, dat, _, _, _, fits, size⟩ := has
    have J2 : Inv X pins σ H1 { s1 with heap := h', toks := tk } := J.kept keep
    have le := distinct_le xs
    exact call_len_set at_S exact_ dat fits (by rw [size]; omega) ⟨.int (distinct xs : Nat), H1, J2.tok _, ⟨_, by rw [size]⟩, then_⟩
def lenSetD : D → Option D
  | .tup xs => (strsOf xs).bind fun ys => if ys.length ≤ 1000 then some (.int (distinct ys : Nat)) else none
  | _ => none
theorem je_lenSet {g : Ev D} (hc : X.calm = true) (hm : X.mg "len" = none) (hm2 : X.mg "set" = none) (ha : JE T X W a g) (hg : Gl X "len" := by rfl) (hg2 : Gl X "set" := by rfl)
    (na : starEach [a] X.env = (false, eval a X.env) :: starEach [] X.env := by rfl) : JE T X W (.Call (.Name "len" p) [.Call (.Name "set" p2) [a] [] q] [] pos) (mCall1 lenSetD g) := fun ρ => by
  have h1 := ha ρ
  have rule := pe_lenSetT (p := p) (p2 := p2) (q := q) (pos := pos) hc hg hm hg2 hm2 h1 na
  unfold mCall1
  cases q1 : g ρ with
  | stuck => exact pe_no
  | ex c ds ρ1 => rw [q1] at rule; exact pe_weak rule fun σ H Q q => q
  | ok d ρ1 =>
    rw [q1] at rule
    simp only [R.bind_ok]
    cases d with
    | tup xs =>
      simp only [lenSetD]
      cases q2 : strsOf xs with
      | none => exact pe_no
      | some ys =>
        simp only [Option.bind_some]
        by_cases hl : ys.length ≤ 1000
        · rw [if_pos hl]
          refine pe_weak rule fun σ H Q ⟨F, Z, L, r, k⟩ => ⟨F, Z, L, r, fun v F1 H1 e1 r1 ⟨a, vs, ev, hs, rr⟩ => ⟨a, ys, ev, ?_, hl, k _ F1 H1 e1 r1 rfl⟩⟩
          rw [← strsOf_reps q2 rr]
          exact r1.exF.sqT hs
        · rw [if_neg hl]; exact pe_no
    | _ => exact pe_no
end
end VS
set_option maxHeartbeats 2000000
namespace VS
open PySem L2 PySem.Spec PyProof.Rows
/-! ### own classes -/
structure ClsF (K : PySem.W.Frag) (T : Txt) (c : Nat) : Prop where
  cls : Cls K (T.cl c)
  noat : ∀ f ∈ T.fl c, NoAttr K (T.cl c) f
  nd : (T.fl c).Nodup
theorem zip_lookup {f : Str} {v : V} : ∀ {fs : List Str} {vs : List V} {i : Nat}, fs.Nodup → fs[i]? = some f → vs[i]? = some v → (fs.zip vs).lookup f = some v
  | [], _, i, _, h, _ => by simp at h
  | g :: fs, [], i, _, _, h => by simp at h
  | g :: fs, w :: vs, 0, nd, h1, h2 => by
    simp at h1 h2
    subst h1 h2
    simp [List.lookup]
  | g :: fs, w :: vs, i + 1, nd, h1, h2 => by
    obtain ⟨n1, n2⟩ := List.nodup_cons.mp nd
    have hm : f ∈ fs := List.mem_of_getElem? (by simpa using h1)
    have ne : (f == g) = false := beq_eq_false_iff_ne.mpr fun z => n1 (z ▸ hm)
    rw [List.zip_cons_cons, List.lookup_cons, ne]
    exact zip_lookup n2 (by simpa using h1) (by simpa using h2)
theorem zip_none {f : Str} : ∀ {fs : List Str} {vs : List V}, f ∉ fs → (fs.zip vs).lookup f = none
  | [], _, _ => by simp
  | g :: fs, [], _ => by simp
  | g :: fs, w :: vs, h => by
    have ne : (f == g) = false := beq_eq_false_iff_ne.mpr fun z => h (z ▸ List.mem_cons_self)
    rw [List.zip_cons_cons, List.lookup_cons, ne]
    exact zip_none fun z => h (List.mem_cons_of_mem _ z)
theorem putF_snoc {f : Str} {y : V} : ∀ {fs : List Str} {vs : List V}, fs.Nodup → fs[vs.length]? = some f → putF f y (fs.zip vs) = fs.zip (vs ++ [y])
  | [], _, _, h => by simp at h
  | g :: fs, [], nd, h => by simp at h; subst h; simp [putF]
  | g :: fs, w :: vs, nd, h => by
    obtain ⟨n1, n2⟩ := List.nodup_cons.mp nd
    have h' : fs[vs.length]? = some f := by simpa using h
    have ne : g ≠ f := fun z => n1 (z ▸ List.mem_of_getElem? h')
    rw [List.zip_cons_cons, putF, if_neg ne, putF_snoc n2 h']
    rfl
theorem putF_set {f : Str} {y : V} : ∀ {fs : List Str} {vs : List V} {i : Nat}, fs.Nodup → fs[i]? = some f → i < vs.length → putF f y (fs.zip vs) = fs.zip (vs.set i y)
  | [], _, i, _, h, _ => by simp at h
  | g :: fs, [], i, _, _, h => by simp at h
  | g :: fs, w :: vs, 0, nd, h, hl => by simp at h; subst h; simp [putF]
  | g :: fs, w :: vs, i + 1, nd, h, hl => by
    obtain ⟨n1, n2⟩ := List.nodup_cons.mp nd
    have h' : fs[i]? = some f := by simpa using h
    have ne : g ≠ f := fun z => n1 (z ▸ List.mem_of_getElem? h')
    rw [List.zip_cons_cons, putF, if_neg ne, putF_set n2 h' (by simpa using hl)]
    rfl
section
variable {T : Txt} {X : Cx} {W : WX} {st : Stmt} {sts : List Stmt} {tg e a b o : Expr} {es : List Expr} {pos p apos : Pos} {K : PySem.W.Frag} {c i : Nat} {f m x : Str}
/-! ### o.f -/
def fldD (c i : Nat) : D → Option D
  | .ins c' xs => if c' = c then xs[i]? else none
  | _ => none
theorem je_fld {g : Ev D} (C : ClsF X.K T c) (hi : (T.fl c)[i]? = some f) (ha : JE T X W a g) (hb : attributeBase a f X.env (eval a X.env) = eval a X.env := by rfl) : JE T X W (.Attribute a f pos) (mCall1 (fldD c i) g) := fun ρ => by
  have p1 := ha ρ
  unfold mCall1
  cases q1 : g ρ with
  | stuck => exact pe_no
  | ex e ds ρ1 => rw [q1] at p1; exact pe_weak (pe_fld p1 hb) fun σ H Q q => q
  | ok d ρ1 =>
    rw [q1] at p1
    simp only [R.bind_ok]
    cases q2 : fldD c i d with
    | none => exact pe_no
    | some z =>
      cases d <;> simp only [fldD, reduceCtorEq] at q2
      split at q2
      · rename_i c' xs hc
        subst hc
        refine pe_weak (pe_fld p1 hb) fun σ H Q ⟨F, Z, L, r, k⟩ => ⟨F, Z, L, r, fun v F1 H1 e1 r1 x1 => ?_⟩
        obtain ⟨q, dx, vs, rfl, h1, h2, rr⟩ := x1
        obtain ⟨u, h3, h4⟩ := rr.get q2
        exact ⟨q, _, dx, _, u, rfl, r1.exF _ _ h1, C.cls, C.noat f (List.mem_of_getElem? hi), zip_lookup C.nd hi h3, k _ F1 H1 e1 r1 h4⟩
      · cases q2
/-! ### self.f = e, self owned -/
def putAt (xs : List D) (j : Nat) (d : D) : Option (List D) := if xs.length = j then some (xs ++ [d]) else if j < xs.length then some (xs.set j d) else none
def mFldS (i c j : Nat) (g : Ev D) : VEnv → RS := fun ρ => (g ρ).thenS fun d ρ1 => match ρ1[i]? with
  | some (some (Sl.own l (.ins c' xs))) => if c' = c then (match putAt xs j d with
    | some ys => .nx (ρ1.set i (some (Sl.own l (.ins c ys))))
    | none => .stuck) else .stuck
  | _ => .stuck
theorem js_fldS {j : Nat} {pos' : Pos} {g : Ev D} (C : ClsF X.K T c) (hl : (T.fl c).length < 1000) (hj : (T.fl c)[j]? = some f) (ho : PE X o (tVar i)) (hv : JE T X W e g) (hs : swapsWith e (some (.Attribute o f pos')) pos.line X.env = pure false := by rfl) :
    JS T X W (.Assign [.Attribute o f pos'] e pos) (mFldS i c j g) := fun ρ => by
  refine ps_weak (ps_fld ho (hv ρ) hs) fun N σ H q => thenS_rd q fun d ρ1 v F Z L H1 r p k => ?_
  split at k
  · rename_i l c' xs q1
    split at k
    · rename_i hc
      subst hc
      obtain ⟨a0, o0, g1, g2, g3, g4, dx, vs, g5, g6, g7⟩ := r.own i l _ q1
      have hjl : j < (T.fl c').length := (List.getElem?_eq_some_iff.mp hj).1
      refine ⟨_, g1, a0, _, dx, _, rfl, by rw [g4, g5], C.cls, C.noat f (List.mem_of_getElem? hj), ?_, ?_⟩
      · rw [List.length_zip]; omega
      · unfold putAt at k
        split at k
        · rename_i ys hy
          split at hy
          · rename_i hx
            cases hy
            refine k σ F _ (Ex.refl F) (r.ownSet q1 g1 ⟨dx, vs ++ [v], ?_, ?_, g7.append (Reps.one p)⟩)
            · rw [putF_snoc C.nd (by rw [g7.length, hx]; exact hj)]
            · rw [List.length_append, g7.length, hx]; simp; omega
          · split at hy
            · rename_i hx
              cases hy
              refine k σ F _ (Ex.refl F) (r.ownSet q1 g1 ⟨dx, vs.set j v, ?_, by rw [List.length_set]; exact g6, g7.set p j⟩)
              rw [putF_set C.nd hj (by rw [g7.length]; exact hx)]
            · cases hy
        · exact k.elim
    · exact k.elim
  · exact k.elim
end
/-! ### one slot more, and off again -/
section
variable {K : PySem.W.Frag} {T : Txt} {F Z H : Hp} {L : Nat → Option Addr} {σ : L2.St} {ρ : VEnv} {c : Nat}
theorem Rel.push {a dx : Addr} (r : Rel K T F Z L σ ρ H) (ha : H a = none) (hd : H dx = none) (hn : dx ≠ a) :
    Rel K T F Z L (σ ++ [some (.ref a)]) (ρ ++ [some (Sl.own false (.ins c []))]) (upd (upd H dx (.own a)) a (.ins (T.cl c) dx [])) := by
  have keep : ∀ {b : Addr} {u : HO}, H b = some u → upd (upd H dx (.own a)) a (.ins (T.cl c) dx []) b = some u := fun {b u} q => by
    rw [upd_ne (ne_of_none q ha), upd_ne (ne_of_none q hd)]; exact q
  have old : ∀ {j : Nat} {s : Sl}, (ρ ++ [some (Sl.own false (.ins c []))])[j]? = some (some s) → (j < ρ.length ∧ ρ[j]? = some (some s) ∧ (σ ++ [some (V.ref a)])[j]? = σ[j]?) ∨ (j = ρ.length ∧ s = Sl.own false (.ins c []) ∧ (σ ++ [some (V.ref a)])[j]? = some (some (.ref a))) := fun {j s} q => by
    by_cases hj : j < ρ.length
    · rw [List.getElem?_append_left hj] at q
      exact .inl ⟨hj, q, List.getElem?_append_left (by rw [← r.len]; exact hj)⟩
    · rw [List.getElem?_append_right (by omega)] at q
      have e : j - ρ.length = 0 := by
        have := (List.getElem?_eq_some_iff.mp q).1
        simp at this; omega
      rw [e] at q
      have ej : j = ρ.length := by omega
      refine .inr ⟨ej, by simpa using q.symm, ?_⟩
      rw [List.getElem?_append_right (by rw [← r.len]; omega), ← r.len, e]; rfl
  refine ⟨fun b u q => keep (r.exF b u q), fun b u q => keep (r.exZ b u q), r.dis, by simp [r.len], fun j d q => ?_, fun j l m q => ?_, fun j k l m l' m' b q1 q2 q3 q4 => ?_, fun j b q => ?_⟩
  · rcases old q with ⟨_, h, e⟩ | ⟨_, h, _⟩
    · rw [e]; exact r.val j d h
    · cases h
  · rcases old q with ⟨_, h, e⟩ | ⟨_, h, e⟩
    · obtain ⟨b, u, g1, g2, g3, g4, g5⟩ := r.own j l m h
      exact ⟨b, u, by rw [e]; exact g1, g2, g3, keep g4, g5⟩
    · cases h
      exact ⟨a, _, e, r.exF.none ha, r.exZ.none ha, upd_same, dx, [], by simp, by simp, rfl⟩
  · rcases old q1 with ⟨_, h1, e1⟩ | ⟨j1, h1, e1⟩
    · rcases old q2 with ⟨_, h2, e2⟩ | ⟨j2, h2, e2⟩
      · rw [e1] at q3; rw [e2] at q4
        exact r.sep j k _ _ _ _ b h1 h2 q3 q4
      · obtain ⟨b', u, g1, _, _, g4, _⟩ := r.own j l m h1
        rw [e1, g1] at q3; rw [e2] at q4
        cases q3; cases q4
        rw [ha] at g4; cases g4
    · rcases old q2 with ⟨_, h2, e2⟩ | ⟨j2, h2, e2⟩
      · obtain ⟨b', u, g1, _, _, g4, _⟩ := r.own k l' m' h2
        rw [e2, g1] at q4; rw [e1] at q3
        cases q3; cases q4
        rw [ha] at g4; cases g4
      · omega
  · obtain ⟨h1, m, h2⟩ := r.lent j b q
    have hj : j < ρ.length := (List.getElem?_eq_some_iff.mp h2).1
    exact ⟨by rw [List.getElem?_append_left (by rw [← r.len]; exact hj)]; exact h1, m, by rw [List.getElem?_append_left hj]; exact h2⟩
theorem Rel.pop {v : V} {m : MO} (r : Rel K T F Z L (σ ++ [some v]) (ρ ++ [some (Sl.own false m)]) H) : ∃ a o, v = .ref a ∧ Z a = none ∧ RepO K T F m o ∧ Rel K T F (upd Z a o) L σ ρ H := by
  have hl : ρ.length = σ.length := by have := r.len; simpa using this
  have qi : (ρ ++ [some (Sl.own false m)])[ρ.length]? = some (some (Sl.own false m)) := by rw [List.getElem?_append_right (Nat.le_refl _)]; simp
  have ql : ∀ {j : Nat} {s : Sl}, ρ[j]? = some (some s) → j < ρ.length ∧ (ρ ++ [some (Sl.own false m)])[j]? = some (some s) ∧ (σ ++ [some v])[j]? = σ[j]? := fun {j s} q => by
    have hj : j < ρ.length := (List.getElem?_eq_some_iff.mp q).1
    exact ⟨hj, by rw [List.getElem?_append_left hj]; exact q, List.getElem?_append_left (by rw [← hl]; exact hj)⟩
  obtain ⟨a, o, g1, g2, g3, g4, g5⟩ := r.own ρ.length false m qi
  have ev : v = .ref a := by
    rw [List.getElem?_append_right (by rw [hl]; exact Nat.le_refl _), hl, Nat.sub_self] at g1
    simpa using g1
  refine ⟨a, o, ev, g3, g5, ⟨r.exF, fun b u q => ?_, fun b u q => ?_, hl, fun j d q => ?_, fun j l m' q => ?_, fun j k l m1 l' m2 b q1 q2 q3 q4 => ?_, fun j b q => ?_⟩⟩
  · by_cases hb : b = a
    · subst hb; rw [upd_same] at q; cases q; exact g4
    · rw [upd_ne hb] at q; exact r.exZ b u q
  · rw [upd_ne (ne_of_none q g2)]; exact r.dis b u q
  · obtain ⟨_, h1, h2⟩ := ql q
    obtain ⟨w, h3, h4⟩ := r.val j d h1
    exact ⟨w, by rw [← h2]; exact h3, h4⟩
  · obtain ⟨hj, h1, h2⟩ := ql q
    obtain ⟨b, u, f1, f2, f3, f4, f5⟩ := r.own j l m' h1
    have nb : b ≠ a := fun z => by
      subst z
      have := r.sep j ρ.length _ _ _ _ b h1 qi f1 g1
      omega
    exact ⟨b, u, by rw [← h2]; exact f1, f2, by rw [upd_ne nb]; exact f3, f4, f5⟩
  · obtain ⟨_, h1, h2⟩ := ql q1
    obtain ⟨_, h3, h4⟩ := ql q2
    exact r.sep j k _ _ _ _ b h1 h3 (by rw [h2]; exact q3) (by rw [h4]; exact q4)
  · obtain ⟨h1, m', h2⟩ := r.lent j b q
    by_cases hj : j < ρ.length
    · rw [List.getElem?_append_left hj] at h2
      rw [List.getElem?_append_left (by rw [← hl]; exact hj)] at h1
      exact ⟨h1, m', h2⟩
    · rw [List.getElem?_append_right (by omega)] at h2
      have hj2 := (List.getElem?_eq_some_iff.mp h2).1
      have e : j - ρ.length = 0 := by simp at hj2; omega
      rw [e] at h2
      simp at h2
end
theorem setM_last {ρ : VEnv} {l : Bool} {m m' : MO} : setM ρ.length m' (ρ ++ [some (Sl.own l m)]) = ρ ++ [some (Sl.own l m')] := by
  have q : (ρ ++ [some (Sl.own l m)])[ρ.length]? = some (some (Sl.own l m)) := by rw [List.getElem?_append_right (Nat.le_refl _)]; simp
  unfold setM
  rw [q]
  simp
theorem resolve_vs {ρ : VEnv} : ∀ (ds : List D), resolve ρ (ds.map AR.v) = some (ds.map Arg.v)
  | [] => rfl
  | d :: ds => by rw [List.map_cons, resolve, resolve_vs ds]; rfl
theorem lentIx_vs : ∀ (ds : List D), lentIx (ds.map AR.v) = []
  | [] => rfl
  | d :: ds => by rw [List.map_cons, lentIx, lentIx_vs ds]
theorem putBack_vs {ρ : VEnv} : ∀ (ds : List D) (ms : List MO), putBack ρ (ds.map AR.v) ms = ρ
  | [], _ => rfl
  | d :: ds, ms => by rw [List.map_cons, putBack, putBack_vs ds ms]
section
variable {T : Txt} {X : Cx} {W : WX} {st : Stmt} {sts : List Stmt} {tg e a b o : Expr} {es : List Expr} {pos p apos : Pos} {K : PySem.W.Frag} {c i : Nat} {f m x : Str}
/-! ### C(..) -/
def mMake (G : Fn) (c n : Nat) (dd : List D) (g : Ev (List D)) : Ev Res := fun ρ => (g ρ).bind fun ds ρ1 => if (ds ++ dd).length + 1 = n then (match G (.l (.ins c []) :: (ds ++ dd).map Arg.v) with
  | some (.ok .non, [m]) => .ok (.nw m) ρ1
  | some (.ex e xs, [_]) => .ex e xs ρ1
  | _ => .stuck) else .stuck
theorem jr_make {G : Fn} {n : Nat} {dvs : List V} {dd : List D} {g : Ev (List D)} (rule : ∀ t, PA X es t → PE X e (tMakeG (T.cl c) (spG X.K T G n) dvs W t)) (hdv : ∀ F, Reps X.K T F dd dvs) (ha : JA T X W es g) :
    JR T X W e (mMake G c n dd g) := fun ρ => by
  have p1 := ha ρ
  unfold mMake
  cases q1 : g ρ with
  | stuck => exact pe_no
  | ex c ds ρ1 => rw [q1] at p1; exact pe_weak (rule _ p1) fun σ H Q q => q
  | ok ds0 ρ1 =>
    rw [q1] at p1
    simp only [R.bind_ok]
    by_cases hn : (ds0 ++ dd).length + 1 = n
    · rw [if_pos hn]
      have main : ∀ {σ : L2.St} {F Z : Hp} {L : Nat → Option Addr} {vs : List V} {H1 : Hp} {Q : VK} {a dx : Addr} {rr : Res} {m : MO}, Rel X.K T F Z L σ ρ1 H1 → Reps X.K T F (ds0 ++ dd) vs → H1 a = none → H1 dx = none → dx ≠ a →
          G (.l (.ins c []) :: (ds0 ++ dd).map Arg.v) = some (rr, [m]) →
          (match rr with
            | .ok d => d = .non ∧ ∀ o F' H', Ex F F' → Z a = none → Rel X.K T F' (upd Z a o) L σ ρ1 H' → RepO X.K T F' m o → Q (.ref a) H'
            | .ex e xs => ∀ cls dd F' H', Ex F F' → Rel X.K T F' Z L σ ρ1 H' → ExR X.K T F' cls dd e xs → W cls dd σ H'
            | .nw _ => False) →
          spG X.K T G n (.ref a :: vs) (upd (upd H1 dx (.own a)) a (.ins (T.cl c) dx [])) (fun v H2 => v = .non ∧ Q (.ref a) H2) (WE W σ) := by
        intro σ F Z L vs H1 Q a dx rr m r1 x1 ha hd hne hG k
        have hl : ρ1.length = σ.length := r1.len
        have rp := r1.push (c := c) ha hd hne
        have eR : resolve (ρ1 ++ [some (Sl.own false (.ins c []))]) (AR.l ρ1.length :: (ds0 ++ dd).map AR.v) = some (.l (.ins c []) :: (ds0 ++ dd).map Arg.v) := by
          have q : (ρ1 ++ [some (Sl.own false (MO.ins c []))])[ρ1.length]? = some (some (Sl.own false (.ins c []))) := by rw [List.getElem?_append_right (Nat.le_refl _)]; simp
          unfold resolve
          rw [q, resolve_vs]
          rfl
        have eP : putBack (ρ1 ++ [some (Sl.own false (.ins c []))]) (AR.l ρ1.length :: (ds0 ++ dd).map AR.v) [m] = ρ1 ++ [some (Sl.own false m)] := by
          rw [putBack, setM_last, putBack_vs]
        have hc : (lentIx (AR.l ρ1.length :: (ds0 ++ dd).map AR.v)).Nodup ∧ (AR.l ρ1.length :: (ds0 ++ dd).map AR.v).length = n := by
          rw [lentIx, lentIx_vs]
          exact ⟨by simp, by simpa using hn⟩
        have av : ARs X.K T F (σ ++ [some (V.ref a)]) (AR.l ρ1.length :: (ds0 ++ dd).map AR.v) (.ref a :: vs) := by
          refine ⟨_, vs, rfl, by rw [List.getElem?_append_right (by rw [hl]; exact Nat.le_refl _), hl, Nat.sub_self]; rfl, ?_⟩
          have := ARs.vals (K := X.K) (T := T) (F := F) (σ := σ ++ [some (V.ref a)]) (ars := []) (vs := []) rfl x1
          simpa using this
        cases rr with
        | ok d =>
          obtain ⟨rfl, k⟩ := k
          have eC : callR G n (AR.l ρ1.length :: (ds0 ++ dd).map AR.v) (ρ1 ++ [some (Sl.own false (.ins c []))]) = .ok (.ok .non) (ρ1 ++ [some (Sl.own false m)]) := by
            unfold callR
            rw [if_pos hc, eR]
            dsimp only
            rw [hG]
            dsimp only
            rw [eP]
          refine call_mid (W := fun cls dd _ H => W cls dd σ H) eC rp av fun v F' H' e' r' x' => ⟨x', ?_⟩
          obtain ⟨a', o, ea, hz, px, r2⟩ := r'.pop
          cases ea
          exact k o F' H' e' hz r2 px
        | nw _ => exact k.elim
        | ex e' xs =>
          have eC : callR G n (AR.l ρ1.length :: (ds0 ++ dd).map AR.v) (ρ1 ++ [some (Sl.own false (.ins c []))]) = .ex e' xs (ρ1 ++ [some (Sl.own false m)]) := by
            unfold callR
            rw [if_pos hc, eR]
            dsimp only
            rw [hG]
            dsimp only
            rw [eP]
          refine call_mid (W := fun cls dd _ H => W cls dd σ H) eC rp av fun cls dd F' H' e' r' x' => ?_
          obtain ⟨a', o, ea, hz, px, r2⟩ := r'.pop
          exact k cls dd F' H' e' (r2.zDrop hz).1 x'
      split
      · rename_i m hG
        refine pe_weak (rule _ p1) fun σ H Q ⟨F, Z, L, r, k⟩ => ⟨F, Z, L, r, fun vs F1 H1 e1 r1 x1 a dx ha hd hne => ?_⟩
        exact main r1 (x1.append (hdv F1)) ha hd hne hG ⟨rfl, fun o F' H' e' hz r' px => k a o F' H' (e1.trans e') hz r' px⟩
      · rename_i e' xs m hG
        refine pe_weak (rule _ p1) fun σ H Q ⟨F, Z, L, r, k⟩ => ⟨F, Z, L, r, fun vs F1 H1 e1 r1 x1 a dx ha hd hne => ?_⟩
        exact main r1 (x1.append (hdv F1)) ha hd hne hG fun cls dd F' H' e' r' px => k cls dd F' H' (e1.trans e') r' px
      · exact pe_no
    · rw [if_neg hn]; exact pe_no
/-! ### o.m(..) -/
def mMeth (G : Fn) (c n : Nat) (dd : List D) (ga : Ev D) (gs : Ev (List D)) : Ev Res := fun ρ => (ga ρ).bind fun d ρ1 => match d with
  | .ins c' _ => if c' = c then (gs ρ1).bind fun ds ρ2 => callR G n (AR.v d :: (ds ++ dd).map AR.v) ρ2 else .stuck
  | _ => .stuck
theorem jr_meth {G : Fn} {n : Nat} {dvs : List V} {dd : List D} {ga : Ev D} {gs : Ev (List D)} (rule : ∀ ta t, PE X o ta → PA X es t → PE X e (tMethG (T.cl c) m (spG X.K T G n) dvs W ta t)) (hdv : ∀ F, Reps X.K T F dd dvs) (hm : m ∉ T.fl c)
    (ho : JE T X W o ga) (ha : JA T X W es gs) : JR T X W e (mMeth G c n dd ga gs) := fun ρ => by
  have p1 := ho ρ
  unfold mMeth
  cases q1 : ga ρ with
  | stuck => exact pe_no
  | ex c ds ρ1 => rw [q1] at p1; exact pe_weak (rule _ _ p1 pa_no) fun σ H Q q => q
  | ok d ρ1 =>
    rw [q1] at p1
    simp only [R.bind_ok]
    cases d with
    | ins c' xs =>
      dsimp only
      by_cases hc : c' = c
      · subst hc
        rw [if_pos rfl]
        have p2 := ha ρ1
        have self : ∀ {F H : Hp} {v : V}, Ex F H → Rep X.K T F (.ins c' xs) v → ∃ a dx fs, v = .ref a ∧ H a = some (.ins (T.cl c') dx fs) ∧ fs.lookup m = none := fun {F H v} e r => by
          obtain ⟨q, dx, vs, rfl, h1, h2, rr⟩ := r
          exact ⟨q, dx, _, rfl, e _ _ h1, zip_none hm⟩
        cases q2 : gs ρ1 with
        | stuck => exact pe_no
        | ex c ds ρ2 =>
          rw [q2] at p2
          refine pe_weak (rule _ _ p1 p2) fun σ H Q ⟨F, Z, L, r, k⟩ => ⟨F, Z, L, r, fun v F1 H1 e1 r1 x1 => ?_⟩
          obtain ⟨q, dx, fs, h1, h2, h3⟩ := self r1.exF x1
          exact ⟨q, dx, fs, h1, h2, h3, F1, Z, L, r1, fun cls dd F2 H2 e2 r2 x2 => k cls dd F2 H2 (e1.trans e2) r2 x2⟩
        | ok ds ρ2 =>
          rw [q2] at p2
          simp only [R.bind_ok]
          have av : ∀ {σ : L2.St} {F1 F2 : Hp} {v : V} {vs : List V}, Ex F1 F2 → Rep X.K T F1 (.ins c' xs) v → Reps X.K T F2 ds vs → ARs X.K T F2 σ (AR.v (.ins c' xs) :: (ds ++ dd).map AR.v) (v :: (vs ++ dvs)) := fun {σ F1 F2 v vs} e2 x1 x2 => by
            refine ⟨v, _, rfl, x1.mono e2, ?_⟩
            have := ARs.vals (K := X.K) (T := T) (F := F2) (σ := σ) (ars := []) (vs := []) rfl (x2.append (hdv F2))
            simpa using this
          cases q3 : callR G n (AR.v (.ins c' xs) :: (ds ++ dd).map AR.v) ρ2 with
          | stuck => exact pe_no
          | ex c ds ρ3 =>
            refine pe_weak (rule _ _ p1 p2) fun σ H Q ⟨F, Z, L, r, k⟩ => ⟨F, Z, L, r, fun v F1 H1 e1 r1 x1 => ?_⟩
            obtain ⟨q, dx, fs, h1, h2, h3⟩ := self r1.exF x1
            exact ⟨q, dx, fs, h1, h2, h3, F1, Z, L, r1, fun vs F2 H2 e2 r2 x2 => call_mid q3 r2 (av e2 x1 x2) fun cls dd F' H' e' r' px => k cls dd F' H' ((e1.trans e2).trans e') r' px⟩
          | ok rr ρ3 =>
            cases rr with
            | ok d =>
              refine pe_weak (rule _ _ p1 p2) fun σ H Q ⟨F, Z, L, r, k⟩ => ⟨F, Z, L, r, fun v F1 H1 e1 r1 x1 => ?_⟩
              obtain ⟨q, dx, fs, h1, h2, h3⟩ := self r1.exF x1
              exact ⟨q, dx, fs, h1, h2, h3, F1, Z, L, r1, fun vs F2 H2 e2 r2 x2 => call_mid q3 r2 (av e2 x1 x2) fun w F' H' e' r' px => k w F' H' ((e1.trans e2).trans e') r' px⟩
            | nw m' =>
              refine pe_weak (rule _ _ p1 p2) fun σ H Q ⟨F, Z, L, r, k⟩ => ⟨F, Z, L, r, fun v F1 H1 e1 r1 x1 => ?_⟩
              obtain ⟨q, dx, fs, h1, h2, h3⟩ := self r1.exF x1
              exact ⟨q, dx, fs, h1, h2, h3, F1, Z, L, r1, fun vs F2 H2 e2 r2 x2 => call_mid q3 r2 (av e2 x1 x2) fun a o F' H' e' hz r' px => k a o F' H' ((e1.trans e2).trans e') hz r' px⟩
            | ex c ds => exact pe_no
      · rw [if_neg hc]; exact pe_no
    | _ => exact pe_no
end
end VS
set_option maxHeartbeats 2000000
namespace VS
open PySem L2 PySem.Spec PyProof.Rows
/-- an own class that can be made, its __init__ answers as G does (all arguments written) -/
structure CalC (P : Program) (w : World) (K : PySem.W.Frag) (mg : Str → Option Value) (base : Heap) (T : Txt) (k : Nat) (x : Str) (c : Nat) (G : Fn) (ps : List Str) : Prop where
  ex : ∃ f fd, FnG P w K mg base k f fd ps (spG K T G ps.length) ∧ mg x = some (.ref (T.cl c)) ∧ Mk K (T.cl c) f ∧ Binds K fd ps []
/-- an own class's method -/
structure CalM (P : Program) (w : World) (K : PySem.W.Frag) (mg : Str → Option Value) (base : Heap) (T : Txt) (k : Nat) (c : Nat) (m : Str) (G : Fn) (ps : List Str) : Prop where
  ex : ∃ f fd, FnG P w K mg base k f fd ps (spG K T G ps.length) ∧ Meth K (T.cl c) m f ∧ Binds K fd ps []
def permL {α : Type} (idx : List Nat) (xs : List α) : List α := idx.filterMap (xs[·]?)
theorem permL_vals {zs : List V} {ws : List Value} (h : Vals zs ws) : ∀ idx : List Nat, Vals (permL idx zs) (permL idx ws)
  | [] => .nil
  | i :: idx => by
    have ih := permL_vals h idx
    unfold permL at ih ⊢
    rw [List.filterMap_cons, List.filterMap_cons]
    cases q : zs[i]? with
    | none =>
      have q2 : ws[i]? = none := by
        rw [List.getElem?_eq_none_iff] at q ⊢
        rw [← h.length]; exact q
      rw [q2]; exact ih
    | some z =>
      obtain ⟨u, q2, r⟩ := h.get q
      rw [q2]; exact .cons r ih
/-- the same called by keywords alone, in the order ks; idx: where each parameter's value stands -/
structure CalK (P : Program) (w : World) (K : PySem.W.Frag) (mg : Str → Option Value) (base : Heap) (T : Txt) (k : Nat) (x : Str) (G : Fn) (ps ks : List Str) (idx : List Nat) : Prop where
  ex : ∃ f fd, FnG P w K mg base k f fd ps (spG K T G ps.length) ∧ mg x = some (.ref f) ∧ PySem.W.keepIn K (.ref f) = true ∧ ∀ (s : Shared) (ws : List Value), K.In s.heap → ws.length = ks.length → BindsTo s fd ⟨[], ks.zip ws⟩ (ps.zip (permL idx ws))
section
variable {T : Txt} {X : Cx} {W : WX} {st : Stmt} {sts : List Stmt} {tg e a b o : Expr} {es : List Expr} {pos p apos : Pos} {K : PySem.W.Frag} {c i k n : Nat} {f m x : Str} {G : Fn} {ps ks : List Str}
theorem jr_cls {g : Ev (List D)} (h : CalC X.prog X.w X.K X.mg X.base T k x c G ps) (hA : X.A.guards = some []) (hr : Room (k + 1) X.A) (tk : Takes X W) (ha : JA T X W (e :: es) g) (hn : ps.length = n := by rfl) (hg : Gl X x := by rfl)
    (hdb : (x == ("__debug__" : Str)) = false := by decide) (he : starEach (e :: es) X.env = (false, eval e X.env) :: starEach es X.env := by rfl) (hpl : (backTo pos (starEach es X.env)).any (·.1) = false := by rfl) : JR T X W (.Call (.Name x p) (e :: es) [] pos) (mMake G c n [] g) := by
  subst hn
  obtain ⟨f, fd, hG, hm, hM, hb⟩ := h.ex
  exact jr_make (fun t h => pe_makeG hM hG hA hr hg hm hb .nil tk h hdb he hpl) (fun _ => rfl) ha
theorem jr_met {pl : Sem Bool} {ga : Ev D} {gs : Ev (List D)} (C : ClsF X.K T c) (h : CalM X.prog X.w X.K X.mg X.base T k c m G ps) (hA : X.A.guards = some []) (hr : Room k X.A) (tk : Takes X W) (hm : m ∉ T.fl c) (ho : JE T X W o ga) (ha : JA T X W (e :: es) gs) (hn : ps.length = n := by rfl)
    (hst : starEach (e :: es) X.env = (false, eval e X.env) :: starEach es X.env := by rfl) (hpl : (backTo pos (starEach es X.env)).any (·.1) = false := by rfl)
    (ht : eval (.Call (.Attribute o m apos) (e :: es) [] pos) X.env = (do
      let ov ← eval o X.env
      standAt apos.atName
      let (f, first) ← holding [ov] (getMethod ov m pl)
      callWith pos f first (backTo pos (starEach (e :: es) X.env)) (backToKw pos (keywordEach [] X.env))) := by rfl) : JR T X W (.Call (.Attribute o m apos) (e :: es) [] pos) (mMeth G c n [] ga gs) := by
  subst hn
  obtain ⟨f, fd, hG, hM, hb⟩ := h.ex
  exact jr_meth (fun ta t h1 h2 => pe_methG h1 C.cls hM hG hA hr hb .nil tk h2 hst hpl ht) (fun _ => rfl) hm ho ha
def mMeth0 (G : Fn) (c n : Nat) (ga : Ev D) : Ev Res := fun ρ => (ga ρ).bind fun d ρ1 => match d with
  | .ins c' _ => if c' = c then callR G n [AR.v d] ρ1 else .stuck
  | _ => .stuck
theorem jr_met0 {pl : Sem Bool} {ga : Ev D} (C : ClsF X.K T c) (h : CalM X.prog X.w X.K X.mg X.base T k c m G ps) (hA : X.A.guards = some []) (hr : Room k X.A) (tk : Takes X W) (hm : m ∉ T.fl c) (ho : JE T X W o ga) (hn : ps.length = n := by rfl)
    (ht : eval (.Call (.Attribute o m apos) [] [] pos) X.env = (do
      let ov ← eval o X.env
      standAt apos.atName
      let (f, first) ← holding [ov] (getMethod ov m pl)
      callWith pos f first (backTo pos (starEach [] X.env)) (backToKw pos (keywordEach [] X.env))) := by rfl) : JR T X W (.Call (.Attribute o m apos) [] [] pos) (mMeth0 G c n ga) := fun ρ => by
  subst hn
  obtain ⟨f, fd, hG, hM, hb⟩ := h.ex
  have rule : ∀ ta, PE X o ta → PE X (.Call (.Attribute o m apos) [] [] pos) (tMethG (T.cl c) m (spG X.K T G ps.length) [] W ta tNil) := fun ta h1 => pe_methG0 h1 C.cls hM hG hA hr hb .nil tk ht
  have p1 := ho ρ
  unfold mMeth0
  cases q1 : ga ρ with
  | stuck => exact pe_no
  | ex c ds ρ1 => rw [q1] at p1; exact pe_weak (rule _ p1) fun σ H Q q => q
  | ok d ρ1 =>
    rw [q1] at p1
    simp only [R.bind_ok]
    cases d with
    | ins c' xs =>
      dsimp only
      by_cases hc : c' = c
      · subst hc
        rw [if_pos rfl]
        have self : ∀ {F H : Hp} {v : V}, Ex F H → Rep X.K T F (.ins c' xs) v → ∃ a dx fs, v = .ref a ∧ H a = some (.ins (T.cl c') dx fs) ∧ fs.lookup m = none := fun {F H v} e r => by
          obtain ⟨q, dx, vs, rfl, h1, h2, rr⟩ := r
          exact ⟨q, dx, _, rfl, e _ _ h1, zip_none hm⟩
        have av : ∀ {σ : L2.St} {F1 : Hp} {v : V}, Rep X.K T F1 (.ins c' xs) v → ARs X.K T F1 σ [AR.v (.ins c' xs)] [v] := fun {σ F1 v} x1 => ⟨v, _, rfl, x1, rfl⟩
        cases q3 : callR G ps.length [AR.v (.ins c' xs)] ρ1 with
        | stuck => exact pe_no
        | ex c ds ρ3 =>
          refine pe_weak (rule _ p1) fun σ H Q ⟨F, Z, L, r, k⟩ => ⟨F, Z, L, r, fun v F1 H1 e1 r1 x1 => ?_⟩
          obtain ⟨q, dx, fs, h1, h2, h3⟩ := self r1.exF x1
          exact ⟨q, dx, fs, h1, h2, h3, call_mid q3 r1 (av x1) fun cls dd F' H' e' r' px => k cls dd F' H' (e1.trans e') r' px⟩
        | ok rr ρ3 =>
          cases rr with
          | ok d =>
            refine pe_weak (rule _ p1) fun σ H Q ⟨F, Z, L, r, k⟩ => ⟨F, Z, L, r, fun v F1 H1 e1 r1 x1 => ?_⟩
            obtain ⟨q, dx, fs, h1, h2, h3⟩ := self r1.exF x1
            exact ⟨q, dx, fs, h1, h2, h3, call_mid q3 r1 (av x1) fun w F' H' e' r' px => k w F' H' (e1.trans e') r' px⟩
          | nw m' =>
            refine pe_weak (rule _ p1) fun σ H Q ⟨F, Z, L, r, k⟩ => ⟨F, Z, L, r, fun v F1 H1 e1 r1 x1 => ?_⟩
            obtain ⟨q, dx, fs, h1, h2, h3⟩ := self r1.exF x1
            exact ⟨q, dx, fs, h1, h2, h3, call_mid q3 r1 (av x1) fun a o F' H' e' hz r' px => k a o F' H' (e1.trans e') hz r' px⟩
          | ex c ds => exact pe_no
      · rw [if_neg hc]; exact pe_no
    | _ => exact pe_no
/-! ### by keywords -/
def rdKw (T : Txt) (X : Cx) (W : WX) (kws : List Keyword) (g : Ev (List D)) : Prop := ∀ ρ, PK X kws (rdA X.K T W ρ (g ρ))
theorem pk_weak {kws : List Keyword} {t t' : TA} (h : PK X kws t) (w : ∀ σ H Q, t' σ H Q → t σ H Q) : PK X kws t' := ⟨fun pos pins s σ H Q I q => h.run pos pins s σ H Q I (w σ H Q q)⟩
theorem pk_no {kws : List Keyword} : PK X kws (fun _ _ _ => False) := ⟨fun _ _ _ _ _ _ _ h => h.elim⟩
theorem jk_nil : rdKw T X W [] mNil := fun ρ => pk_weak pk_nil fun σ H Q ⟨F, Z, L, r, k⟩ => k [] F H (Ex.refl F) r rfl
theorem jk_cons {nm : Option Str} {kpos : Pos} {kws : List Keyword} {g : Ev D} {h : Ev (List D)} (h1 : JE T X W e g) (h2 : rdKw T X W kws h) : rdKw T X W (⟨nm, e, kpos⟩ :: kws) (mCons g h) := fun ρ => by
  have p1 := h1 ρ
  unfold mCons
  cases q1 : g ρ with
  | stuck => exact pk_no
  | ex c ds ρ1 => rw [q1] at p1; exact pk_weak (pk_cons p1 pk_no) fun σ H Q q => q
  | ok d ρ1 =>
    rw [q1] at p1
    have p2 := h2 ρ1
    simp only [R.bind_ok]
    cases q2 : h ρ1 with
    | stuck => exact pk_no
    | ex c ds ρ2 =>
      rw [q2] at p2
      exact pk_weak (pk_cons p1 p2) fun σ H Q ⟨F, Z, L, r, k⟩ => ⟨F, Z, L, r, fun v F1 H1 e1 r1 _ => ⟨F1, Z, L, r1, fun cls dd F2 H2 e2 r2 x2 => k cls dd F2 H2 (e1.trans e2) r2 x2⟩⟩
    | ok ds ρ2 =>
      rw [q2] at p2
      exact pk_weak (pk_cons p1 p2) fun σ H Q ⟨F, Z, L, r, k⟩ => ⟨F, Z, L, r, fun v F1 H1 e1 r1 x1 => ⟨F1, Z, L, r1, fun vs F2 H2 e2 r2 x2 => k _ F2 H2 (e1.trans e2) r2 ⟨v, vs, rfl, x1.mono e2, x2⟩⟩⟩
theorem permL_reps {F : Hp} {ds : List D} {vs : List V} (h : Reps K T F ds vs) : ∀ idx : List Nat, Reps K T F (permL idx ds) (permL idx vs)
  | [] => rfl
  | i :: idx => by
    have ih := permL_reps h idx
    unfold permL at ih ⊢
    rw [List.filterMap_cons, List.filterMap_cons]
    cases q : ds[i]? with
    | none =>
      have q2 : vs[i]? = none := by
        rw [List.getElem?_eq_none_iff] at q ⊢
        rw [h.length]; exact q
      rw [q2]; exact ih
    | some z =>
      obtain ⟨u, q2, r⟩ := h.get q
      rw [q2]; exact ⟨_, _, rfl, r, ih⟩
def mResK (G : Fn) (n kn : Nat) (idx : List Nat) (g : Ev (List D)) : Ev Res := fun ρ => (g ρ).bind fun ds ρ1 => if ds.length = kn then callR G n ((permL idx ds).map AR.v) ρ1 else .stuck
def tCallGK (kn : Nat) (idx : List Nat) (sp : Sp) (W : WX) (t : TA) : TE := fun σ H Q => t σ H fun vs H1 => vs.length = kn ∧ sp (permL idx vs) H1 Q (WE W σ)
theorem pe_callGK {fa : Addr} {fd : FuncData} {idx : List Nat} {sp : Sp} {kws : List Keyword} {t : TA} (hG : FnG X.prog X.w X.K X.mg X.base k fa fd ps sp) (hA : X.A.guards = some []) (hr : Room k X.A) (hg : Gl X x) (hm : X.mg x = some (.ref fa)) (hk : PySem.W.keepIn X.K (.ref fa) = true)
    (hb : ∀ (s : Shared) (ws : List Value), X.K.In s.heap → ws.length = ks.length → BindsTo s fd ⟨[], ks.zip ws⟩ (ps.zip (permL idx ws))) (tk : Takes X W) (hkw : PK X kws t)
    (hall : (backToKw pos (keywordEach kws X.env)).all (·.1.isSome) = true) (hks : (backToKw pos (keywordEach kws X.env)).filterMap (·.1) = ks) (hdb : (x == ("__debug__" : Str)) = false)
    (hpl : ((backTo pos (starEach [] X.env)).any (·.1) || (backToKw pos (keywordEach kws X.env)).any (·.1.isNone)) = false) : PE X (.Call (.Name x p) [] kws pos) (tCallGK ks.length idx sp W t) := ⟨fun pins s σ H Q I h => by
  refine wpAny_Call_Name_kw (ld_glob I hg hm ?_ hdb)
  refine PySem.W.callWith_KW0 (h₀ := X.base) I.ok.mod.kin hk hall (thn (hkw.run pos pins s σ H _ I h) ?_) hpl
  rintro ws s1 ⟨vs, H1, I1, r, hl, q⟩
  refine ⟨I1.kIn, ?_⟩
  rw [hks]
  have r2 := permL_vals r idx
  refine wpAny_call (codeAny_mono (hG.run (args := ⟨[], ks.zip ws⟩) hA hr I1.env0 (hb s1 ws I1.kIn (r.length.symm.trans hl)) r2 q) ?_)
  intro z s2 hz
  cases z with
  | error u => exact passAt tk σ pins H1 s1 u s2 I1 hz
  | ok fl =>
    cases fl with
    | ret u => exact I1.after hz
    | next => exact hz.elim
    | brk => exact hz.elim
    | cont => exact hz.elim⟩
theorem jr_defK {idx : List Nat} {kws : List Keyword} {g : Ev (List D)} {kn : Nat} (h : CalK X.prog X.w X.K X.mg X.base T k x G ps ks idx) (hA : X.A.guards = some []) (hr : Room k X.A) (tk : Takes X W) (ha : rdKw T X W kws g) (hn : ps.length = n := by rfl) (hkn : ks.length = kn := by rfl) (hg : Gl X x := by rfl)
    (hall : (backToKw pos (keywordEach kws X.env)).all (·.1.isSome) = true := by rfl) (hks : (backToKw pos (keywordEach kws X.env)).filterMap (·.1) = ks := by rfl) (hdb : (x == ("__debug__" : Str)) = false := by decide)
    (hpl : ((backTo pos (starEach [] X.env)).any (·.1) || (backToKw pos (keywordEach kws X.env)).any (·.1.isNone)) = false := by rfl) : JR T X W (.Call (.Name x p) [] kws pos) (mResK G n kn idx g) := fun ρ => by
  subst hn hkn
  obtain ⟨fa, fd, hG, hm, hk, hb⟩ := h.ex
  have rule : ∀ t, PK X kws t → PE X (.Call (.Name x p) [] kws pos) (tCallGK ks.length idx (spG X.K T G ps.length) W t) := fun t ht => pe_callGK hG hA hr hg hm hk hb tk ht hall hks hdb hpl
  have p1 := ha ρ
  unfold mResK
  cases q1 : g ρ with
  | stuck => exact pe_no
  | ex c ds ρ1 => rw [q1] at p1; exact pe_weak (rule _ p1) fun σ H Q q => q
  | ok ds ρ1 =>
    rw [q1] at p1
    simp only [R.bind_ok]
    by_cases hl : ds.length = ks.length
    · rw [if_pos hl]
      have av : ∀ {σ : L2.St} {F : Hp} {vs : List V}, Reps X.K T F ds vs → ARs X.K T F σ ((permL idx ds).map AR.v) (permL idx vs) := fun {σ F vs} x1 => by
        have := ARs.vals (K := X.K) (T := T) (F := F) (σ := σ) (ars := []) (vs := []) rfl (permL_reps x1 idx)
        simpa using this
      cases q2 : callR G ps.length ((permL idx ds).map AR.v) ρ1 with
      | stuck => exact pe_no
      | ex c ds' ρ2 => exact pe_weak (rule _ p1) fun σ H Q ⟨F, Z, L, r, k⟩ => ⟨F, Z, L, r, fun vs F1 H1 e1 r1 x1 => ⟨x1.length.trans hl, call_mid q2 r1 (av x1) fun cls dd F' H' e r' p => k cls dd F' H' (e1.trans e) r' p⟩⟩
      | ok rr ρ2 =>
        cases rr with
        | ok d => exact pe_weak (rule _ p1) fun σ H Q ⟨F, Z, L, r, k⟩ => ⟨F, Z, L, r, fun vs F1 H1 e1 r1 x1 => ⟨x1.length.trans hl, call_mid q2 r1 (av x1) fun v F' H' e r' p => k v F' H' (e1.trans e) r' p⟩⟩
        | nw m => exact pe_weak (rule _ p1) fun σ H Q ⟨F, Z, L, r, k⟩ => ⟨F, Z, L, r, fun vs F1 H1 e1 r1 x1 => ⟨x1.length.trans hl, call_mid q2 r1 (av x1) fun a o F' H' e hz r' p => k a o F' H' (e1.trans e) hz r' p⟩⟩
        | ex c ds => exact pe_no
    · rw [if_neg hl]; exact pe_no
/-! ### isinstance of an own class -/
structure IsiF (K : PySem.W.Frag) (T : Txt) (c : Nat) : Prop where
  no : ∀ n ∈ ["NoneType", "bool", "int", "str", "tuple", "list", "dict"], PySem.W.kitOne K (.type n) (.ref (T.cl c)) = some false
  yes : PySem.W.kitOne K (.ref (T.cl c)) (.ref (T.cl c)) = some true
  ha : PySem.W.findIn K (.ref (T.cl c)) "__class__" = some (some (.builtin "object.__class__"))
  hn : PySem.W.specialIn K (.builtin "object.__class__") "__get__" = some (some (.builtin "getset_descriptor.__get__"))
  htk : PySem.W.takesIn K (.builtin "object.__class__") = some true
  hm : PySem.W.mroIn K (T.cl c) (.type "object") = some true
def isiC (c : Nat) (d : D) : Option Bool := match d with
  | .ins c' _ => if c' = c then some true else none
  | d => (tyD d).map fun _ => false
theorem tyD_mem {d : D} {n : String} (h : tyD d = some n) : n ∈ ["NoneType", "bool", "int", "str", "tuple", "list", "dict"] := by
  cases d <;> simp only [tyD, reduceCtorEq, Option.some.injEq] at h <;> subst h <;> decide
theorem isi_own (C : ClsF K T c) (I : IsiF K T c) : IsiV K T (.ref (T.cl c)) (isiC c) := by
  intro d b h F H v e r
  unfold isiC at h
  split at h
  · rename_i c' xs
    split at h
    · rename_i hc
      subst hc
      cases h
      obtain ⟨q, dx, vs, rfl, h1, _⟩ := r
      exact ⟨_, _, .own _, .base (.ins h1 C.cls I.ha I.hn I.htk I.hm), I.yes⟩
    · cases h
  · rename_i hne
    cases q : tyD d with
    | none => rw [q] at h; cases h
    | some t => rw [q] at h; cases h; exact ⟨_, _, .own _, ty_of q e r, I.no t (tyD_mem q)⟩
theorem je_isiC {g : Ev D} {p1 : Pos} (C : ClsF X.K T c) (I : IsiF X.K T c) (hm : X.mg "isinstance" = none) (hx : X.mg x = some (.ref (T.cl c))) (ha : JB T X W a g) (hgx : Gl X x := by rfl) (hd : (x == ("__debug__" : Str)) = false := by decide) (hg : Gl X "isinstance" := by rfl)
    (hs : starEach [a, .Name x p1] X.env = (false, eval a X.env) :: starEach [.Name x p1] X.env := by rfl) (hs2 : starEach [.Name x p1] X.env = (false, eval (.Name x p1) X.env) :: starEach [] X.env := by rfl) (hp : (backTo pos (starEach [.Name x p1] X.env)).any (·.1) = false := by rfl) :
    JE T X W (.Call (.Name "isinstance" p) [a, .Name x p1] [] pos) (mIsi (isiC c) g) := je_isi (isi_own C I) hm ha (pe_glob (v := .ref (T.cl c)) hgx hx rfl hd) hg hs hs2 hp
end
end VS
set_option maxHeartbeats 2000000
namespace VS
open PySem L2 PySem.Spec PyProof.Rows
section
variable {T : Txt} {X : Cx} {W : WX} {e a b : Expr} {es : List Expr} {pos p : Pos} {K : PySem.W.Frag}
/-! ### xs + ys, xs owned -/
def mAddL (i : Nat) (gb : Ev D) : Ev MO := fun ρ => match ρ[i]? with
  | some (some (Sl.own _ _)) => (gb ρ).bind fun y ρ1 => match ρ1[i]? with
    | some (some (Sl.own _ m)) => R.of (addO m.frz y) ρ1
    | _ => .stuck
  | _ => .stuck
theorem jf_addL {i : Nat} {gb : Ev D} (ha : PE X a (tVar i)) (hb : JE T X W b gb) : JF T X W (.BinOp a .Add b pos) (mAddL i gb) := fun ρ => by
  unfold mAddL
  split
  · rename_i l0 m0 q0
    have h2 := hb ρ
    cases q2 : gb ρ with
    | stuck => exact pe_no
    | ex c ds ρ2 =>
      rw [q2] at h2
      refine pe_weak (pe_op op_cat ha h2) fun σ H Q ⟨F, Z, L, r, k⟩ => ?_
      obtain ⟨a0, o0, g1, _⟩ := r.own i l0 m0 q0
      exact ⟨_, g1, F, Z, L, r, fun cls dd F2 H2 e2 r2 x2 => k cls dd F2 H2 e2 r2 x2⟩
    | ok y ρ2 =>
      rw [q2] at h2
      simp only [R.bind_ok]
      split
      · rename_i l m q
        cases q3 : addO m.frz y with
        | none => exact pe_no
        | some m' =>
          refine pe_weak (pe_op op_cat ha h2) fun σ H Q ⟨F, Z, L, r, k⟩ => ?_
          obtain ⟨a0, o0, g1, _⟩ := r.own i l0 m0 q0
          refine ⟨_, g1, F, Z, L, r, fun w F2 H2 e2 r2 p2 => ?_⟩
          obtain ⟨a1, o1, g2, g3, g4, g5, g6⟩ := r2.own i l m q
          have ea : a0 = a1 := by rw [g1] at g2; cases g2; rfl
          subst ea
          cases m with
          | lst zs =>
            cases y <;> simp only [MO.frz, addO, reduceCtorEq] at q3
            rename_i ys
            split at q3
            · rename_i hz
              cases q3
              obtain ⟨vs1, e1, rr1⟩ := g6
              obtain ⟨a2, vs2, rfl, f2, rr2⟩ := p2
              exact ⟨a0, a2, vs1, vs2, rfl, rfl, by rw [g5, e1], r2.exF _ _ f2, by rw [rr1.length, rr2.length]; exact le_line hz, fun p hp => k p _ F2 _ e2 (r2.exZ.none hp) (r2.zNew hp) ⟨_, rfl, rr1.append rr2⟩⟩
            · cases q3
          | dct _ => simp [MO.frz, addO] at q3
          | ins _ _ => simp [MO.frz, addO] at q3
      · exact pe_no
  · exact pe_no
/-! ### a, b = x, y by a tuple that is let go -/
theorem Rel.junk {F Z H : Hp} {L : Nat → Option Addr} {σ : L2.St} {ρ : VEnv} {q : Addr} {o : HO} (r : Rel K T F Z L σ ρ H) (n : H q = none) : Rel K T F Z L σ ρ (upd H q o) := by
  have keep : ∀ {b : Addr} {u : HO}, H b = some u → upd H q o b = some u := fun {b u} z => by rw [upd_ne (ne_of_none z n)]; exact z
  refine ⟨fun b u z => keep (r.exF b u z), fun b u z => keep (r.exZ b u z), r.dis, r.len, r.val, fun i l m z => ?_, r.sep, r.lent⟩
  obtain ⟨a, u, g1, g2, g3, g4, g5⟩ := r.own i l m z
  exact ⟨a, u, g1, g2, g3, keep g4, g5⟩
section
variable {i j : Nat} {x y : Str} {px py pt pt2 : Pos} {kt k2 : Nat}
theorem js_tupEE {ga : Ev D} {gb : Ev D} (hc : X.calm = true) (hN : X.N.Nodup) (hi : X.N[i]? = some x) (hj : X.N[j]? = some y) (ha : JE T X W a ga) (hb : JE T X W b gb)
    (hx : Loc X.env.scope x := by first | exact Or.inl rfl | exact Or.inr rfl) (hy : Loc X.env.scope y := by first | exact Or.inl rfl | exact Or.inr rfl) (fx : X.fn x = true ∨ X.env.scope.names.lookup x = some .local := by first | exact .inl rfl | exact .inr rfl) (fy : X.fn y = true ∨ X.env.scope.names.lookup y = some .local := by first | exact .inl rfl | exact .inr rfl)
    (hw : swappedStores [.Tuple [.Name x px, .Name y py] kt pt] (.Tuple [a, b] k2 pt2) X.env = pure none := by rfl) (hsw : swapsWithSole [.Tuple [.Name x px, .Name y py] kt pt] (.Tuple [a, b] k2 pt2) pos.line X.env = pure false := by rfl)
    (h1 : (assignEach [.Tuple [.Name x px, .Name y py] kt pt] X.env).map (·.2) = [assign (.Tuple [.Name x px, .Name y py] kt pt) X.env] := by rfl) (hn : (assignEach [.Name x px, .Name y py] X.env).length = 2 := by rfl) (hst : (assignEach [.Name x px, .Name y py] X.env).findIdx? (·.1) = none := by rfl)
    (g1 : (assignEach [.Name x px, .Name y py] X.env).map (·.2) = assign (.Name x px) X.env :: (assignEach [.Name y py] X.env).map (·.2) := by rfl) (g2 : (assignEach [.Name y py] X.env).map (·.2) = assign (.Name y py) X.env :: (assignEach [] X.env).map (·.2) := by rfl)
    (hs : starEach [a, b] X.env = (false, eval a X.env) :: starEach [b] X.env := by rfl) (hs2 : starEach [b] X.env = (false, eval b X.env) :: starEach [] X.env := by rfl) :
    JS T X W (.Assign [.Tuple [.Name x px, .Name y py] kt pt] (.Tuple [a, b] k2 pt2) pos) (mParEE i j ga gb) := fun ρ => by
  have rule := fun ta tb (h3 : PE X a ta) (h4 : PE X b tb) => ps_asg (pos := pos) (pe_tup (x1 := k2) (pos := pt2) (pa_cons h3 (pa_cons h4 pa_nil hs2) hs)) (pg_tup (k := kt) (pos := pt) hc (pgs_cons (pg_name (pos := px) hN hi hx fx) (pgs_cons (pg_name (pos := py) hN hj hy fy) pgs_nil g2) g1) hn hst) hsw hw h1
  have p1 := ha ρ
  unfold mParEE
  cases q1 : ga ρ with
  | stuck => exact js_never ρ
  | ex c ds ρ1 => rw [q1] at p1; exact ps_weak (rule _ _ p1 pe_no) fun N σ H ⟨F, Z, L, r, k⟩ => ⟨F, Z, L, r, fun cls dd F' H' e r' x => k cls dd σ F' H' e r' x⟩
  | ok d ρ1 =>
    rw [q1] at p1
    have p2 := hb ρ1
    simp only [R.thenS_ok]
    cases q2 : gb ρ1 with
    | stuck => exact js_never ρ
    | ex c ds ρ2 => rw [q2] at p2; exact ps_weak (rule _ _ p1 p2) fun N σ H ⟨F, Z, L, r, k⟩ => ⟨F, Z, L, r, fun v F1 H1 e1 r1 x1 => ⟨F1, Z, L, r1, fun cls dd F' H' e r' x => k cls dd σ F' H' (e1.trans e) r' x⟩⟩
    | ok d2 ρ2 =>
      rw [q2] at p2
      refine ps_weak (rule _ _ p1 p2) fun N σ H ⟨F, Z, L, r, k⟩ => ⟨F, Z, L, r, fun v F1 H1 e1 r1 x1 => ⟨F1, Z, L, r1, fun w F2 H2 e2 r2 x2 => ?_⟩⟩
      obtain ⟨ρ3, q3, k⟩ := setVS_ks k
      obtain ⟨ρ4, q4, k⟩ := setVS_ks k
      refine ⟨by show 2 ≤ sizeLine; decide, fun p hp => ⟨p, _, rfl, SqT.of upd_same, rfl, v, [w], rfl, w, [], rfl, rfl, ?_⟩⟩
      exact k _ F2 _ (e1.trans e2) (((r2.setV q3 (x1.mono e2)).setV q4 x2).junk hp)
theorem js_tupEF {ga : Ev D} {gb : Ev MO} (hc : X.calm = true) (hN : X.N.Nodup) (hi : X.N[i]? = some x) (hj : X.N[j]? = some y) (ha : JE T X W a ga) (hb : JF T X W b gb)
    (hx : Loc X.env.scope x := by first | exact Or.inl rfl | exact Or.inr rfl) (hy : Loc X.env.scope y := by first | exact Or.inl rfl | exact Or.inr rfl) (fx : X.fn x = true ∨ X.env.scope.names.lookup x = some .local := by first | exact .inl rfl | exact .inr rfl) (fy : X.fn y = true ∨ X.env.scope.names.lookup y = some .local := by first | exact .inl rfl | exact .inr rfl)
    (hw : swappedStores [.Tuple [.Name x px, .Name y py] kt pt] (.Tuple [a, b] k2 pt2) X.env = pure none := by rfl) (hsw : swapsWithSole [.Tuple [.Name x px, .Name y py] kt pt] (.Tuple [a, b] k2 pt2) pos.line X.env = pure false := by rfl)
    (h1 : (assignEach [.Tuple [.Name x px, .Name y py] kt pt] X.env).map (·.2) = [assign (.Tuple [.Name x px, .Name y py] kt pt) X.env] := by rfl) (hn : (assignEach [.Name x px, .Name y py] X.env).length = 2 := by rfl) (hst : (assignEach [.Name x px, .Name y py] X.env).findIdx? (·.1) = none := by rfl)
    (g1 : (assignEach [.Name x px, .Name y py] X.env).map (·.2) = assign (.Name x px) X.env :: (assignEach [.Name y py] X.env).map (·.2) := by rfl) (g2 : (assignEach [.Name y py] X.env).map (·.2) = assign (.Name y py) X.env :: (assignEach [] X.env).map (·.2) := by rfl)
    (hs : starEach [a, b] X.env = (false, eval a X.env) :: starEach [b] X.env := by rfl) (hs2 : starEach [b] X.env = (false, eval b X.env) :: starEach [] X.env := by rfl) :
    JS T X W (.Assign [.Tuple [.Name x px, .Name y py] kt pt] (.Tuple [a, b] k2 pt2) pos) (mParEF i j ga gb) := fun ρ => by
  have rule := fun ta tb (h3 : PE X a ta) (h4 : PE X b tb) => ps_asg (pos := pos) (pe_tup (x1 := k2) (pos := pt2) (pa_cons h3 (pa_cons h4 pa_nil hs2) hs)) (pg_tup (k := kt) (pos := pt) hc (pgs_cons (pg_name (pos := px) hN hi hx fx) (pgs_cons (pg_name (pos := py) hN hj hy fy) pgs_nil g2) g1) hn hst) hsw hw h1
  have p1 := ha ρ
  unfold mParEF
  cases q1 : ga ρ with
  | stuck => exact js_never ρ
  | ex c ds ρ1 => rw [q1] at p1; exact ps_weak (rule _ _ p1 pe_no) fun N σ H ⟨F, Z, L, r, k⟩ => ⟨F, Z, L, r, fun cls dd F' H' e r' x => k cls dd σ F' H' e r' x⟩
  | ok d ρ1 =>
    rw [q1] at p1
    have p2 := hb ρ1
    simp only [R.thenS_ok]
    cases q2 : gb ρ1 with
    | stuck => exact js_never ρ
    | ex c ds ρ2 => rw [q2] at p2; exact ps_weak (rule _ _ p1 p2) fun N σ H ⟨F, Z, L, r, k⟩ => ⟨F, Z, L, r, fun v F1 H1 e1 r1 x1 => ⟨F1, Z, L, r1, fun cls dd F' H' e r' x => k cls dd σ F' H' (e1.trans e) r' x⟩⟩
    | ok d2 ρ2 =>
      rw [q2] at p2
      refine ps_weak (rule _ _ p1 p2) fun N σ H ⟨F, Z, L, r, k⟩ => ⟨F, Z, L, r, fun v F1 H1 e1 r1 x1 => ⟨F1, Z, L, r1, fun a o F2 H2 e2 hz r2 x2 => ?_⟩⟩
      obtain ⟨ρ3, q3, k⟩ := setVS_ks k
      obtain ⟨ρ4, q4, k⟩ := setOS_ks k
      refine ⟨by show 2 ≤ sizeLine; decide, fun p hp => ⟨p, _, rfl, SqT.of upd_same, rfl, v, [.ref a], rfl, .ref a, [], rfl, rfl, ?_⟩⟩
      exact k _ F2 _ (e1.trans e2) (((r2.setV q3 (x1.mono e2)).setO hz q4 x2).junk hp)
end
end
end VS
set_option maxHeartbeats 2000000
/-! Own classes that say their own len, str, repr, truth, ==, !=: each a plain function upon data. -/
namespace VS
open PySem L2 PySem.Spec PyProof.Rows
/-! ### a call between two values, seen as growth -/
theorem grow_of {K : PySem.W.Frag} {T : Txt} {F H F' H' : Hp} (e : Ex F F') (h1 : Ex F' H') (h2 : ∀ a o, F a = none → H a = some o → H' a = some o) (h3 : ∀ a o u, F a = none → H a = some o → F' a = some u → False) : Grow K T F H F' H' := by
  refine ⟨e, fun Z L σ ρ r => ?_⟩
  have out : ∀ {a o}, Z a = some o → F a = none := fun {a o} q => by
    cases g : F a with
    | none => rfl
    | some u => rw [r.dis a u g] at q; cases q
  refine ⟨h1, fun a o q => h2 a o (out q) (r.exZ a o q), fun a u q => ?_, r.len, fun i d q => ?_, fun i l m q => ?_, r.sep, r.lent⟩
  · cases g : Z a with
    | none => rfl
    | some o => exact (h3 a o u (out g) (r.exZ a o g) q).elim
  · obtain ⟨v, g1, g2⟩ := r.val i d q
    exact ⟨v, g1, g2.mono e⟩
  · obtain ⟨a, o, g1, g2, g3, g4, g5⟩ := r.own i l m q
    refine ⟨a, o, g1, ?_, g3, h2 a o g2 g4, g5.mono e⟩
    cases g : F' a with
    | none => rfl
    | some u => exact (h3 a o u g2 g4 g).elim
/-- all that is not frozen -/
noncomputable def rest (F H : Hp) : Hp := fun a => match F a with
  | some _ => none
  | none => H a
theorem spG_pure {K : PySem.W.Frag} {T : Txt} {G : Fn} {ds : List D} {vs : List V} {z : D} {F H : Hp} {Q : VK} {E : XK} (e : Ex F H) (r : Reps K T F ds vs) (h : G (ds.map Arg.v) = some (.ok z, []))
    (k : ∀ u F' H', Grow K T F H F' H' → Rep K T F' z u → Q u H') : spG K T G ds.length vs H Q E := by
  refine ⟨F, rest F H, ds.map Arg.v, .ok z, [], r.length, ?_, h, fun u F' H' e' r' p => k u F' H' (grow_of e' r'.exF (fun a o q1 q2 => r'.exZ a o ?_) fun a o u q1 q2 q3 => ?_) p⟩
  · have own0 : ∀ (i : Nat) (l : Bool) (m : MO), ¬ ((ds.map Arg.v).map slotOf)[i]? = some (some (Sl.own l m)) := fun i l m q => by
      rw [List.map_map, List.getElem?_map] at q
      cases g : ds[i]? with
      | none => rw [g] at q; cases q
      | some d => rw [g] at q; simp [slotOf] at q
    refine ⟨e, fun a o q => ?_, fun a o q => ?_, by simp [r.length], fun i d q => ?_, fun i l m q => (own0 i l m q).elim, fun i j l m l' m' a q => (own0 i l m q).elim, fun i a q => ?_⟩
    · unfold rest at q
      split at q
      · cases q
      · exact q
    · unfold rest; rw [q]
    · rw [List.map_map, List.getElem?_map] at q
      cases g : ds[i]? with
      | none => rw [g] at q; cases q
      | some d' =>
        rw [g] at q
        simp [slotOf] at q
        subst q
        obtain ⟨v, g1, g2⟩ := r.get g
        exact ⟨v, by rw [List.getElem?_map, g1]; rfl, g2⟩
    · simp only [lentOf, List.getElem?_map] at q
      cases g : ds[i]? with
      | none => rw [g] at q; cases q
      | some d => rw [g] at q; cases q
  · unfold rest; rw [q1]; exact q2
  · have := r'.dis a u q3
    unfold rest at this
    rw [q1, q2] at this
    cases this
section
variable {T : Txt} {X : Cx} {W : WX} {K : PySem.W.Frag} {k : Nat} {f C : Addr} {fd : FuncData} {ps : List Str} {sp : Sp} {e a b : Expr} {es : List Expr} {pos p : Pos} {c : Nat} {G : Fn}
theorem callG_at {A : Around} {pins : List (Addr × Obj)} {σ : L2.St} {H : Hp} {s : Shared} {Q : VK} {us : List Value} {vs : List V} (G : FnG X.prog X.w X.K X.mg X.base k f fd ps sp) (hA : A.guards = some []) (sb : Sub X k A) (hb : Binds X.K fd ps [])
    (I : Inv X pins σ H s) (r : Vals vs us) (h : sp vs H Q fun _ _ _ => False) : wpAny (model X.prog X.w) A (call (.ref f) us) (EP X pins σ Q) X.xe s := by
  have e0 : Env0 X.prog X.w X.K X.mg X.base A X.stack s H := by
    have e := I.env0
    exact ⟨by rw [sb.fr]; exact e.frames, e.mod, e.bs, e.bsz, e.funs, e.frf, e.hok, e.bare⟩
  have hl : us.length = ps.length := r.length.symm.trans (G.len h)
  have hb' := hb s us I.kIn (by simpa using hl)
  refine wpAny_call (codeAny_mono (G.run (args := ⟨us, []⟩) (us := us) hA sb.room e0 (by simpa using hb') r h) ?_)
  intro z s2 hz
  cases z with
  | error u =>
    obtain ⟨_, _, _, _, _, _, _, _, _, _, _, _, z⟩ := hz
    exact z.elim
  | ok fl =>
    cases fl with
    | ret u => exact I.after hz
    | next => exact hz.elim
    | brk => exact hz.elim
    | cont => exact hz.elim
/-! ### len, repr, str, bool -/
def rSp (C : Addr) (sp : Sp) (R : V → (V → Prop) → Prop) : List V → Hp → VK → Prop := fun xs H Q => ∃ a dx fs, xs = [.ref a] ∧ H a = some (.ins C dx fs) ∧ sp [.ref a] H (fun v H' => R v fun u => Q u H') fun _ _ _ => False
def RLen (v : V) (q : V → Prop) : Prop := ∃ n : Int, v = .int n ∧ 0 ≤ n ∧ n < 2 ^ 63 ∧ q (.int n)
def RStr (v : V) (q : V → Prop) : Prop := ∃ t : Str, v = .str t ∧ q (.str t)
theorem call_lenI (M : Meth X.K C "__len__" f) (G : FnG X.prog X.w X.K X.mg X.base k f fd ps sp) (hA : X.A.guards = some []) (hr : Room (k + 1) X.A) (hb : Binds X.K fd ps []) : CallR X (.builtin "len") (rSp C sp RLen) := by
  intro pins s σ H xs us Q I rs h
  obtain ⟨a, dx, fs, rfl, ha, h⟩ := h
  obtain rfl := Vals.ref1 rs
  obtain ⟨mA, J, _⟩ := ins_get I.hok ha
  obtain ⟨od, J, _⟩ := J.look
  obtain ⟨m, hF⟩ := I.fr
  refine PySem.W.len_K hF I.ok.mod.kin J M.at_ M.fn (wpAny_mono (callG_at (A := X.A.in1) G hA ⟨hr.in1, rfl⟩ hb I rs h) (fun u s' z => ?_) fun _ _ z => z)
  obtain ⟨v, H', I', rv, n, rfl, h0, h1, q⟩ := z
  obtain ⟨t, rfl⟩ := rv
  exact ⟨⟨h0, h1⟩, .int n, H', I'.tok _, ⟨_, rfl⟩, q⟩
theorem call_reprI (M : Meth X.K C "__repr__" f) (G : FnG X.prog X.w X.K X.mg X.base k f fd ps sp) (hA : X.A.guards = some []) (hr : Room (k + 1) X.A) (hb : Binds X.K fd ps []) : CallR X (.builtin "repr") (rSp C sp RStr) := by
  intro pins s σ H xs us Q I rs h
  obtain ⟨a, dx, fs, rfl, ha, h⟩ := h
  obtain rfl := Vals.ref1 rs
  obtain ⟨mA, J, _⟩ := ins_get I.hok ha
  obtain ⟨od, J, _⟩ := J.look
  obtain ⟨m, hF⟩ := I.fr
  refine PySem.W.repr_K hr.in1.units0 hF I.ok.mod.kin J M.at_ M.fn (wpAny_mono (callG_at (A := X.A.in1) G hA ⟨hr.in1, rfl⟩ hb I rs h) (fun u s' z => ?_) fun _ _ z => z)
  obtain ⟨v, H', I', rv, n, rfl, q⟩ := z
  obtain ⟨t, rfl⟩ := rv
  exact ⟨.str n, H', I', ⟨_, rfl⟩, q⟩
theorem call_strI (M : Meth X.K C "__str__" f) (G : FnG X.prog X.w X.K X.mg X.base k f fd ps sp) (hA : X.A.guards = some []) (hr : Room (k + 2) X.A) (hb : Binds X.K fd ps []) : CallR X (.type "str") (rSp C sp RStr) := by
  intro pins s σ H xs us Q I rs h
  obtain ⟨a, dx, fs, rfl, ha, h⟩ := h
  obtain rfl := Vals.ref1 rs
  obtain ⟨mA, J, _⟩ := ins_get I.hok ha
  obtain ⟨od, J, _⟩ := J.look
  refine PySem.W.kso_call hr.in1.in1.units0 I.kIn J M.at_ M.fn (wpAny_mono (callG_at (A := X.A.in1.in1) G hA ⟨hr.in1.in1, rfl⟩ hb I rs h) (fun u s' z => ?_) fun _ _ z => z)
  obtain ⟨v, H', I', rv, n, rfl, q⟩ := z
  obtain ⟨t, rfl⟩ := rv
  exact ⟨.str n, H', I', ⟨_, rfl⟩, q⟩
end
end VS
set_option maxHeartbeats 2000000
namespace VS
open PySem L2 PySem.Spec PyProof.Rows
section
variable {prog : Program} {w : World} {A : Around} {E : Value → Shared → Prop} {s : Shared} {K : PySem.W.Frag} {x C f : Addr} {ox : Obj} {od : Option Obj} {b : Value}
/-- the body of len, its argument's own length -/
theorem own_length {Q : Value → Shared → Prop} (X : K.In s.heap) (I : PySem.W.InstAt s.heap x ox C od) (M : Meth K C "__len__" f) (h : wpAny (model prog w) A (call (.ref f) [.ref x]) (PySem.W.LenBack Q) E s) :
    wpAny (model prog w) A (Builtin.«len» ⟨[.ref x], []⟩) (fun r s' => ∃ v, r = .done (.ret v) ∧ Q v s') E s := by
  unfold Builtin.«len»
  apply wpAny_bind (m := oneArg "len" _)
  apply wpAny_pure
  refine wpAny_bind (m := callSpecial? (.ref x) (Str.ofString "__len__")) (PySem.W.special_fn X I M.at_ (beq_iff_eq.mp M.fn) (wpAny_mono h ?_ fun _ _ z => z))
  intro r s2 hr
  cases r with
  | int n u =>
    obtain ⟨⟨lo, hi⟩, q⟩ := hr
    apply wpAny_bind
    apply wpAny_holding
    apply wpAny_pure
    apply wpAny_bind
    apply wpAny_letGo
    show wpAny _ _ (if n < 0 then _ else _) _ _ _
    rw [if_neg (Int.not_lt.mpr lo)]
    show wpAny _ _ (if n ≥ 2 ^ 63 then _ else _) _ _ _
    rw [if_neg (Int.not_le.mpr hi)]
    apply wpAny_bind
    apply wpAny_mkInt
    exact wpAny_pure ⟨_, rfl, q⟩
  | _ => exact hr.elim
/-- truth by length -/
theorem own_truth {Q : Bool → Shared → Prop} (X : K.In s.heap) (I : PySem.W.InstAt s.heap x ox C od) (nb : PySem.W.findIn K (.ref C) "__bool__" = some none) (M : Meth K C "__len__" f)
    (h : wpAny (model prog w) A.in1 (call (.ref f) [.ref x]) (PySem.W.LenBack fun v s' => ∃ n t, v = .int n t ∧ Q (n != 0) s') E s) : wpAny (model prog w) A (truthy (.ref x)) Q E s := by
  have run : wpAny (model prog w) A (runValue (.builtin "len" ⟨[.ref x], []⟩)) (fun v s' => ∃ n t, v = .int n t ∧ Q (n != 0) s') E s := by
    refine wpAny_runValue (codeAny_builtin entry_len ?_)
    rw [Around.under_plainId plain_len _]
    refine wpAny_mono (own_length X I M h) ?_ fun _ _ z => z
    rintro r s2 ⟨v, rfl, q⟩
    exact q
  have last : wpAny (model prog w) A (runValue (.builtin "len" ⟨[.ref x], []⟩) >>= fun r => match r with
      | .int n _ => pure (n != 0)
      | _ => unsupported "internal:truth.len") Q E s := by
    refine wpAny_bind (wpAny_mono run ?_ fun _ _ z => z)
    rintro r s2 ⟨n, t, rfl, q⟩
    exact wpAny_pure q
  unfold truthy
  refine wpAny_bind (m := callSpecial? (.ref x) (Str.ofString "__bool__")) (wpAny_bind (wpAny_bind (I.type.here ((PySem.W.looks_findIn X nb).here (wpAny_pure ?_)))))
  refine wpAny_bind (wpAny_bind (I.type.here ((PySem.W.looks_findIn X M.at_).here ?_)))
  exact last
/-- != by the own == -/
theorem own_unlike {Q : Value → Shared → Prop} {tb : Value} (hu : A.units + 1 < cLine) (X : K.In s.heap) (I : PySem.W.InstAt s.heap x ox C od) (hb : PySem.W.Looks (model prog w) s.heap (typeOf b) tb) (hn : PySem.W.notFirst K C tb = true)
    (ne : PySem.W.findIn K (.ref C) "__ne__" = some (some (.builtin "object.__ne__"))) (ob : PySem.W.mroIn K C (.type "object") = some true) (M : Meth K C "__eq__" f)
    (h : wpAny (model prog w) A.in1 (call (.ref f) [.ref x, b]) (fun v s' => ∃ t, v = .bool t ∧ Q (.bool (!t)) s') E s) : wpAny (model prog w) A (richCompare .NotEq (.ref x) b) Q E s := by
  have body : wpAny (model prog w) A.in1 (Builtin.«object.__ne__» ⟨[.ref x, b], []⟩) (fun r s' => ∃ v, r = .done (.ret v) ∧ ∃ t, v = .bool t ∧ Q v s') E s := by
    unfold Builtin.«object.__ne__»
    apply wpAny_bind (m := slotArgs "__ne__" 1 _)
    apply wpAny_pure
    refine wpAny_bind (m := cRoomFor _ _) (wpAny_cRoomFor hu ?_)
    refine wpAny_bind (m := callSpecialIfBound? (.ref x) (Str.ofString "__eq__") _) (PySem.W.ifBound_K X I M.at_ M.fn (wpAny_mono h ?_ fun _ _ z => z))
    rintro r s2 ⟨t, rfl, q⟩
    refine wpAny_bind (m := truthy (.bool t)) (wpAny_truthy_bool ?_)
    exact wpAny_pure ⟨_, rfl, _, rfl, q⟩
  have one : wpAny (model prog w) A (tryCompare (.ref x) "__ne__" b) (fun r s' => ∃ v, r = some v ∧ Q v s') E s := by
    unfold tryCompare
    have called : wpAny (model prog w) A (call (.builtin "object.__ne__") [.ref x, b]) (fun v s' => ∃ t, v = .bool t ∧ Q v s') E s := by
      refine wpAny_call (codeAny_call_builtin F.cmp_object.ne.plain F.cmpEntry_ne (PySem.W.check_slot F.cmpKind_ne F.cmpSplit_ne (I.type.andThen (PySem.W.looks_mroIn X ob)) (F.cmpArgs_ne _ _) ?_))
      refine wpAny_mono body ?_ fun _ _ z => z
      rintro r s2 ⟨v, rfl, t, rfl, q⟩
      exact ⟨t, rfl, q⟩
    have bound : wpAny (model prog w) A (callSpecialIfBound? (.ref x) "__ne__" [b]) (fun r s' => ∃ t, r = some (.bool t) ∧ Q (.bool t) s') E s := by
      have fin : wpAny (model prog w) A (call (.builtin "object.__ne__") ([.ref x] ++ [b]) >>= fun v => pure (some v)) (fun r s' => ∃ t, r = some (.bool t) ∧ Q (.bool t) s') E s := by
        refine wpAny_bind (wpAny_mono called ?_ fun _ _ z => z)
        rintro v s2 ⟨t, rfl, q⟩
        exact wpAny_pure ⟨t, rfl, q⟩
      simp only [callSpecialIfBound?, bindSpecialIfBound?]
      refine wpAny_holding (wpAny_bind (wpAny_bind (wpAny_bind (I.type.here ((PySem.W.looks_findIn X ne).here ?_)))))
      refine wpAny_bind (wpAny_askSetting (wpAny_ite ?_))
      split
      · exact wpAny_bind (wpAny_of_eq (F.cmp_object.ne.bind _) (wpAny_pure fin))
      · exact wpAny_tryCatch (wpAny_bind (wpAny_of_eq (F.cmp_object.ne.bind _) (wpAny_pure fin)))
    refine wpAny_bind (wpAny_mono bound ?_ fun _ _ z => z)
    rintro r s2 ⟨t, rfl, q⟩
    exact wpAny_pure ⟨_, rfl, q⟩
  have end_ : wpAny (model prog w) A (richCompare .NotEq (.ref x) b) Q E s := by
    unfold richCompare
    simp only [oneThing_ref]
    refine wpAny_holding (wpAny_bind (wpAny_cRoomFor (Nat.lt_of_succ_lt hu) ?_))
    refine wpAny_bind (I.type.here (wpAny_bind (hb.here ?_)))
    have go : ∀ {k : Option Value → Sem Value}, (∀ v, k (some v) = pure v) → wpAny (model prog w) A (tryCompare (.ref x) (cmpInfo .NotEq).2.1 b >>= k) Q E s := fun {k} hk => by
      refine wpAny_bind (wpAny_mono one ?_ fun _ _ z => z)
      rintro r s2 ⟨v, rfl, q⟩
      rw [hk]; exact wpAny_pure q
    split
    · rename_i g
      have e : PySem.W.subIn K tb (.ref C) = some false := by
        rcases Bool.or_eq_true_iff.mp hn with e | e
        · rw [beq_iff_eq.mp e] at g; simp at g
        · exact beq_iff_eq.mp e
      refine wpAny_bind ((PySem.W.looks_subIn X e).here ?_)
      simp only [Bool.false_eq_true, if_false]
      exact go fun _ => rfl
    · refine wpAny_bind (wpAny_pure ?_)
      simp only [Bool.false_eq_true, if_false]
      exact go fun _ => rfl
  exact end_
end
section
variable {T : Txt} {X : Cx} {W : WX} {K : PySem.W.Frag} {k : Nat} {f C : Addr} {fd : FuncData} {ps : List Str} {sp : Sp} {e a b : Expr} {es : List Expr} {pos p : Pos} {c : Nat} {G : Fn}
def RTru (v : V) (q : V → Prop) : Prop := ∃ n : Int, v = .int n ∧ 0 ≤ n ∧ n < 2 ^ 63 ∧ q (.bl (n != 0))
theorem call_boolI (nb : PySem.W.findIn X.K (.ref C) "__bool__" = some none) (M : Meth X.K C "__len__" f) (G : FnG X.prog X.w X.K X.mg X.base k f fd ps sp) (hA : X.A.guards = some []) (hr : Room (k + 3) X.A) (hb : Binds X.K fd ps []) : CallR X (.type "bool") (rSp C sp RTru) := by
  intro pins s σ H xs us Q I rs h
  obtain ⟨a, dx, fs, rfl, ha, h⟩ := h
  obtain rfl := Vals.ref1 rs
  obtain ⟨mA, J, _⟩ := ins_get I.hok ha
  obtain ⟨od, J, _⟩ := J.look
  have tru : wpAny (model X.prog X.w) X.A.in1.in1 (truthy (.ref a)) (fun t s' => EP X pins σ Q (.bool t) s') X.xe s := by
    refine own_truth I.kIn J nb M (wpAny_mono (callG_at (A := X.A.in1.in1.in1) G hA ⟨hr.in1.in1.in1, rfl⟩ hb I rs h) (fun u s' z => ?_) fun _ _ z => z)
    obtain ⟨v, H', I', rv, n, rfl, h0, h1, q⟩ := z
    obtain ⟨t, rfl⟩ := rv
    exact ⟨⟨h0, h1⟩, n, _, rfl, .bl (n != 0), H', I'.tok _, rfl, q⟩
  refine callType_codes (T := "bool") (Bi := Builtin.«object.__init__») (Q₁ := fun r s1 => ∃ t, r = .bool t ∧ EP X pins σ Q r s1) F.called_bool (F.typeCall_bool_1 _) F.entry_object_init ?_ ?_
  · refine codeAny_of_tree ?_
    show wpAny _ X.A.in1.in1 (do checkBuiltinCall "bool.__new__" ⟨[.type "bool", .ref a], []⟩; again (.builtin "bool.__new__" ⟨[.type "bool", .ref a], []⟩)) _ _ s
    refine wpAny_bind (wpAny_of_eq (F.newCall_bool_1 _) (wpAny_pure ⟨plainId_quiet (by decide +kernel) _, codeAny_builtin F.entry_bool_new ?_⟩))
    rw [Around.under_plainId (by decide +kernel) _]
    unfold Builtin.«bool.__new__»
    have f1 := F.conv_sub_bool
    repeat (any_goals (first | assumption | (with_reducible refine wpAny_bind (m := truthy (.ref a)) (wpAny_mono tru ?_ fun _ _ z => z)) | wp_step))
    intro t s2 q
    exact wpAny_pure ⟨_, rfl, q⟩
  · rintro obj s1 ⟨t, rfl, q⟩
    exact ⟨rfl, F.args_object_init_2 _ _, object_init_meets F.called_bool.init.lookup F.called_bool.made (by decide) X.prog X.w X.A.in1 _ s1 ⟨rfl, rfl, q⟩⟩
/-! ### == and != -/
def rSp2 (C : Addr) (sp : Sp) (neg : Bool) : R2 := fun x y H Q => ∃ a b dx dy fs gs, x = .ref a ∧ y = .ref b ∧ H a = some (.ins C dx fs) ∧ H b = some (.ins C dy gs) ∧ sp [.ref a, .ref b] H (fun v H' => ∃ t, v = .bl t ∧ Q (.bl (t != neg)) H') fun _ _ _ => False
theorem op_eqI (M : Meth X.K C "__eq__" f) (G : FnG X.prog X.w X.K X.mg X.base k f fd ps sp) (hA : X.A.guards = some []) (hr : Room k X.A) (hb : Binds X.K fd ps []) : OpR X (compareOp .Eq) (rSp2 C sp false) := by
  intro pins s σ H x y v u Q I rx ry h
  obtain ⟨a, b, dx, dy, fs, gs, rfl, rfl, ha, hb', h⟩ := h
  cases rx
  cases ry
  obtain ⟨mA, J, _⟩ := ins_get I.hok ha
  obtain ⟨mB, J', _⟩ := ins_get I.hok hb'
  obtain ⟨od, J, _⟩ := J.look
  obtain ⟨od', J', _⟩ := J'.look
  obtain ⟨m, hF⟩ := I.fr
  have rs : Vals [V.ref a, V.ref b] [Value.ref a, Value.ref b] := .cons rfl (.cons rfl .nil)
  show wpAny (model X.prog X.w) X.A (richCompare .Eq (.ref a) (.ref b)) (EP X pins σ Q) X.xe s
  refine PySem.W.cmp_K (op := .Eq) (tb := .ref C) hr.units0 hF I.ok.mod.kin J J'.type (by simp [PySem.W.notFirst]) M.at_ M.fn (wpAny_mono (callG_at G hA ⟨hr, rfl⟩ hb I rs h) (fun u s' z => ?_) fun _ _ z => z)
  obtain ⟨v, H', I', rv, t, rfl, q⟩ := z
  cases rv
  rw [Bool.bne_false] at q
  exact ⟨.bl t, H', I', rfl, q⟩
theorem op_neI (ne : PySem.W.findIn X.K (.ref C) "__ne__" = some (some (.builtin "object.__ne__"))) (ob : PySem.W.mroIn X.K C (.type "object") = some true) (M : Meth X.K C "__eq__" f) (G : FnG X.prog X.w X.K X.mg X.base k f fd ps sp) (hA : X.A.guards = some [])
    (hr : Room (k + 1) X.A) (hb : Binds X.K fd ps []) : OpR X (compareOp .NotEq) (rSp2 C sp true) := by
  intro pins s σ H x y v u Q I rx ry h
  obtain ⟨a, b, dx, dy, fs, gs, rfl, rfl, ha, hb', h⟩ := h
  cases rx
  cases ry
  obtain ⟨mA, J, _⟩ := ins_get I.hok ha
  obtain ⟨mB, J', _⟩ := ins_get I.hok hb'
  obtain ⟨od, J, _⟩ := J.look
  obtain ⟨od', J', _⟩ := J'.look
  have rs : Vals [V.ref a, V.ref b] [Value.ref a, Value.ref b] := .cons rfl (.cons rfl .nil)
  show wpAny (model X.prog X.w) X.A (richCompare .NotEq (.ref a) (.ref b)) (EP X pins σ Q) X.xe s
  refine own_unlike (tb := .ref C) (by have := hr.un; omega) I.kIn J J'.type (by simp [PySem.W.notFirst]) ne ob M (wpAny_mono (callG_at (A := X.A.in1) G hA ⟨hr.in1, rfl⟩ hb I rs h) (fun u s' z => ?_) fun _ _ z => z)
  obtain ⟨v, H', I', rv, t, rfl, q⟩ := z
  cases rv
  rw [Bool.bne_true] at q
  exact ⟨t, rfl, .bl (!t), H', I', rfl, q⟩
end
end VS
set_option maxHeartbeats 2000000
namespace VS
open PySem L2 PySem.Spec PyProof.Rows
/-- what a class of the text says besides -/
structure SpF (K : PySem.W.Frag) (T : Txt) (c : Nat) : Prop where
  ne : PySem.W.findIn K (.ref (T.cl c)) "__ne__" = some (some (.builtin "object.__ne__"))
  nb : PySem.W.findIn K (.ref (T.cl c)) "__bool__" = some none
  ob : PySem.W.mroIn K (T.cl c) (.type "object") = some true
/-- the answer of an own special method, no argument lent -/
def said (G : Fn) (ds : List D) : Option D := match G (ds.map Arg.v) with
  | some (.ok z, []) => some z
  | _ => none
theorem said_eq {G : Fn} {ds : List D} {z : D} (h : said G ds = some z) : G (ds.map Arg.v) = some (.ok z, []) := by
  unfold said at h
  split at h
  · rename_i q; cases h; exact q
  · cases h
def lenI (c : Nat) (G : Fn) (d : D) : Option D := match d with
  | .ins c' xs => if c' = c then (match said G [.ins c' xs] with
    | some (.int n) => if 0 ≤ n ∧ n < 2 ^ 63 then some (.int n) else none
    | _ => none) else none
  | d => lenD d
def boolI (c : Nat) (G : Fn) (d : D) : Option D := match d with
  | .ins c' xs => if c' = c then (match said G [.ins c' xs] with
    | some (.int n) => if 0 ≤ n ∧ n < 2 ^ 63 then some (.bl (n != 0)) else none
    | _ => none) else none
  | _ => none
def textI (old : D → Option D) (c : Nat) (G : Fn) (d : D) : Option D := match d with
  | .ins c' xs => if c' = c then (match said G [.ins c' xs] with
    | some (.str t) => some (.str t)
    | _ => none) else none
  | d => old d
def sameI (old : D → D → Option D) (neg : Bool) (c : Nat) (G : Fn) (x y : D) : Option D := match x, y with
  | .ins c1 xs, .ins c2 ys => if c1 = c ∧ c2 = c then (match said G [.ins c1 xs, .ins c2 ys] with
    | some (.bl t) => some (.bl (t != neg))
    | _ => none) else none
  | x, y => old x y
section
variable {T : Txt} {X : Cx} {W : WX} {K : PySem.W.Frag} {k : Nat} {e a b : Expr} {es : List Expr} {pos p : Pos} {c : Nat} {G : Fn} {ps : List Str}
def CallE (K : PySem.W.Frag) (T : Txt) (r : List V → Hp → VK → Prop) (f : D → Option D) : Prop := ∀ d z, f d = some z → ∀ F H v Q, Ex F H → Rep K T F d v → (∀ u F' H', Grow K T F H F' H' → Rep K T F' z u → Q u H') → r [v] H Q
theorem callE_of {r : List V → Hp → VK → Prop} {f : D → Option D} (h : CallV1 K T r f) : CallE K T r f := fun d z q F H v Q e r k => h d z q F H v Q e (r.b e) k
theorem je_call1E {r : List V → Hp → VK → Prop} {f : D → Option D} {g : Ev D} (rule : ∀ ta, PA X [a] ta → PE X e (tCB r ta)) (hr : CallE X.K T r f) (ha : JE T X W a g) (hs : starEach [a] X.env = (false, eval a X.env) :: starEach [] X.env := by rfl) : JE T X W e (mCall1 f g) := fun ρ => by
  have p1 := ha ρ
  unfold mCall1
  cases q1 : g ρ with
  | stuck => exact pe_no
  | ex c ds ρ1 => rw [q1] at p1; exact pe_weak (rule _ (pa_cons p1 pa_nil hs)) fun σ H Q q => q
  | ok d ρ1 =>
    rw [q1] at p1
    simp only [R.bind_ok]
    cases q2 : f d with
    | none => exact pe_no
    | some z => exact pe_weak (rule _ (pa_cons p1 pa_nil hs)) fun σ H Q ⟨F, Z, L, r, k⟩ => ⟨F, Z, L, r, fun v F1 H1 e1 r1 x1 => hr d z q2 F1 H1 v Q r1.exF x1 fun u F2 H2 g x2 => k u F2 H2 (e1.trans g.1) (g.2 _ _ _ _ r1) x2⟩
/-- from what the method says to what the built-in answers -/
theorem rsp_of {R : V → (V → Prop) → Prop} {F H : Hp} {v : V} {Q : VK} {xs : List D} {z z' : D} (e : Ex F H) (r : Rep K T F (.ins c xs) v) (h : said G [.ins c xs] = some z) (conv : ∀ u F' (q : V → Prop), Rep K T F' z u → (∀ u', Rep K T F' z' u' → q u') → R u q)
    (k : ∀ u F' H', Grow K T F H F' H' → Rep K T F' z' u → Q u H') : rSp (T.cl c) (spG K T G 1) R [v] H Q := by
  obtain ⟨a, dx, vs, rfl, h1, h2, h3⟩ := id r
  exact ⟨a, dx, _, rfl, e _ _ h1, spG_pure (ds := [.ins c xs]) e (Reps.one r) (said_eq h) fun u F' H' g p => conv u F' _ p fun u' p' => k u' F' H' g p'⟩
theorem callE_len : CallE K T (fun xs H Q => rLenA K xs H Q ∨ rSp (T.cl c) (spG K T G 1) RLen xs H Q) (lenI c G) := by
  intro d z h F H v Q e r k
  unfold lenI at h
  split at h
  · split at h
    · rename_i c' xs hc
      subst hc
      split at h
      · rename_i n q
        split at h
        · rename_i hn
          cases h
          refine .inr (rsp_of (z := .int n) (z' := .int n) e r q (fun u F' q1 p hq => ?_) k)
          obtain rfl : u = .int n := p
          exact ⟨n, rfl, hn.1, hn.2, hq _ rfl⟩
        · cases h
      · cases h
    · cases h
  · exact .inl (callE_of callv_len d z h F H v Q e r k)
theorem callE_bool : CallE K T (rSp (T.cl c) (spG K T G 1) RTru) (boolI c G) := by
  intro d z h F H v Q e r k
  unfold boolI at h
  split at h
  · split at h
    · rename_i c' xs hc
      subst hc
      split at h
      · rename_i n q
        split at h
        · rename_i hn
          cases h
          refine rsp_of (z := .int n) (z' := .bl (n != 0)) e r q (fun u F' q1 p hq => ?_) k
          obtain rfl : u = .int n := p
          exact ⟨n, rfl, hn.1, hn.2, hq _ rfl⟩
        · cases h
      · cases h
    · cases h
  · cases h
theorem callE_text {old : D → Option D} {r0 : List V → Hp → VK → Prop} (h0 : CallE K T r0 old) : CallE K T (fun xs H Q => r0 xs H Q ∨ rSp (T.cl c) (spG K T G 1) RStr xs H Q) (textI old c G) := by
  intro d z h F H v Q e r k
  unfold textI at h
  split at h
  · split at h
    · rename_i c' xs hc
      subst hc
      split at h
      · rename_i t q
        cases h
        refine .inr (rsp_of (z := .str t) (z' := .str t) e r q (fun u F' q1 p hq => ?_) k)
        obtain rfl : u = .str t := p
        exact ⟨t, rfl, hq _ rfl⟩
      · cases h
    · cases h
  · exact .inl (h0 d z h F H v Q e r k)
theorem je_lenI {g : Ev D} (M : CalM X.prog X.w X.K X.mg X.base T k c "__len__" G ps) (hA : X.A.guards = some []) (hr : Room (k + 1) X.A) (hm : X.mg "len" = none) (ha : JE T X W a g) (hn : ps.length = 1 := by rfl) (hg : Gl X "len" := by rfl) (hs : starEach [a] X.env = (false, eval a X.env) :: starEach [] X.env := by rfl) :
    JE T X W (.Call (.Name "len" p) [a] [] pos) (mCall1 (lenI c G) g) := by
  obtain ⟨f, fd, hG, hM, hb⟩ := M.ex
  rw [hn] at hG
  exact je_call1E (fun _ h => pe_callB (callr_or call_lenA (call_lenI hM hG hA hr hb)) hg hm (by decide +kernel) h (by decide) (by decide) hs rfl) callE_len ha hs
theorem je_boolI {g : Ev D} (S : SpF X.K T c) (M : CalM X.prog X.w X.K X.mg X.base T k c "__len__" G ps) (hA : X.A.guards = some []) (hr : Room (k + 3) X.A) (hm : X.mg "bool" = none) (ha : JE T X W a g) (hn : ps.length = 1 := by rfl) (hg : Gl X "bool" := by rfl)
    (hs : starEach [a] X.env = (false, eval a X.env) :: starEach [] X.env := by rfl) : JE T X W (.Call (.Name "bool" p) [a] [] pos) (mCall1 (boolI c G) g) := by
  obtain ⟨f, fd, hG, hM, hb⟩ := M.ex
  rw [hn] at hG
  exact je_call1E (fun _ h => pe_callTy (call_boolI S.nb hM hG hA hr hb) hg hm (by decide +kernel) h (by decide) (by decide) hs rfl) callE_bool ha hs
theorem je_strI {g : Ev D} (M : CalM X.prog X.w X.K X.mg X.base T k c "__str__" G ps) (hA : X.A.guards = some []) (hr : Room (k + 2) X.A) (hm : X.mg "str" = none) (ha : JE T X W a g) (hn : ps.length = 1 := by rfl) (hg : Gl X "str" := by rfl) (hs : starEach [a] X.env = (false, eval a X.env) :: starEach [] X.env := by rfl) :
    JE T X W (.Call (.Name "str" p) [a] [] pos) (mCall1 (textI strD c G) g) := by
  obtain ⟨f, fd, hG, hM, hb⟩ := M.ex
  rw [hn] at hG
  exact je_call1E (fun _ h => pe_callTy (callr_or call_strA (call_strI hM hG hA hr hb)) hg hm (by decide +kernel) h (by decide) (by decide) hs rfl) (callE_text (callE_of callv_str)) ha hs
theorem je_reprI {g : Ev D} (M : CalM X.prog X.w X.K X.mg X.base T k c "__repr__" G ps) (hA : X.A.guards = some []) (hr : Room (k + 1) X.A) (hm : X.mg "repr" = none) (ha : JE T X W a g) (hn : ps.length = 1 := by rfl) (hg : Gl X "repr" := by rfl) (hs : starEach [a] X.env = (false, eval a X.env) :: starEach [] X.env := by rfl) :
    JE T X W (.Call (.Name "repr" p) [a] [] pos) (mCall1 (textI reprD c G) g) := by
  obtain ⟨f, fd, hG, hM, hb⟩ := M.ex
  rw [hn] at hG
  exact je_call1E (fun _ h => pe_callB (callr_or (call_reprA hA hr) (call_reprI hM hG hA hr hb)) hg hm (by decide +kernel) h (by decide) (by decide) hs rfl) (callE_text (callE_of callv_repr)) ha hs
/-! ### ==, != -/
theorem opv_same {r0 : R2} {old : D → D → Option D} {neg : Bool} (h0 : OpV K T r0 old) : OpV K T (fun x y H Q => r0 x y H Q ∨ rSp2 (T.cl c) (spG K T G 2) neg x y H Q) (sameI old neg c G) := by
  intro x y z h F H v w Q e rx ry k
  unfold sameI at h
  split at h
  · split at h
    · rename_i c1 xs c2 ys hc
      obtain ⟨rfl, rfl⟩ := hc
      split at h
      · rename_i t q
        cases h
        obtain ⟨a, dx, vs, rfl, h1, h2, h3⟩ := id rx
        obtain ⟨b, dy, ws, rfl, g1, g2, g3⟩ := id ry
        refine .inr ⟨a, b, dx, dy, _, _, rfl, rfl, e _ _ h1, e _ _ g1, spG_pure (ds := [.ins c2 xs, .ins c2 ys]) e (.cons rx (.one ry)) (said_eq q) fun u F' H' g p => ?_⟩
        obtain rfl : u = .bl t := p
        exact ⟨t, rfl, k _ F' H' g rfl⟩
      · cases h
    · cases h
  · exact .inl (h0 x y z h F H v w Q e rx ry k)
theorem cmp_eqI (M : CalM X.prog X.w X.K X.mg X.base T k c "__eq__" G ps) (hA : X.A.guards = some []) (hr : Room k X.A) (hn : ps.length = 2 := by rfl) : Cmp X T .Eq (sameI eqD false c G) := by
  obtain ⟨f, fd, hG, hM, hb⟩ := M.ex
  rw [hn] at hG
  obtain ⟨r, h1, h2⟩ := (cmp_eq (T := T) hr).ex
  exact ⟨_, opr_or h1 (op_eqI hM hG hA hr hb), opv_same h2⟩
theorem cmp_neI (S : SpF X.K T c) (M : CalM X.prog X.w X.K X.mg X.base T k c "__eq__" G ps) (hA : X.A.guards = some []) (hr : Room (k + 1) X.A) (hn : ps.length = 2 := by rfl) : Cmp X T .NotEq (sameI neD true c G) := by
  obtain ⟨f, fd, hG, hM, hb⟩ := M.ex
  rw [hn] at hG
  obtain ⟨r, h1, h2⟩ := (cmp_ne (T := T) hr).ex
  exact ⟨_, opr_or h1 (op_neI S.ne S.ob hM hG hA hr hb), opv_same h2⟩
end
end VS
set_option maxHeartbeats 2000000
/-! x += e of an owned list; split; texts with fields; sep.join of an owned list; int(text). -/
namespace VS
open PySem L2 PySem.Spec PyProof.Rows
section
variable {T : Txt} {X : Cx} {W : WX} {K : PySem.W.Frag} {st : Stmt} {e a b : Expr} {es : List Expr} {pos p apos : Pos}
/-! ### x += e -/
def mAugL (i : Nat) (g : Ev D) : VEnv → RS := fun ρ => match ρ[i]? with
  | some (some (Sl.own _ (.lst _))) => (g ρ).thenS fun d ρ' => match ρ'[i]? with
    | some (some (Sl.own l (.lst xs))) => (match d with
      | .lst ys => if xs.length + ys.length ≤ lim then .nx (ρ'.set i (some (Sl.own l (.lst (xs ++ ys))))) else .stuck
      | _ => .stuck)
    | _ => .stuck
  | _ => .stuck
theorem js_augL {i : Nat} {x : Str} {g : Ev D} {pos' : Pos} (hN : X.N.Nodup) (hi : X.N[i]? = some x) (hx : Loc X.env.scope x) (he : JE T X W e g) (hf : X.fn x = true ∨ X.env.scope.names.lookup x = some .local := by first | exact .inl rfl | exact .inr rfl | assumption) :
    JS T X W (.AugAssign (.Name x pos') .Add e pos) (mAugL i g) := fun ρ => by
  have rule := ps_aug (pos := pos) (pos' := pos') hN hi hx (he ρ) (show PIp X .Add rExt2 from iop_ext) hf
  refine ps_weak rule fun N σ H q => ?_
  obtain ⟨F, Z, L, r, k⟩ := q
  unfold mAugL at k
  split at k
  · rename_i l0 xs0 q0
    obtain ⟨a0, o0, g1, g2, g3, g4, _⟩ := r.own i l0 _ q0
    refine ⟨_, g1, thenS_rd ⟨F, Z, L, r, k⟩ fun d ρ1 v F1 Z1 L1 H1 r1 pv k1 => ?_⟩
    split at k1
    · rename_i l xs q1
      obtain ⟨a1, o1, f1, f2, f3, f4, vs1, f5, f6⟩ := r1.own i l _ q1
      have ea : a1 = a0 := by rw [g1] at f1; cases f1; rfl
      subst ea
      split at k1
      · rename_i ys
        split at k1
        · rename_i hz
          obtain ⟨b, ws, rfl, h1, h2⟩ := pv
          refine ⟨a1, b, vs1, ws, rfl, rfl, by rw [f4, f5], r1.exF _ _ h1, by rw [f6.length, h2.length]; exact le_line hz, ?_⟩
          have eσ : σ.set i (some (V.ref a1)) = σ := List.ext_getElem? fun j => by
            rw [List.getElem?_set]
            split
            · rename_i z; subst z
              have hl : i < σ.length := (List.getElem?_eq_some_iff.mp g1).1
              rw [if_pos hl, g1]
            · rfl
          show N.nx (σ.set i (some (V.ref a1))) _
          rw [eσ]
          exact k1 σ F1 _ (Ex.refl F1) (r1.ownSet q1 f1 ⟨_, rfl, f6.append h2⟩)
        · exact k1.elim
      · exact k1.elim
    · exact k1.elim
  · exact k.elim
/-! ### x.split(y) -/
def splitD (x y : D) : Option D := match x, y with
  | .str u, .str v => if (v.length == 0) = false ∧ u.length + 2 ≤ lim then some (.lst ((PySem.Txt.split u v).map D.str)) else none
  | _, _ => none
def isStrR (g : Ev D) : Ev D := fun ρ => (g ρ).bind fun d ρ1 => match d with
  | .str u => .ok (.str u) ρ1
  | _ => .stuck
theorem je_split {ga gb : Ev D} (ha : JE T X W a ga) (hb : JE T X W b gb) (hs : starEach [b] X.env = [(false, eval b X.env)] := by rfl) (hbase : attributeBase a "split" X.env (eval a X.env) = eval a X.env := by rfl) (hline : (apos.endLine == pos.line) = true := by rfl) :
    JE T X W (.Call (.Attribute a "split" apos) [b] [] pos) (mOp splitD (isStrR ga) gb) := fun ρ => by
  have p1 := ha ρ
  unfold mOp isStrR
  cases q1 : ga ρ with
  | stuck => exact pe_no
  | ex c ds ρ1 => rw [q1] at p1; exact pe_weak (pe_split p1 (te := fun _ _ _ => False) pe_no hs hbase hline) fun σ H Q q => q
  | ok x ρ1 =>
    rw [q1] at p1
    simp only [R.bind_ok]
    cases x with
    | str u =>
      simp only [R.bind_ok]
      have p2 := hb ρ1
      cases q2 : gb ρ1 with
      | stuck => exact pe_no
      | ex c ds ρ2 =>
        rw [q2] at p2
        refine pe_weak (pe_split p1 p2 hs hbase hline) fun σ H Q ⟨F, Z, L, r, k⟩ => ⟨F, Z, L, r, fun v F1 H1 e1 r1 x1 => ⟨⟨u, x1⟩, F1, Z, L, r1, fun cls dd F2 H2 e2 r2 x2 => k cls dd F2 H2 (e1.trans e2) r2 x2⟩⟩
      | ok y ρ2 =>
        rw [q2] at p2
        simp only [R.bind_ok]
        cases q3 : splitD (.str u) y with
        | none => exact pe_no
        | some z =>
          refine pe_weak (pe_split p1 p2 hs hbase hline) fun σ H Q ⟨F, Z, L, r, k⟩ => ⟨F, Z, L, r, fun v F1 H1 e1 r1 x1 => ⟨⟨u, x1⟩, F1, Z, L, r1, fun w F2 H2 e2 r2 x2 => ?_⟩⟩
          cases y with
          | str s =>
            simp only [splitD] at q3
            split at q3
            · rename_i hz
              cases q3
              refine ⟨u, s, x1, by rw [show w = _ from x2], hz.1, le_line hz.2, fun p hp => ?_⟩
              exact k (.ref p) _ _ ((e1.trans e2).trans (Ex.new (r2.exF.none hp))) (r2.new hp) ⟨p, _, rfl, upd_same, reps_strs _⟩
            · cases q3
          | _ => simp [splitD] at q3
    | _ => exact pe_no
/-! ### texts with fields -/
def fmtD (d : D) : Option D := match d with
  | .str y => if y.length ≤ lim then some (.str y) else none
  | .int i => if i.natAbs.log2 < 1920 then some (.str (toString i)) else none
  | _ => none
theorem je_fmt {g : Ev D} (h : JE T X W e g) : JE T X W (.FormattedValue e (-1) none pos) (mCall1 fmtD g) := fun ρ => by
  have p1 := h ρ
  unfold mCall1
  cases q1 : g ρ with
  | stuck => exact pe_no
  | ex c ds ρ1 => rw [q1] at p1; exact pe_weak (pe_fmt p1) fun σ H Q q => q
  | ok d ρ1 =>
    rw [q1] at p1
    simp only [R.bind_ok]
    cases q2 : fmtD d with
    | none => exact pe_no
    | some z =>
      refine pe_weak (pe_fmt p1) fun σ H Q ⟨F, Z, L, r, k⟩ => ⟨F, Z, L, r, fun v F1 H1 e1 r1 x1 => ?_⟩
      cases d with
      | str y =>
        simp only [fmtD] at q2
        split at q2
        · rename_i hz; cases q2; exact .inl ⟨y, x1, le_line hz, k _ F1 H1 e1 r1 rfl⟩
        · cases q2
      | int i =>
        simp only [fmtD] at q2
        split at q2
        · rename_i hz; cases q2; exact .inr ⟨i, x1, hz, k _ F1 H1 e1 r1 rfl⟩
        · cases q2
      | _ => simp [fmtD] at q2
def mFmt : List (Ev D) → Str → Ev D
  | [], acc => fun ρ => .ok (.str acc) ρ
  | g :: gs, acc => fun ρ => (g ρ).bind fun d ρ1 => match d with
    | .str y => if (acc ++ y).length ≤ lim then mFmt gs (acc ++ y) ρ1 else .stuck
    | _ => .stuck
inductive JJ (T : Txt) (X : Cx) (W : WX) : List Expr → List (Ev D) → Prop where
  | nil : JJ T X W [] []
  | cons {e : Expr} {g : Ev D} {es : List Expr} {gs : List (Ev D)} (h : JE T X W e g) (r : JJ T X W es gs) : JJ T X W (e :: es) (g :: gs)
theorem pj_no {es : List Expr} : ∃ ts, PJ X es ts := by
  induction es with
  | nil => exact ⟨_, .nil⟩
  | cons e es ih => obtain ⟨ts, h⟩ := ih; exact ⟨_, .cons pe_no h⟩
theorem jj_run {es : List Expr} {gs : List (Ev D)} (h : JJ T X W es gs) : ∀ (acc : Str) (ρ : VEnv), ∃ ts, PJ X es ts ∧ ∀ σ H Q, rdE X.K T W ρ (mFmt gs acc ρ) σ H Q → tJs ts acc σ H fun out H1 => Q (.str out) H1 := by
  induction h with
  | nil => exact fun acc ρ => ⟨[], .nil, fun σ H Q ⟨F, Z, L, r, k⟩ => k _ F H (Ex.refl F) r rfl⟩
  | @cons e g es gs he r ih =>
    intro acc ρ
    have p1 := he ρ
    cases q1 : g ρ with
    | stuck =>
      obtain ⟨ts, h⟩ := pj_no (X := X) (es := es)
      exact ⟨_, .cons pe_no h, fun σ H Q q => by simp only [mFmt, q1] at q; exact q.elim⟩
    | ex c ds ρ1 =>
      rw [q1] at p1
      obtain ⟨ts, h⟩ := pj_no (X := X) (es := es)
      exact ⟨_, .cons p1 h, fun σ H Q q => by simp only [mFmt, q1] at q; exact q⟩
    | ok d ρ1 =>
      rw [q1] at p1
      by_cases hd : ∃ y, d = .str y ∧ (acc ++ y).length ≤ lim
      · obtain ⟨y, rfl, hz⟩ := hd
        obtain ⟨ts, h, run⟩ := ih (acc ++ y) ρ1
        refine ⟨_, .cons p1 h, fun σ H Q q => ?_⟩
        simp only [mFmt, q1, R.bind_ok, if_pos hz] at q
        have key : ∃ F Z L, Rel X.K T F Z L σ ρ H ∧ ∀ F1 H1, Ex F F1 → Rel X.K T F1 Z L σ ρ1 H1 → rdE X.K T W ρ1 (mFmt gs (acc ++ y) ρ1) σ H1 Q := by
          cases q3 : mFmt gs (acc ++ y) ρ1 with
          | stuck => rw [q3] at q; exact q.elim
          | ok d2 ρ2 =>
            rw [q3] at q
            obtain ⟨F, Z, L, r, k⟩ := q
            exact ⟨F, Z, L, r, fun F1 H1 e1 r1 => ⟨F1, Z, L, r1, fun v F2 H2 e2 r2 x2 => k v F2 H2 (e1.trans e2) r2 x2⟩⟩
          | ex c ds ρ2 =>
            rw [q3] at q
            obtain ⟨F, Z, L, r, k⟩ := q
            exact ⟨F, Z, L, r, fun F1 H1 e1 r1 => ⟨F1, Z, L, r1, fun cls dd F2 H2 e2 r2 x2 => k cls dd F2 H2 (e1.trans e2) r2 x2⟩⟩
        obtain ⟨F, Z, L, r, q⟩ := key
        exact ⟨F, Z, L, r, fun v F1 H1 e1 r1 x1 => ⟨y, x1, le_line hz, run σ H1 Q (q F1 H1 e1 r1)⟩⟩
      · obtain ⟨ts, h⟩ := pj_no (X := X) (es := es)
        refine ⟨_, .cons pe_no h, fun σ H Q q => ?_⟩
        simp only [mFmt, q1, R.bind_ok] at q
        cases d with
        | str y => simp only at q; rw [if_neg fun z => hd ⟨y, rfl, z⟩] at q; exact q.elim
        | _ => exact q.elim
theorem je_joined {v1 v2 : Expr} {rest : List Expr} {gs : List (Ev D)} (h : JJ T X W (v1 :: v2 :: rest) gs) : JE T X W (.JoinedStr (v1 :: v2 :: rest) pos) (mFmt gs Str.empty) := fun ρ => by
  obtain ⟨ts, h1, h2⟩ := jj_run h Str.empty ρ
  exact pe_weak (pe_joined h1) fun σ H Q q => h2 σ H Q q
/-! ### sep.join of what stands in a slot -/
theorem je_joinB {z : Str} {j : Nat} {p1 : Pos} {g : Ev D} (ha : JB T X W a g)
    (h1 : attributeBase (.Constant (.str z) j p1) "join" X.env (eval (.Constant (.str z) j p1) X.env) = eval (.Constant (.str z) j p1) X.env := by rfl) (h3 : (apos.endLine == pos.line) = true := by rfl)
    (h4 : starEach [a] X.env = [(false, eval a X.env)] := by rfl) : JE T X W (.Call (.Attribute (.Constant (.str z) j p1) "join" apos) [a] [] pos) (mCall1 (joinD z) g) := fun ρ => by
  have p1 := ha ρ
  unfold mCall1
  cases q1 : g ρ with
  | stuck => exact pe_no
  | ex c ds ρ1 => rw [q1] at p1; exact pe_weak (pe_join pe_str p1 h4 h1 h3) fun σ H Q q => ⟨⟨_, rfl⟩, q⟩
  | ok d ρ1 =>
    rw [q1] at p1
    simp only [R.bind_ok]
    cases q2 : joinD z d with
    | none => exact pe_no
    | some u =>
      refine pe_weak (pe_join pe_str p1 h4 h1 h3) fun σ H Q ⟨F, Z, L, r, k⟩ => ⟨⟨_, rfl⟩, F, Z, L, r, fun v F1 H1 e1 r1 x1 => ?_⟩
      have seq : ∃ ds, seqOf d = some ds ∧ (∃ ys, strsOf ds = some ys ∧ (ys.map (·.length)).sum + ys.length * z.length ≤ 16777216 ∧ u = .str (PySem.Txt.join z ys)) ∧ ∃ p vs, v = .ref p ∧ (SqL X.K H1 p vs ∨ SqT X.K H1 p vs) ∧ Reps X.K T F1 ds vs := by
        have go : ∀ ds, ((strsOf ds).bind fun ys => if (ys.map (·.length)).sum + ys.length * z.length ≤ 16777216 then some (D.str (PySem.Txt.join z ys)) else none) = some u → ∃ ys, strsOf ds = some ys ∧ (ys.map (·.length)).sum + ys.length * z.length ≤ 16777216 ∧ u = .str (PySem.Txt.join z ys) := by
          intro ds h
          cases q3 : strsOf ds with
          | none => rw [q3] at h; cases h
          | some ys =>
            rw [q3] at h
            simp only [Option.bind_some] at h
            split at h
            · rename_i hz; cases h; exact ⟨ys, rfl, hz, rfl⟩
            · cases h
        cases d with
        | tup xs => obtain ⟨b, vs, rfl, h5, rr⟩ := x1; exact ⟨xs, rfl, go xs q2, b, vs, rfl, .inr (r1.exF.sqT h5), rr⟩
        | lst xs => obtain ⟨b, vs, rfl, h5, rr⟩ := x1; exact ⟨xs, rfl, go xs q2, b, vs, rfl, .inl (SqL.of h5), rr⟩
        | frl xs => obtain ⟨b, vs, rfl, h5, rr⟩ := x1; exact ⟨xs, rfl, go xs q2, b, vs, rfl, .inl (r1.exF.sqL h5), rr⟩
        | str x => simp [joinD, seqOf] at q2
        | _ => simp [joinD, seqOf] at q2
      obtain ⟨ds, _, ⟨ys, h5, h6, rfl⟩, p, vs, rfl, h7, h8⟩ := seq
      rw [strsOf_reps h5 h8] at h7
      exact ⟨z, p, ys, rfl, rfl, h7, h6, k _ F1 H1 e1 r1 rfl⟩
/-! ### int(text) -/
def intSD (d : D) : Option D := match d with
  | .str u => if u.length ≤ 640 then (PySem.intText? u).map D.int else none
  | d => int1D d
theorem je_intS {g : Ev D} (hm : X.mg "int" = none) (ha : JB T X W a g) (hg : Gl X "int" := by rfl) (hs : starEach [a] X.env = (false, eval a X.env) :: starEach [] X.env := by rfl) : JE T X W (.Call (.Name "int" p) [a] [] pos) (mCall1 intSD g) := by
  refine je_call1 (fun _ h => pe_callTy (callr_or call_int_str call_int1) hg hm (by decide +kernel) h (by decide) (by decide) hs rfl) ?_ ha hs
  intro d z h F H v Q e r k
  by_cases hs : ∃ u, d = .str u
  · obtain ⟨u, rfl⟩ := hs
    simp only [intSD] at h
    split at h
    · rename_i hz
      cases q : PySem.intText? u with
      | none => rw [q] at h; cases h
      | some n =>
        rw [q] at h
        cases h
        obtain rfl : v = .str u := r
        exact .inl ⟨u, n, rfl, q, hz, k _ F H Grow.refl rfl⟩
    · cases h
  · have he : intSD d = int1D d := by
      cases d <;> first | rfl | exact absurd ⟨_, rfl⟩ hs
    rw [he] at h
    exact .inr (callv_int d z h F H v Q e r k)
end
end VS
set_option maxHeartbeats 2000000
/-! A try that nothing leaves; enumerate(list, start=k). -/
namespace VS
open PySem L2 PySem.Spec PyProof.Rows
/-! ### try: .. except ..: the body raises nothing -/
def mTry0 (h : VEnv → RS) : VEnv → RS := fun ρ => match h ρ with
  | .ex _ _ _ => .stuck
  | r => r
section
variable {T : Txt} {X : Cx} {W : WX} {body : List Stmt} {h0 : ExceptHandler} {hs : List ExceptHandler} {pos : Pos}
theorem js_try0 {h : VEnv → RS} (hb : JSs T X.nox W0 body h) : JS T X W (.Try body (h0 :: hs) [] [] pos) (mTry0 h) := fun ρ => by
  refine ps_weak (ps_try_thru0 (hb ρ)) fun N σ H q => ?_
  unfold mTry0 at q
  cases g : h ρ with
  | ex c ds ρ1 => rw [g] at q; obtain ⟨_, _, _, _, z⟩ := q; exact z.elim
  | _ => rw [g] at q; exact q
end
/-! ### enumerate(xs, start=k), xs a list -/
def IteS (K : PySem.W.Frag) (a : Addr) (k : Nat) : It :=
  ⟨fun i H => ∃ (xs : List V) (x : V), SqL K H a xs ∧ xs[i]? = some x, fun i H v H' => ∃ t x, v = .ref t ∧ H t = none ∧ H' = upd H t (.tup [.int ((k + i : Nat) : Int), x]) ∧ ∀ xs, SqL K H a xs → xs[i]? = some x, fun i H => ∃ xs : List V, SqL K H a xs ∧ xs.length = i⟩
/-- e enumerates by it over the list at a, i of which are gone; the count began at k -/
structure EnLs (a e it : Addr) (k i : Nat) (h : Heap) : Prop where
  en : ∃ last, IsEnum h e it ((k + i : Nat) : Int) last
  it : h.IsListIter it a i
section
variable {P : Program} {w : World} {K : PySem.W.Frag} {elts : List Expr} {kk : Nat} {tpos : Pos} {a e it : Addr} {X : Cx} {i k : Nat} {pins : List (Addr × Obj)} {s : Shared} {σ : L2.St} {H : Hp} {E : Value → Shared → Prop}
theorem es_turn (d1 : e ≠ it) (d2 : e ≠ a) (d3 : a ≠ it) (calm : X.calm = true) (I : Inv X pins σ H s) (fp : ∀ b ∈ [e, it], FpOk X pins H b) (st : EnLs a e it k i s.heap) (go : (IteS X.K a k).go i H) :
    wpAny (model X.prog X.w) X.A (pyNext (.ref e)) (fun r s1 => ∃ u, r = some u ∧ wpAny (model X.prog X.w) X.A (letOwnedTupleGo (.Tuple elts kk tpos) (.ref e) u)
      (fun _ s2 => ∃ x H', Inv X pins σ H' s2 ∧ RelV x u ∧ (IteS X.K a k).yld i H x H' ∧ EnLs a e it k (i + 1) s2.heap ∧ ∀ b ∈ [e, it], H' b = none) E s1) E s := by
  obtain ⟨⟨last, is_e⟩, is_it⟩ := st
  obtain ⟨xs, x, sq, at_x⟩ := go
  obtain ⟨its, vals, ls, _⟩ := I.list sq
  obtain ⟨u, at_u, rel⟩ := vals.get at_x
  have le : e < s.heap.objs.size := Heap.lt_size is_e
  have li : it < s.heap.objs.size := let ⟨_, q, _⟩ := is_it; Heap.lt_size q
  have D := Draws.list (prog := X.prog) (w := X.w) (A := X.A.in1) (by simpa using I.ok.hd calm) it a d3 its.toArray
  have more : i < its.toArray.size := by simpa using (List.getElem?_eq_some_iff.mp at_u).1
  refine wpAny_pyNext_enum_itemC D is_e ⟨is_it, ls.isList⟩ more d1 (by simp [d1, d2]) fun y h1 tk at_y out st1 new_ _ keep => ?_
  obtain rfl : y = u := Option.some.inj (Eq.trans (by simpa using at_y.symm) at_u)
  refine ⟨_, rfl, wpAny_letOwnedTupleGo_enum (s := { s with heap := h1, toks := tk + 1 }) out fun h2 is_e2 but => ?_⟩
  have pair : h2.get? s.heap.objs.size = some { cls := .type "tuple", data := .seq #[.int ((k + i : Nat) : Int) tk, y] } := (but.2 _ (Nat.ne_of_gt le)).trans new_
  have I2 : Inv X pins σ (upd H s.heap.objs.size (.tup [.int ((k + i : Nat) : Int), x])) { s with heap := h2, toks := tk + 1 } := by
    refine I.turnedNew (ch := [e, it]) (fun b ob out_ q => ?_) fp (Nat.le_refl _) ⟨by show 2 ≤ sizeLine; decide, [.int ((k + i : Nat) : Int) tk, y], .cons ⟨_, rfl⟩ (.cons rel .nil), ⟨_, pair, rfl, _, rfl⟩⟩
    simp only [List.mem_cons, List.not_mem_nil, or_false, not_or] at out_
    exact (but.2 b out_.1).trans (keep b ob out_.1 out_.2 q)
  refine ⟨.ref s.heap.objs.size, _, I2, rfl, ⟨_, x, rfl, I.hok.fresh (Nat.le_refl _), rfl, fun ys sq2 => by rw [I.list_inj sq2 sq]; exact at_x⟩, ⟨⟨y, ?_⟩, st1.1.at fun ob q => (but.2 it (Ne.symm d1)).trans q⟩, fun b hb => ?_⟩
  · rw [show ((k + (i + 1) : Nat) : Int) = ((k + i : Nat) : Int) + 1 by omega]
    exact is_e2
  · have lb : b < s.heap.objs.size := by
      simp only [List.mem_cons, List.not_mem_nil, or_false] at hb
      rcases hb with z | z <;> rw [z] <;> assumption
    rw [upd_ne (Nat.ne_of_lt lb)]
    exact (fp b hb).1
theorem es_end (d3 : a ≠ it) (calm : X.calm = true) (I : Inv X pins σ H s) (fp : ∀ b ∈ [e, it], FpOk X pins H b) (st : EnLs a e it k i s.heap) (stop : (IteS X.K a k).stop i H) :
    wpAny (model X.prog X.w) X.A (pyNext (.ref e)) (fun r s1 => r = none ∧ Inv X pins σ H s1) E s := by
  obtain ⟨⟨last, is_e⟩, is_it⟩ := st
  obtain ⟨xs, sq, rfl⟩ := stop
  obtain ⟨its, vals, ls, _⟩ := I.list sq
  obtain ⟨p0, p1, _, p3, p4, p5⟩ := fp it (by simp)
  have D := Draws.list (prog := X.prog) (w := X.w) (A := X.A.in1) (by simpa using I.ok.hd calm) it a d3 its.toArray
  refine wpAny_pyNext_enum_endD D is_e ⟨?_, ls.isList⟩ fun h1 but => ⟨rfl, I.turned (t' := s.toks) (fun b ob out_ q => but b ob out_ q) p0 p1 p3 p4 p5⟩
  rw [List.size_toArray, ← vals.length]
  exact is_it
theorem es_turns (d1 : e ≠ it) (d2 : e ≠ a) (d3 : a ≠ it) : Turn P w K (.Tuple elts kk tpos) (IteS K a k) [e, it] e (EnLs a e it k) where
  mem := List.mem_cons_self
  obj := fun i h st b hb => by
    simp only [List.mem_cons, List.not_mem_nil, or_false] at hb
    obtain ⟨⟨last, is_e⟩, o, at_it, _, dat⟩ := st
    rcases hb with rfl | rfl
    · exact ⟨_, is_e, nofun⟩
    · exact ⟨o, at_it, fun u z => by rw [dat] at z; exact nomatch z⟩
  keep := fun i h h' ⟨⟨last, is_e⟩, is_it⟩ same => ⟨⟨last, same e List.mem_cons_self _ is_e⟩, is_it.at fun ob q => same it (by simp) ob q⟩
  item := by rintro X rfl rfl rfl calm i pins s σ H E I fp st go; exact es_turn d1 d2 d3 calm I fp st go
  done := by rintro X rfl rfl rfl calm i pins s σ H E I fp st stop; exact es_end d3 calm I fp st stop
  self := fun A i s Q E ⟨⟨_, is_e⟩, _⟩ q => wpAny_pyIter_enum is_e q
/-- T(e, .., k = ..), T a built-in type -/
theorem type_by_names {M : Model} {A : Around} {env : Env} {pos : Pos} {T : String} {x : Expr} {rest : List Expr} {kws : List Keyword} {Q : Value → Shared → Prop}
    (h : wpAny M A (spliced (backTo pos (starEach (x :: rest) env))) (fun vs s1 => wpAny M A (evalAll ((backToKw pos (keywordEach kws env)).map (·.2)))
      (fun kvs s2 => wpAny M A (call (.type T) vs (((backToKw pos (keywordEach kws env)).filterMap (·.1)).zip kvs)) Q E s2) E s1) E s)
    (he : backTo pos (starEach (x :: rest) env) = (false, eval x env) :: backTo pos (starEach rest env)) (hplain : (backTo pos (starEach (x :: rest) env)).any (·.1) = false)
    (hall : (backToKw pos (keywordEach kws env)).all (·.1.isSome) = true) (hkw : (backToKw pos (keywordEach kws env)).any (·.1.isNone) = false) :
    wpAny M A (callWith pos (.type T) [] (backTo pos (starEach (x :: rest) env)) (backToKw pos (keywordEach kws env))) Q E s := by
  have args : wpAny M A (evalArgs (.type T) true (backTo pos (starEach (x :: rest) env)) (backToKw pos (keywordEach kws env))) (fun r s1 => wpAny M A (call (.type T) ([] ++ r.pos) r.kw) Q E s1) E s := by
    rw [he] at h ⊢
    exact PyProof.Rows.evalArgs_kwB hall h
  unfold callWith
  apply wpAny_bind
  apply wpAny_holding
  refine wpAny_mono args ?_ fun _ _ z => z
  intro r s1 q
  apply wpAny_bind
  apply wpAny_standAt
  simp only [hplain, hkw, Bool.or_false]
  apply wpAny_bind
  apply wpAny_pure
  apply wpAny_bind
  refine wpAny_mono q ?_ fun _ _ z => z
  intro v s2 q2
  apply wpAny_bind
  apply wpAny_holding
  exact wpAny_point (wpAny_pure q2)
end
section
variable {T : Txt} {X : Cx} {W : WX} {e a b : Expr} {pos p kpos kp : Pos} {K : PySem.W.Frag} {k j : Nat}
def iEnumS (K : PySem.W.Frag) (k : Nat) (ta : TA) : TI := fun σ H R => ta σ H fun vs H1 => ∃ a xs, vs = [.ref a] ∧ SqL K H1 a xs ∧ R (IteS K a k) H1
theorem pi_enumS {ta : TA} {tpos : Pos} {elts : List Expr} {kk : Nat} (hk : k < 2 ^ 63) (hg : Gl X "enumerate") (hm : X.mg "enumerate" = none) (ha : PA X [e] ta) (hs : starEach [e] X.env = [(false, eval e X.env)] := by rfl) :
    PI X (.Tuple elts kk tpos) (.Call (.Name "enumerate" p) [e] [⟨some "start", .Constant (.int k) j kp, kpos⟩] pos) (iEnumS X.K k ta) := by
  refine ⟨fun pins s σ H R I h => wpAny_Call_Name_kw (ld_blt I hg hm boot_enumerate ?_)⟩
  refine type_by_names (thn (ha.run pos pins s σ H _ I h) ?_) (by rw [hs]; rfl) (by rw [hs]; rfl) rfl rfl
  rintro us s1 ⟨_, H1, J1, rel, t, xs, rfl, sq1, then_⟩
  obtain ⟨_, rfl⟩ : ∃ u : Unit, us = [.ref t] := by
    cases rel with
    | cons r rr => cases rr; cases r; exact ⟨(), rfl⟩
  refine thn ((pk_cons (pe_int (i := (k : Int))) pk_nil).run pos pins s1 σ H1 (fun ws H2 => ws = [.int k] ∧ H2 = H1) J1 ⟨rfl, rfl⟩) ?_
  rintro ks s2 ⟨ws, H2, J, rk, rfl, rfl⟩
  obtain ⟨tk, rfl⟩ : ∃ tk, ks = [.int k tk] := by
    cases rk with
    | cons r rr => cases rr; obtain ⟨tk, rfl⟩ := r; exact ⟨tk, rfl⟩
  obtain ⟨its, vals, ls, _⟩ := J.list sq1
  have lt : t < s2.heap.objs.size := let ⟨_, q, _⟩ := ls.isList; Heap.lt_size q
  refine enum_begins_start (begins_list t its.toArray) ls.isList (by omega) (by exact_mod_cast hk) fun h1 is_e at_it _ keep => wpAny_pyIter_enum is_e ?_
  refine ⟨_, [s2.heap.objs.size + 1, s2.heap.objs.size], EnLs t (s2.heap.objs.size + 1) s2.heap.objs.size k, IteS X.K t k, H2, rfl, J.kept (t' := s2.toks) keep, es_turns (Nat.succ_ne_self _) (Nat.ne_of_gt (Nat.lt_succ_of_lt lt)) (Nat.ne_of_lt lt), ⟨⟨_, is_e⟩, ⟨_, at_it, rfl, rfl⟩⟩, fun b hb => ?_, then_⟩
  have ge : s2.heap.objs.size ≤ b := by
    simp only [List.mem_cons, List.not_mem_nil, or_false] at hb
    rcases hb with z | z <;> rw [z]
    · exact Nat.le_succ _
    · exact Nat.le_refl _
  exact J.fpOk ge (J.hok.fresh ge)
theorem itd_enumS {F : Hp} {a : Addr} {vs : List V} {ds : List D} (hs : SqL K F a vs) (r : Reps K T F ds vs) : ItD K T F (IteS K a k) (enumFrom k ds) where
  go := fun i H e hi => by
    rw [enumFrom_length] at hi
    have : i < vs.length := by rw [r.length]; exact hi
    exact ⟨vs, vs[i], e.sqL hs, by simp [this]⟩
  stop := fun H e => ⟨vs, e.sqL hs, by rw [r.length, enumFrom_length]⟩
  yld := fun i d G H x H' e1 e2 hd y => by
    obtain ⟨t, x', rfl, hn, rfl, q⟩ := y
    rw [enumFrom_get] at hd
    cases q1 : ds[i]? with
    | none => rw [q1] at hd; cases hd
    | some d0 =>
      rw [q1] at hd
      cases hd
      obtain ⟨v, h1, h2⟩ := r.get q1
      have hx := q vs ((e1.trans e2).sqL hs)
      rw [h1] at hx
      obtain rfl : v = x' := Option.some.inj hx
      have g := Grow.new (K := K) (T := T) (o := HO.tup [.int ((k + i : Nat) : Int), v]) e2 hn
      exact ⟨_, g, ⟨t, _, rfl, SqT.of upd_same, _, _, rfl, rfl, _, _, rfl, (h2.mono e1).mono g.1, rfl⟩⟩
def mEnumS (k : Nat) (g : Ev D) : Ev (List D) := fun ρ => (g ρ).bind fun d ρ' => match d with
  | .lst xs => .ok (enumFrom k xs) ρ'
  | _ => .stuck
theorem ji_enumS {g : Ev D} {elts : List Expr} {kk : Nat} {tpos : Pos} (hk : k < 2 ^ 63) (hg : Gl X "enumerate") (hm : X.mg "enumerate" = none) (h : JE T X W a g) (hs : starEach [a] X.env = [(false, eval a X.env)] := by rfl) (hs1 : starEach [a] X.env = (false, eval a X.env) :: starEach [] X.env := by rfl) :
    JI T X W (.Tuple elts kk tpos) (.Call (.Name "enumerate" p) [a] [⟨some "start", .Constant (.int k) j kp, kpos⟩] pos) (mEnumS k g) := fun ρ => by
  have p1 := h ρ
  unfold mEnumS
  cases q1 : g ρ with
  | stuck => exact pi_no
  | ex c ds ρ1 => rw [q1] at p1; exact pi_weak (pi_enumS hk hg hm (pa_cons p1 pa_nil hs1) hs) fun σ H Q q => q
  | ok d ρ1 =>
    rw [q1] at p1
    simp only [R.bind_ok]
    cases d with
    | lst xs =>
      refine pi_weak (pi_enumS hk hg hm (pa_cons p1 pa_nil hs1) hs) fun σ H Q ⟨F, Z, L, r, kq⟩ => ⟨F, Z, L, r, fun v F' H' e r' x => ?_⟩
      obtain ⟨a, vs, rfl, h1, rr⟩ := x
      exact ⟨a, vs, rfl, SqL.of (r'.exF _ _ h1), kq _ F' H' e r' (itd_enumS (SqL.of h1) rr)⟩
    | _ => exact pi_no
end
end VS
set_option maxHeartbeats 2000000
/-! A class made with defaults left out. -/
namespace VS
open PySem L2 PySem.Spec PyProof.Rows
/-- an own class that can be made, its last arguments left out: they are then the data dd -/
structure CalCD (P : Program) (w : World) (K : PySem.W.Frag) (mg : Str → Option Value) (base : Heap) (T : Txt) (k : Nat) (x : Str) (c : Nat) (G : Fn) (ps : List Str) (dd : List D) : Prop where
  ex : ∃ f fd ds dvs, FnG P w K mg base k f fd ps (spG K T G ps.length) ∧ mg x = some (.ref (T.cl c)) ∧ Mk K (T.cl c) f ∧ Binds K fd ps ds ∧ Vals dvs ds ∧ ∀ F, Reps K T F dd dvs
/-- the empty tuple stands at a from the beginning -/
def noneAt (K : PySem.W.Frag) (a : Addr) : Bool := match K.lookup a with
  | some o => (match o.cls, o.data with
    | .type n, .seq its _ => n == "tuple" && its.isEmpty
    | _, _ => false)
  | none => false
theorem noneAt_ok {K : PySem.W.Frag} {T : Txt} {a : Addr} (h : noneAt K a = true) (F : Hp) : Rep K T F (.tup []) (.ref a) := by
  unfold noneAt at h
  split at h
  · rename_i o ho
    split at h
    · rename_i n its m hc hd
      rw [Bool.and_eq_true] at h
      obtain ⟨h1, h2⟩ := h
      have e : its = #[] := by simpa using h2
      subst e
      refine ⟨a, [], rfl, .inr ⟨o, #[], m, ho, ?_, hd, Nat.zero_le _, .nil⟩, rfl⟩
      rw [hc, beq_iff_eq.mp h1]
    · cases h
  · cases h
/-- a promise that nothing is asked of -/
theorem fnG_none {P : Program} {w : World} {K : PySem.W.Frag} {T : Txt} {mg : Str → Option Value} {base : Heap} {k n : Nat} {f : Addr} {fd : FuncData} {ps : List Str} (hn : ps.length = n) : FnG P w K mg base k f fd ps (spG K T (fun _ => none) n) :=
  have no : ∀ {vs H Q E}, spG K T (fun _ => none) n vs H Q E → False := fun h => by
    obtain ⟨_, _, _, _, _, _, _, q, _⟩ := h
    cases q
  ⟨fun h => (no h).elim, fun _ _ _ _ _ h => (no h).elim⟩
section
variable {T : Txt} {X : Cx} {W : WX} {e : Expr} {es : List Expr} {pos p : Pos} {c k n : Nat} {x : Str} {G : Fn} {ps : List Str} {dd : List D}
theorem jr_clsD {g : Ev (List D)} (h : CalCD X.prog X.w X.K X.mg X.base T k x c G ps dd) (hA : X.A.guards = some []) (hr : Room (k + 1) X.A) (tk : Takes X W) (ha : JA T X W (e :: es) g) (hn : ps.length = n := by rfl) (hg : Gl X x := by rfl)
    (hdb : (x == ("__debug__" : Str)) = false := by decide) (he : starEach (e :: es) X.env = (false, eval e X.env) :: starEach es X.env := by rfl) (hpl : (backTo pos (starEach es X.env)).any (·.1) = false := by rfl) : JR T X W (.Call (.Name x p) (e :: es) [] pos) (mMake G c n dd g) := by
  subst hn
  obtain ⟨f, fd, ds, dvs, hG, hm, hM, hb, hd, hr2⟩ := h.ex
  exact jr_make (fun t h => pe_makeG hM hG hA hr hg hm hb hd tk h hdb he hpl) hr2 ha
end
end VS
set_option maxHeartbeats 2000000
/-! Exceptions that are held as values: what isinstance says of them, their fields. -/
namespace VS
open PySem L2 PySem.Spec PyProof.Rows
/-- what the written part says of an own class of exceptions -/
structure ExK (K : PySem.W.Frag) (C : Addr) : Prop where
  cl : (PySem.W.clsIn K C).isSome = true
  ga : PySem.W.findIn K (.ref C) "__getattribute__" = some (some (.builtin "BaseException.__getattribute__"))
  gg : PySem.W.findIn K (.ref C) "__getattr__" = some none
  be : PySem.W.subIn K (.ref C) (.type "BaseException") = some true
  dc : PySem.W.hasDictIn K C = true
  ca : PySem.W.findIn K (.ref C) "__class__" = some (some (.builtin "object.__class__"))
  cg : PySem.W.specialIn K (.builtin "object.__class__") "__get__" = some (some (.builtin "getset_descriptor.__get__"))
  ct : PySem.W.takesIn K (.builtin "object.__class__") = some true
  ob : PySem.W.mroIn K C (.type "object") = some true
/-- the type of a value, an exception's too -/
inductive TyZ (K : PySem.W.Frag) (H : Hp) : V → Value → Prop where
  | old {x : V} {t : Value} (h : TyX K H x t) : TyZ K H x t
  | exc {a C : Addr} {d : Option Addr} (e : H a = some (exH a C d)) (k : ExK K C) (dd : ∀ b, d = some b → ∃ fs, H b = some (.xd fs)) : TyZ K H (.ref a) (.ref C)
section
variable {X : Cx} {pins : List (Addr × Obj)} {σ : L2.St} {H : Hp} {s : Shared}
theorem exc_at {a C : Addr} {d : Option Addr} (I : Inv X pins σ H s) (e : H a = some (exH a C d)) (dd : ∀ b, d = some b → ∃ fs, H b = some (.xd fs)) : ∃ o od, PySem.W.InstAt s.heap a o C od ∧ (∀ b fs, d = some b → H b = some (.xd fs) → ∃ ob, od = some ob ∧ ∃ mA, s.heap.Ns1 b mA ∧ (∀ f, RelO (fs.lookup f) (mA f)) ∧ s.heap.get? b = some ob) := by
  obtain ⟨⟨o, at_a, z, vs, flds⟩, _⟩ := (show ObjOk X.prog X.w H s.heap a (exH a C d) from I.hok a _ e)
  cases d with
  | none => exact ⟨o, none, ⟨at_a, z.1, by unfold PySem.W.notCls; rw [flds] <;> rfl, by rw [z.2]; trivial⟩, nofun⟩
  | some b =>
    obtain ⟨fs, at_b⟩ := dd b rfl
    obtain ⟨mA, ns, r⟩ := (show ObjOk X.prog X.w H s.heap b (.xd fs) from I.hok b _ at_b)
    obtain ⟨od, ho, hl⟩ := lookIn_ns ns
    refine ⟨o, some od, ⟨at_a, z.1, by unfold PySem.W.notCls; rw [flds] <;> rfl, by rw [z.2]; exact ho⟩, fun b' fs' eb eh => ?_⟩
    cases eb
    rw [at_b] at eh
    cases eh
    exact ⟨od, rfl, mA, ns, r, ho⟩
theorem kit_ofZ {x : V} {u t : Value} (I : Inv X pins σ H s) (rx : RelV x u) (ty : TyZ X.K H x t) : ∃ P : Heap → Prop, PySem.W.KitX X.K u t P ∧ P s.heap ∧ u ≠ .builtin "__main__.__loader__#opaque" := by
  cases ty with
  | old h => exact kit_of I rx h
  | @exc a C d e k dd =>
    cases (show u = Value.ref a from rx)
    obtain ⟨o, od, at_, _⟩ := exc_at I e dd
    exact ⟨_, PySem.W.kitx_exc k.cl k.ga k.gg k.be k.ca k.cg k.ct k.ob, at_, nofun⟩
def rIsiZ (K : PySem.W.Frag) : List V → Hp → VK → Prop := fun xs H Q => ∃ (x c : V) (t u : Value) (b : Bool), xs = [x, c] ∧ ClsV c u ∧ TyZ K H x t ∧ PySem.W.kitOne K t u = some b ∧ Q (.bl b) H
theorem call_isiZ : CallR X (.builtin "isinstance") (rIsiZ X.K) := by
  rintro pins s σ H _ us Q I r ⟨x, c, t, u, b, rfl, cv, ty, kit, then_⟩
  obtain ⟨u1, u2, rfl, r1, r2⟩ := vals2 r
  obtain rfl := cv.eq r2
  obtain ⟨P, Z, p, ne⟩ := kit_ofZ I r1 ty
  exact PySem.W.kia_one Z I.kIn p kit ne fun tk => ⟨.bl b, H, I.tok tk, rfl, then_⟩
def rIsiTZ (K : PySem.W.Frag) : List V → Hp → VK → Prop := fun xs H Q => ∃ (x : V) (tp : Addr) (cs : List V) (t : Value) (us : List Value) (b : Bool), xs = [x, .ref tp] ∧ H tp = some (.tup cs) ∧ Paired ClsV cs us ∧ TyZ K H x t ∧ PySem.W.kitAny K t us = some b ∧ Q (.bl b) H
theorem call_isiTZ : CallR X (.builtin "isinstance") (rIsiTZ X.K) := by
  rintro pins s σ H _ us Q I r ⟨x, tp, cs, t, ws, b, rfl, at_t, cv, ty, kit, then_⟩
  obtain ⟨u1, u2, rfl, r1, r2⟩ := vals2 r
  cases (show u2 = Value.ref tp from r2)
  obtain ⟨P, Z, p, ne⟩ := kit_ofZ I r1 ty
  obtain ⟨_, its, rv, ⟨oc, od, dt, sl⟩, h1, h2, n, h3⟩ := (show ObjOk X.prog X.w H s.heap tp (.tup cs) from I.hok tp _ at_t)
  obtain rfl := ClsV.all cv rv
  replace h2 : oc = .type "tuple" := h2
  replace h3 : dt = .seq _ n := h3
  subst h2 h3
  exact PySem.W.kia_tup Z I.kIn p h1 kit ne fun tk => ⟨.bl b, H, I.tok tk, rfl, then_⟩
end
/-! ### isinstance over data -/
/-- the kind of data: a built-in type or an own class -/
def kindOf (es : List Nat) : D → Option (String ⊕ Nat)
  | .exc c _ => if c ∈ es then some (.inr c) else none
  | d => (tyD d).map .inl
def kindV (T : Txt) : String ⊕ Nat → Value
  | .inl n => .type n
  | .inr c => .ref (T.cl c)
/-- the classes es are such of refusals -/
abbrev Kinds (K : PySem.W.Frag) (T : Txt) (es : List Nat) : Prop := ∀ c ∈ es, ExK K (T.cl c)
theorem ty_kind {K : PySem.W.Frag} {T : Txt} {es : List Nat} (N : Kinds K T es) {F H : Hp} {d : D} {v : V} {t : String ⊕ Nat} (q : kindOf es d = some t) (e : Ex F H) (r : RepB K T F H d v) : TyZ K H v (kindV T t) := by
  cases d with
  | exc c xs =>
    simp only [kindOf] at q
    split at q
    · next hc =>
      cases q
      have r' : Rep K T F (.exc c xs) v := r
      obtain ⟨a, dd, vs, rfl, h1, h2, _⟩ := r'
      exact .exc (e _ _ h1) (N c hc) fun b hb => ⟨_, e _ _ (h2 b hb)⟩
    · cases q
  | _ =>
    simp only [kindOf, tyD, Option.map_some, Option.map_none, Option.some.injEq, reduceCtorEq] at q
    try subst q
    try exact .old (ty_of rfl e r)
/-- of which kinds a class says yes, of which no -/
structure IsaV (K : PySem.W.Frag) (T : Txt) (c : V) (f : String ⊕ Nat → Option Bool) : Prop where
  ex : ∃ u, ClsV c u ∧ ∀ t b, f t = some b → PySem.W.kitOne K (kindV T t) u = some b
def isaD (es : List Nat) (f : String ⊕ Nat → Option Bool) (d : D) : Option Bool := (kindOf es d).bind f
section
variable {T : Txt} {X : Cx} {W : WX} {a b : Expr} {pos p : Pos}
theorem je_isa {es : List Nat} {cv : V} {f : String ⊕ Nat → Option Bool} {g : Ev D} (N : Kinds X.K T es) (hf : IsaV X.K T cv f) (hm : X.mg "isinstance" = none) (ha : JB T X W a g) (hb : PE X b (tC cv)) (hg : Gl X "isinstance" := by rfl)
    (hs : starEach [a, b] X.env = (false, eval a X.env) :: starEach [b] X.env := by rfl) (hs2 : starEach [b] X.env = (false, eval b X.env) :: starEach [] X.env := by rfl) (hp : (backTo pos (starEach [b] X.env)).any (·.1) = false := by rfl) :
    JE T X W (.Call (.Name "isinstance" p) [a, b] [] pos) (mIsi (isaD es f) g) := fun ρ => by
  have p1 := ha ρ
  have rule : ∀ ta, PE X a ta → PE X (.Call (.Name "isinstance" p) [a, b] [] pos) (tCB (rIsiZ X.K) (tCons ta (tCons (tC cv) tNil))) := fun ta h => pe_callB call_isiZ hg hm (by decide +kernel) (pa_cons h (pa_cons hb pa_nil hs2) hs) (by decide) (by decide) hs hp
  unfold mIsi
  cases q1 : g ρ with
  | stuck => exact pe_no
  | ex c ds ρ1 => rw [q1] at p1; exact pe_weak (rule _ p1) fun σ H Q q => q
  | ok d ρ1 =>
    rw [q1] at p1
    simp only [R.bind_ok]
    cases q2 : isaD es f d with
    | none => exact pe_no
    | some z =>
      obtain ⟨u, cu, fu⟩ := hf.ex
      cases q3 : kindOf es d with
      | none => rw [isaD, q3] at q2; cases q2
      | some t =>
        rw [isaD, q3] at q2
        refine pe_weak (rule _ p1) fun σ H Q ⟨F, Z, L, r, k⟩ => ⟨F, Z, L, r, fun v F1 H1 e1 r1 x1 => ?_⟩
        exact ⟨v, cv, _, u, z, rfl, cu, ty_kind N q3 r1.exF x1, fu t z q2, k _ F1 H1 e1 r1 rfl⟩
/-! ### a field of an exception -/
def tXfd (K : PySem.W.Frag) (f : Str) (te : TE) : TE := fun σ H Q => te σ H fun x H1 => ∃ a C b fs v, x = .ref a ∧ H1 a = some (exH a C (some b)) ∧ ExK K C ∧ PySem.W.findIn K (.ref C) f = some none ∧ H1 b = some (.xd fs) ∧ fs.lookup f = some v ∧ Q v H1
theorem pe_xfd {e : Expr} {f : Str} {te : TE} (he : PE X e te) (hb : attributeBase e f X.env (eval e X.env) = eval e X.env := by rfl) : PE X (.Attribute e f pos) (tXfd X.K f te) := by
  refine ⟨fun pins s σ H Q I h => attr_of hb (thn (he.run pins s σ H _ I h) ?_)⟩
  rintro _ s1 ⟨_, H1, J, rel, a, C, b, fs, v, rfl, at_a, k, no, at_b, look, then_⟩
  cases rel
  obtain ⟨o, od, inst, more⟩ := exc_at J at_a fun c hc => by cases hc; exact ⟨_, at_b⟩
  obtain ⟨ob, rfl, mA, ns, r, at_ob⟩ := more b fs rfl at_b
  obtain ⟨od', ho, hl⟩ := lookIn_ns ns
  rw [at_ob, Option.some.injEq] at ho
  subst ho
  obtain ⟨u, hu, ru⟩ := RelO.some_of (v := v) (o := mA f) (by rw [← look]; exact r f)
  exact HandSPX.exc_get J.kIn inst k.ga k.gg k.be (PySem.W.findObj_own k.dc no rfl (by rw [hl, hu])) (handed_of ru) ⟨v, H1, J.tok _, ru, then_⟩
/-- the i-th field of the exceptions of the classes cs -/
def xfdD (cs : List Nat) (i : Nat) : D → Option D
  | .exc c xs => if c ∈ cs then xs[i]? else none
  | _ => none
theorem je_xfd {e : Expr} {f : Str} {g : Ev D} {cs : List Nat} {i : Nat} (N : Kinds X.K T cs) (hc : ∀ c ∈ cs, (T.fl c).Nodup ∧ (T.fl c)[i]? = some f ∧ PySem.W.findIn X.K (.ref (T.cl c)) f = some none) (ha : JE T X W e g) (hb : attributeBase e f X.env (eval e X.env) = eval e X.env := by rfl) :
    JE T X W (.Attribute e f pos) (mCall1 (xfdD cs i) g) := fun ρ => by
  have p1 := ha ρ
  unfold mCall1
  cases q1 : g ρ with
  | stuck => exact pe_no
  | ex c ds ρ1 => rw [q1] at p1; exact pe_weak (pe_xfd p1 hb) fun σ H Q q => q
  | ok d ρ1 =>
    rw [q1] at p1
    simp only [R.bind_ok]
    cases q2 : xfdD cs i d with
    | none => exact pe_no
    | some z =>
      cases d with
      | exc c xs =>
        simp only [xfdD] at q2
        split at q2
        · rename_i hm
          obtain ⟨nd, at_i, no⟩ := hc c hm
          refine pe_weak (pe_xfd p1 hb) fun σ H Q ⟨F, Z, L, r, k⟩ => ⟨F, Z, L, r, fun v F1 H1 e1 r1 x1 => ?_⟩
          have ek := N c hm
          obtain ⟨a, dd, vs, rfl, h1, h2, h3, rr⟩ := x1
          obtain ⟨u, hu, ru⟩ := rr.get q2
          cases dd with
          | none => rw [h3 rfl] at hu; simp at hu
          | some b => exact ⟨a, _, b, _, u, rfl, r1.exF _ _ h1, ek, no, r1.exF _ _ (h2 b rfl), zip_lookup nd at_i hu, k _ F1 H1 e1 r1 ru⟩
        · cases q2
      | _ => simp [xfdD] at q2
end
end VS
set_option maxHeartbeats 2000000
/-! Refusals of own classes whose __init__ keeps one field: how such a class is made, and raised. -/
namespace VS
open PySem L2 PySem.Spec PyProof.Rows
/-- by its record the class at C stands under ValueError and has a dict -/
def oexB (K : PySem.W.Frag) (C : Addr) : Bool := match K.lookup C with
  | some ⟨.type "type", _, .cls r, sl⟩ =>
    (match r.mro, sl.toList with
    | .ref B :: up, [_, _, _, _, some (.builtin b), _] => decide (B = C) && (decide (b = "ValueError.__new__") && ((!r.hasDel) && (r.hasDict && HandSPX.refsVE up)))
    | _, _ => false)
  | _ => false
theorem oexB_ok {K : PySem.W.Frag} {C : Addr} (h : oexB K C = true) : ∃ nm q N bs bm sn sub ab col dd k0 k1 k2 k3 k5, K.lookup C = some (excClassObj nm q C N bs bm true sn sub ab col dd k0 k1 k2 k3 k5 "ValueError.__new__") ∧ HandSPX.refsVE bm = true := by
  unfold oexB at h
  split at h
  · next dd r sl at_ =>
    split at h
    · next B up w0 w1 w2 w3 b w5 em es =>
      simp only [Bool.and_eq_true, decide_eq_true_eq, Bool.not_eq_true'] at h
      obtain ⟨eB, eb, nd, hd, tail⟩ := h
      rcases r with ⟨nm, bs, mro, ns, qn, dct, sn, sub, ab, col, del⟩
      have e0 : mro = .ref B :: up := em
      have e1 : del = false := nd
      have e2 : dct = true := hd
      have e3 : sl = #[w0, w1, w2, w3, some (.builtin b), w5] := by
        cases sl
        exact congrArg Array.mk es
      subst e0 e1 e2 e3 eB eb
      exact ⟨nm, qn, ns, bs, up, sn, sub, ab, col, dd, w0, w1, w2, w3, w5, at_, tail⟩
    · cases h
  · cases h
/-- what the written part says of a class of refusals -/
def oexAll (K : PySem.W.Frag) (C : Addr) : Bool := oexB K C && (decide (PySem.W.findIn K (.ref C) "__setattr__" = some (some (.builtin "object.__setattr__"))) && (decide (PySem.W.subIn K (.ref C) (.type "BaseException") = some true) && (decide (PySem.W.typeIn K (.ref C) = some (.type "type")) && PySem.W.keepIn K (.ref C))))
theorem oexAll_ok {K : PySem.W.Frag} {C : Addr} (h : oexAll K C = true) : OexC K C := by
  unfold oexAll at h
  simp only [Bool.and_eq_true, decide_eq_true_eq] at h
  exact ⟨oexB_ok h.1, h.2.1, h.2.2.1, h.2.2.2.1, h.2.2.2.2⟩
/-- the class at B hands ValueError's __init__ out, asked as a class is -/
def upB (K : PySem.W.Frag) (B : Addr) : Bool := PySem.W.readsIn K B (.type "type") && (decide (PySem.W.specialIn K (.ref B) "__getattribute__" = some (some (.builtin "type.__getattribute__"))) && (match PySem.W.findCls K (.ref B) (.type "type") "__init__" with
  | some (.val (.builtin b)) => decide (b = "ValueError.__init__")
  | _ => false))
section
variable {X : Cx} {x : Str} {B : Addr} {e : Expr} {es : List Expr} {ta : TA} {p1 p2 pos : Pos}
/-- B.__init__(self, ..), B an own class over ValueError without one -/
theorem pe_upInit {sb : Sem Bool} (known : upB X.K B = true) (hg : Gl X x) (hm : X.mg x = some (.ref B)) (ha : PA X (e :: es) ta)
    (shape : eval (.Call (.Attribute (.Name x p1) "__init__" p2) (e :: es) [] pos) X.env = (do
      let o ← eval (.Name x p1) X.env
      standAt p2.atName
      let (g, more) ← holding [o] (getMethod o "__init__" sb)
      callWith pos g more (backTo pos (starEach (e :: es) X.env)) (backToKw pos (keywordEach [] X.env))) := by rfl)
    (h1 : starEach (e :: es) X.env = (false, eval e X.env) :: starEach es X.env := by rfl) (h2 : (backTo pos (starEach es X.env)).any (·.1) = false := by rfl) (hdb : (x == ("__debug__" : Str)) = false := by decide) :
    PE X (.Call (.Attribute (.Name x p1) "__init__" p2) (e :: es) [] pos) (tVeI X.K ta) := by
  unfold upB at known
  simp only [Bool.and_eq_true, decide_eq_true_eq] at known
  obtain ⟨rd, sg, fd0⟩ := known
  have fd : PySem.W.findCls X.K (.ref B) (.type "type") "__init__" = some (.val (.builtin "ValueError.__init__")) := by
    split at fd0
    · next b eb => rw [eb, of_decide_eq_true fd0]
    · cases fd0
  constructor
  intro pins st σ H Q inv want
  refine PySem.W.methodCall_KW (ld_glob inv hg hm ?_ hdb) shape
  refine PySem.W.method_cls inv.kIn sg (PySem.W.cls_value inv.kIn rd fd (by decide +kernel) ?_)
  show wpAny _ _ (callWith pos (Value.builtin "ValueError.__init__") [] (backTo pos (starEach (e :: es) X.env)) []) _ _ _
  refine PyProof.Rows.callWith_method1 (thn (ha.run pos pins _ σ H _ (inv.tok _) want) ?_) h1 h2
  rintro us st1 ⟨vs, G, inv1, rel, a, C, ws, rfl, short, isC, at_a, next_⟩
  cases rel with
  | @cons _ u _ us' r rs =>
    cases (show u = Value.ref a from r)
    refine oinit_ok isC inv1 at_a ?_ fun st2 inv2 => ⟨.non, G, inv2, rfl, next_⟩
    have := Paired.length rs
    rw [sizeLine_eq]
    omega
end
/-- what such an __init__ does: the field is kept -/
def spI (C : Addr) (f : Str) : Sp := fun vs H Q _ => ∃ a y, vs = [.ref a, y] ∧ H a = some (exo a C none) ∧ ∀ dx, H dx = none → dx ≠ a → Q .non (upd (upd H dx (exd dx [(f, y)])) a (exo a C (some dx)))
/-- the two rows of such an __init__ walked -/
theorem init_rows {K : PySem.W.Frag} {C : Addr} {f t : Str} {vs : List V} {H : Hp} {Q : VK} {E : XK} {N : List Str} (isC : OexC K C) (no : PySem.W.findIn K (.ref C) f = some none) (hN : N.length = 2) (h : spI C f vs H Q E) :
    tSeq (tDrop (tVeI K (tCons (tVar 0) (tCons (tC (.str t)) tNil)))) (tSeq (tOst K f (tVar 0) (tVar 1)) tNext) { nx := fun _ G => Q .non G, rt := Q } (L2.start N vs) H := by
  obtain ⟨a, y, rfl, at_a, go⟩ := h
  obtain ⟨n0, n1, rfl⟩ : ∃ n0 n1, N = [n0, n1] := by
    match N, hN with
    | [n0, n1], _ => exact ⟨n0, n1, rfl⟩
  refine ⟨.ref a, rfl, a, C, [.str t], rfl, by simp, isC, at_a, ?_⟩
  exact ⟨y, rfl, .ref a, rfl, a, C, rfl, isC, no, .inl ⟨at_a, fun dx n ne => go dx n ne⟩⟩
/-- an own class of refusals that can be raised: c its place, f its field -/
structure CalX (P : Program) (w : World) (K : PySem.W.Frag) (mg : Str → Option Value) (base : Heap) (T : Txt) (k : Nat) (x : Str) (c : Nat) (f : Str) : Prop where
  ex : ∃ g fd ps, FnOk P w K mg base CX0 k g fd ps (spI (T.cl c) f) ∧ mg x = some (.ref (T.cl c)) ∧ OexC K (T.cl c) ∧ PySem.W.findIn K (.ref (T.cl c)) "__init__" = some (some (.ref g)) ∧ PySem.W.typeIn K (.ref g) = some (.type "function") ∧ Binds K fd ps [] ∧ T.fl c = [f]
def mRaise1 (c : Nat) (g : Ev D) : VEnv → RS := fun ρ => match g ρ with
  | .ok d ρ1 => .ex c [d] ρ1
  | .ex c' ds ρ1 => .ex c' ds ρ1
  | .stuck => .stuck
section
variable {T : Txt} {X : Cx} {W : WX} {a : Expr} {x f : Str} {c k : Nat} {p pos pos' : Pos}
theorem js_raise1 {g : Ev D} (h : CalX X.prog X.w X.K X.mg X.base T k x c f) (calm : X.calm = true) (hr : Room (k + 1) X.A) (tk : Takes X W) (ha : JE T X W a g) (hg : Gl X x := by rfl) (hdb : (x == ("__debug__" : Str)) = false := by decide)
    (h1 : starEach [a] X.env = (false, eval a X.env) :: starEach [] X.env := by rfl) (h2 : (backTo pos (starEach [] X.env)).any (·.1) = false := by rfl) : JS T X W (.Raise (some (.Call (.Name x p) [a] [] pos)) none pos') (mRaise1 c g) := fun ρ => by
  obtain ⟨q, fd, ps, hF, hm, isC, at_i, fn_i, hb, fl⟩ := h.ex
  have made : ∀ ta, PE X a ta → PS X (.Raise (some (.Call (.Name x p) [a] [] pos)) none pos') (fun _ σ H => tMkO (T.cl c) (spI (T.cl c) f) [] (tCons ta tNil) σ H fun cls d H' => W cls d σ H') :=
    fun ta h => ps_raise calm tk (pmk_oex isC at_i fn_i hF hr hb .nil pass0 hg hm (pa_cons h pa_nil h1) hdb h1 h2)
  have p1 := ha ρ
  unfold mRaise1
  cases q1 : g ρ with
  | stuck => exact ⟨fun _ _ _ _ _ _ ⟨_, _, _, _, z⟩ => z.elim⟩
  | ex c' ds ρ1 =>
    rw [q1] at p1
    exact ps_weak (made _ p1) fun N σ H ⟨F, Z, L, r, k⟩ => ⟨F, Z, L, r, fun cls dd F' H' e r' x' => k cls dd σ F' H' e r' x'⟩
  | ok d ρ1 =>
    rw [q1] at p1
    refine ps_weak (made _ p1) fun N σ H ⟨F, Z, L, r, kk⟩ => ⟨F, Z, L, r, fun v F1 H1 e1 r1 rp => ⟨by simp, fun b nb => ?_⟩⟩
    refine ⟨b, v, rfl, upd_same, fun dx n ne => ⟨rfl, dx, [(f, v)], upd_same, by rw [upd_ne ne, upd_same], ?_, ?_⟩⟩
    · rw [upd_ne ne] at n; exact n
    · rw [upd_ne ne] at n
      have same : upd (del (upd (upd (upd H1 b (exo b (T.cl c) none)) dx (exd dx [(f, v)])) b (exo b (T.cl c) (some dx))) b) dx (.xd [(f, v)]) = upd H1 dx (.xd [(f, v)]) := by
        funext z
        by_cases h3 : z = dx
        · rw [h3, upd_same, upd_same]
        · rw [upd_ne h3, upd_ne h3]
          by_cases h4 : z = b
          · rw [h4, del_same, nb]
          · rw [del_ne h4, upd_ne h4, upd_ne h3, upd_ne h4]
      rw [same]
      refine kk (.ref (T.cl c)) (some dx) σ _ _ (e1.trans (Ex.new (r1.exF.none n))) (r1.new n) ⟨rfl, [v], fun d' ed => ?_, nofun, .cons (rp.mono (Ex.new (r1.exF.none n))) .nil⟩
      cases ed
      rw [upd_same, fl]; rfl
end
end VS
set_option maxHeartbeats 2000000
/-! try: .. except B as e: y = e. What was caught stays, held as a value. -/
namespace VS
open PySem L2 PySem.Spec PyProof.Rows
section
variable {X : Cx} {pins : List (Addr × Obj)} {σ : L2.St} {H : Hp} {st : Shared} {a C : Addr} {oe : Obj} {d : Option Addr}
/-- a refusal that lies pinned is taken among the things that are told of -/
theorem track (I : Inv X ((a, oe) :: pins) σ H st) (new0 : X.s_0.heap.get? a = none) (other : ∀ p ∈ X.pn ++ pins, p.1 ≠ a) (z : Zc (.ref C) d oe) (rec_ : ∃ vs, oe.data = .fields vs) :
    Inv X pins σ (upd H a (exH a C d)) st := by
  obtain ⟨at_a, none_a, notL, notF, notC⟩ := I.pin (a, oe) (by simp)
  have keep : ∀ {b u}, H b = some u → upd H a (exH a C d) b = some u := fun {b u} q => by rw [upd_ne (ne_of_none q none_a)]; exact q
  have off : ∀ {b}, b ≠ a → H b = none → upd H a (exH a C d) b = none := fun {b} ne q => by rw [upd_ne ne]; exact q
  constructor
  · exact I.ok
  · exact I.os
  · exact I.bare
  · refine ⟨I.base.keep, I.base.slot, fun b o q n x => ?_, I.base.there, fun b xs q => keep (I.base.tups b xs q), fun b o u q => keep (I.base.frzs b o u q), fun b ps q => ?_⟩
    · refine off (fun e => ?_) (I.base.free b o q n x)
      rw [e, new0] at q
      cases q
    · obtain ⟨more, q2⟩ := I.base.tbls b ps q
      exact ⟨more, keep q2⟩
  · exact I.loc
  · exact I.cell
  · exact off (Ne.symm notL) I.free
  · intro y c q
    refine off (fun e => ?_) (I.freeC y c q)
    obtain ⟨v, hv⟩ := I.cell y c q
    obtain ⟨o, e1, e2⟩ := hv
    rw [e, at_a] at e1
    cases e1
    exact notC v e2
  · intro p hp
    obtain ⟨p1, p2, p3⟩ := I.pin p (by
      rcases List.mem_append.mp hp with q | q
      · exact List.mem_append_left _ q
      · exact List.mem_append_right _ (List.mem_cons_of_mem _ q))
    exact ⟨p1, off (other p hp) p2, p3⟩
  · intro b u q
    by_cases e : b = a
    · subst e
      rw [upd_same] at q
      cases q
      exact ⟨⟨oe, at_a, z, rec_⟩, ⟨oe, at_a⟩, fun g1 g2 ⟨o, q1, q2⟩ more => ⟨o, more o q1, q2⟩⟩
    · rw [upd_ne e] at q
      exact (I.hok b u q).stay (fun _ _ _ q => q) (fun _ q => keep q) fun _ _ q => keep q
  · exact I.len
end
/-- what is wished of a refusal of the body: it is caught, and stays in slot j; slot i, the clause's name, is empty again -/
def wKeep2 (K : PySem.W.Frag) (c : Value) (i j : Nat) (N : Ends) : WX := fun cls d σ H =>
  PySem.W.exmOne K cls c = some true ∧ ∃ C, cls = .ref C ∧ ∀ a, H a = none → N.nx (((σ.set i (some (.ref a))).set j (some (.ref a))).set i none) (upd H a (exH a C d))
section
variable {X : Cx} {x n : Str} {c : Value} {i j : Nat} {body suite : List Stmt} {s0 : Stmt} {np pos pos' : Pos} {tb : WX → TS} {ts : TS}
theorem ps_keep (hex : X.ex = []) (hs : X.stack = X.env :: X.outer) (hf : X.env.frame = some X.env.locals) (hN : X.N.Nodup) (hi : X.N[i]? = some n) (hln : X.env.kindOf n = some .local) (hc : Names X x c)
    (hb : ∀ (W : WX) (pn : List (Addr × Obj)) (xe : Value → Shared → Prop), Takes (X.tr pn xe) W → PassesOwn (model X.prog X.w) X.A X.env xe → PSs (X.tr pn xe) body (tb W))
    (hsu : ∀ (a : Addr) (oe : Obj) (pn : List (Addr × Obj)), PSs (X.suite a ((a, oe) :: pn)) (s0 :: suite) ts)
    (ht : ∀ N σ H v, σ.length = X.N.length → σ[i]? = some (some v) → N.nx (σ.set j (some v)) H → ts N σ H) :
    PS X (.Try body [.ExceptHandler (some (.Name x np)) (some n) (s0 :: suite) pos'] [] [] pos) (fun N σ H => tb (wKeep2 X.K c i j N) N σ H) := by
  constructor
  intro pins st σ H N I want
  have good := I.ok
  have fr : X.A.frames = some (X.env :: X.outer) := good.frames.trans (congrArg some hs)
  refine wpAny_Try_except ?_
  refine wpAny_mono ((hb (wKeep2 X.K c i j N) (X.pn ++ pins) _ ?caught PassesOwn.looking).run [] st σ H N (I.toTry _) want) ?plain fun _ _ h => h
  case plain =>
    intro f s1 h
    cases f with
    | next => obtain ⟨τ, G, J, q⟩ := h; exact wpAny_execs_nil ⟨τ, G, J.ofTry good, q⟩
    | ret u => obtain ⟨v, τ, G, J, r, q⟩ := h; exact ⟨v, τ, G, J.ofTry good, r, q⟩
    | brk => obtain ⟨τ, G, J, q⟩ := h; exact ⟨τ, G, J.ofTry good, q⟩
    | cont => obtain ⟨τ, G, J, q⟩ := h; exact ⟨τ, G, J.ofTry good, q⟩
  case caught =>
    rintro _ s1 ⟨a, B, s2, pins2, τ, G, cls, d, rfl, J0, ground, up, sky, none_a, eos, bare, hit, C, rfl, go⟩
    have J := J0.ofTry good
    rw [show (X.tr (X.pn ++ pins) _).stack = X.env :: X.outer from hs] at sky
    refine Sky.land Zc.steady fr hf sky fun h3 fly up3 => ?_
    obtain ⟨o3, f3, at3, z3, dat3⟩ := fly.there
    have outF : a ∉ frs (X.env :: X.outer) := fun m => by
      obtain ⟨_, o, q, no⟩ := fly.2.2.1.mem m
      rw [at3] at q
      cases q
      exact no _ dat3
    have notL : a ≠ X.env.locals := fun e => outF (List.mem_filterMap.mpr ⟨X.env, by simp, by rw [hf, e]⟩)
    have notF : a ∉ X.fs := fun m => by
      obtain ⟨v, m1, m2⟩ := List.mem_filterMap.mp m
      exact outF (List.mem_filterMap.mpr ⟨v, List.mem_cons_of_mem _ m1, m2⟩)
    have gone2 : s2.heap.get? a = none := by
      cases q : s2.heap.get? a with
      | none => rfl
      | some o =>
        have := ground a o q (by rw [show frs (X.tr (X.pn ++ pins) _).stack = frs (X.env :: X.outer) from congrArg frs hs]; exact outF)
        rw [fly.2.1] at this
        cases this
    have new0 : X.s_0.heap.get? a = none := by
      cases q : X.s_0.heap.get? a with
      | none => rfl
      | some o =>
        obtain ⟨o', q2⟩ := J.base.there a o q (by rw [hex]; simp)
        rw [gone2] at q2
        cases q2
    have other : ∀ p ∈ X.pn ++ pins, p.1 ≠ a := fun p hp e => by
      have := (J.pin p hp).1
      rw [e, gone2] at this
      cases this
    have J3 : Inv X pins τ G { s1 with heap := h3 } := J.landed ground fly.1 (up.trans up3) eos bare
    have S3 := J3.suite at3 dat3 none_a notL notF
    have type3 : PySem.W.Looks (model X.prog X.w) h3 (typeOf (.ref a)) (.ref C) := fun A Q E s k q => wpAny_typeOf_ref (k _ _ at3) (by rw [z3.1]; exact q)
    have fits := PySem.W.exm_one (M := model X.prog X.w) J3.kIn type3 hit
    refine PySem.W.exc_clause_as ?_
    have name_ : ∀ {Q : Value → Shared → Prop} {E : Value → Shared → Prop}, Q c { s1 with heap := h3 } → wpAny (model X.prog X.w) (X.A.mark (some (.ref a))) (eval (.Name x np) X.env) Q E { s1 with heap := h3 } := by
      intro Q E q
      obtain ⟨g, dbg, m | ⟨m, bt, nn⟩⟩ := hc
      · exact ld_glob (X := X.suite a ((a, o3) :: (X.pn ++ pins))) S3 g m q dbg
      · exact ld_blt (X := X.suite a ((a, o3) :: (X.pn ++ pins))) S3 g m bt q nn dbg
    refine name_ ⟨true, fits, ?_⟩
    rw [if_pos rfl]
    refine HandSPX.lands_againZ fly fun h4 fly4 up4 => ?_
    obtain ⟨o4, f4, at4, z4, dat4⟩ := fly4.there
    have J4 : Inv X pins τ G { s1 with heap := h4 } := J.landed ground fly4.1 ((up.trans up3).trans up4) eos bare
    refine store_ok (X := X.suite a ((a, o4) :: (X.pn ++ pins))) (v := .ref a) (J4.suite at4 dat4 none_a notL notF) hN hi (.inl hln) rfl (fun s5 S5 => ?_) (.inr hln)
    have hlt : i < τ.length := by
      rw [J4.len]
      exact (List.getElem?_eq_some_iff.mp hi).1
    refine wpAny_mono ((hsu a o4 (X.pn ++ pins)).run [] s5 _ G { nx := fun υ G' => υ = (τ.set i (some (.ref a))).set j (some (.ref a)) ∧ G' = G, rt := fun _ _ => False } S5 (ht _ _ _ (.ref a) (by simpa using J4.len) (List.getElem?_set_self hlt) ⟨rfl, rfl⟩)) ?_ fun _ _ z => z.elim
    intro f s6 r6
    cases f with
    | ret u => obtain ⟨_, _, _, _, _, z⟩ := r6; exact z.elim
    | brk => obtain ⟨_, _, _, z⟩ := r6; exact z.elim
    | cont => obtain ⟨_, _, _, z⟩ := r6; exact z.elim
    | next =>
      obtain ⟨υ, G6, S6, e1, e2⟩ := r6
      rw [e1, e2] at S6
      have P6 : L2.Inv X ((a, o4) :: pins) ((τ.set i (some (.ref a))).set j (some (.ref a))) G s6 := (S6.unsuite good).pins_of fun p hp => S6.pin p (by
        rcases List.mem_cons.mp hp with q | q
        · exact List.mem_append_left _ (by rw [q]; exact List.mem_cons_self)
        · exact List.mem_append_left _ (List.mem_cons_of_mem _ (List.mem_append_right _ q)))
      exact gone_ok P6 hN hi hln fun s7 P7 => ⟨_, _, track P7 new0 other z4 ⟨_, dat4⟩, go a none_a⟩
end
/-! ### over slots -/
def mTryK (hit : List Nat) (i j : Nat) (h : VEnv → RS) : VEnv → RS := fun ρ => match h ρ with
  | .ex c ds ρ1 => if c ∈ hit then (match setV j (.exc c ds) ρ1 with
    | some ρ2 => (match ρ2[i]? with
      | some (some (Sl.own _ _)) => .stuck
      | _ => .nx (ρ2.set i none))
    | none => .stuck) else .stuck
  | r => r
section
variable {T : Txt} {X : Cx} {W : WX} {x n : Str} {C0 : Value} {i j : Nat} {body suite : List Stmt} {s0 : Stmt} {np pos pos' : Pos} {h : VEnv → RS} {ts : TS} {hit : List Nat}
theorem js_tryK (hij : i ≠ j) (hex : X.ex = []) (hs : X.stack = X.env :: X.outer) (hf : X.env.frame = some X.env.locals) (hN : X.N.Nodup) (hi : X.N[i]? = some n) (hln : X.env.kindOf n = some .local) (hc : Names X x C0) (hx : ∀ c ∈ hit, PySem.W.exmOne X.K (.ref (T.cl c)) C0 = some true)
    (hb : ∀ (W : WX) (pn : List (Addr × Obj)) (xe : Value → Shared → Prop), Takes (X.tr pn xe) W → PassesOwn (model X.prog X.w) X.A X.env xe → JSs T (X.tr pn xe) W body h)
    (hsu : ∀ (a : Addr) (oe : Obj) (pn : List (Addr × Obj)), PSs (X.suite a ((a, oe) :: pn)) (s0 :: suite) ts)
    (ht : ∀ N σ H v, σ.length = X.N.length → σ[i]? = some (some v) → N.nx (σ.set j (some v)) H → ts N σ H) :
    JS T X W (.Try body [.ExceptHandler (some (.Name x np)) (some n) (s0 :: suite) pos'] [] [] pos) (mTryK hit i j h) := fun ρ => by
  refine ps_weak (ps_keep (j := j) (tb := fun W => rdS X.K T W ρ (h ρ)) hex hs hf hN hi hln hc (fun W pn xe t p => hb W pn xe t p ρ) hsu ht) fun N σ H q => ?_
  unfold mTryK at q
  cases g : h ρ with
  | ex c ds ρ1 =>
    rw [g] at q
    obtain ⟨F, Z, L, r, k⟩ := q
    dsimp only at k
    split at k
    · next hc2 =>
      split at k
      · next ρ2 q2 =>
        split at k
        · exact k.elim
        · next no =>
          refine ⟨F, Z, L, r, fun cls dd τ F1 H1 e1 r1 xr => ?_⟩
          obtain ⟨rfl, vs, d1, d2, rp⟩ := xr
          refine ⟨hx c hc2, T.cl c, rfl, fun a na => k _ (upd F1 a (exH a (T.cl c) dd)) _ (e1.trans (Ex.new (r1.exF.none na))) ?_⟩
          have up1 : Ex F1 (upd F1 a (exH a (T.cl c) dd)) := Ex.new (r1.exF.none na)
          have r2 := (r1.new (o := exH a (T.cl c) dd) na).setV (v := .ref a) q2 ⟨a, dd, vs, rfl, upd_same, fun d ed => up1 _ _ (d1 d ed), d2, rp.mono up1⟩
          have r3 := r2.drop (i := i) fun m e => no true m e
          have hL : ∀ b, L i ≠ some b := fun b e => by
            obtain ⟨_, m, z⟩ := r2.lent i b e
            exact no true m z
          have r4 := r3.sig (vs := [i]) (σ' := (τ.set j (some (.ref a))).set i none) (fun b hb => List.getElem?_set_ne (by simpa using Ne.symm (by simpa using hb))) (by simp) (fun b hb s e => by
            obtain rfl : b = i := by simpa using hb
            by_cases hlt : b < ρ2.length
            · rw [List.getElem?_set_self hlt] at e; cases e
            · rw [List.getElem?_eq_none (by simpa using hlt)] at e; cases e) (fun b hb => by
            obtain rfl : b = i := by simpa using hb
            cases q3 : L b with
            | none => rfl
            | some z => exact absurd q3 (hL z))
          have same : ((τ.set i (some (.ref a))).set j (some (.ref a))).set i none = (τ.set j (some (.ref a))).set i none := by
            rw [List.set_comm _ _ (Ne.symm hij), List.set_set, List.set_comm _ _ hij]
          rw [same]
          exact r4
      · exact k.elim
    · exact k.elim
  | _ => rw [g] at q; exact q
end
end VS
set_option maxHeartbeats 2000000
/-! repr of {}, isinstance of several classes at once, slices of owned lists, a method called by a keyword. -/
namespace VS
open PySem L2 PySem.Spec PyProof.Rows
def exkB (K : PySem.W.Frag) (C : Addr) : Bool := (PySem.W.clsIn K C).isSome && (decide (PySem.W.findIn K (.ref C) "__getattribute__" = some (some (.builtin "BaseException.__getattribute__"))) && (decide (PySem.W.findIn K (.ref C) "__getattr__" = some none) && (decide (PySem.W.subIn K (.ref C) (.type "BaseException") = some true) && (PySem.W.hasDictIn K C && (decide (PySem.W.findIn K (.ref C) "__class__" = some (some (.builtin "object.__class__"))) && (decide (PySem.W.specialIn K (.builtin "object.__class__") "__get__" = some (some (.builtin "getset_descriptor.__get__"))) && (decide (PySem.W.takesIn K (.builtin "object.__class__") = some true) && decide (PySem.W.mroIn K C (.type "object") = some true))))))))
theorem exkB_ok {K : PySem.W.Frag} {C : Addr} (h : exkB K C = true) : ExK K C := by
  unfold exkB at h
  simp only [Bool.and_eq_true, decide_eq_true_eq] at h
  obtain ⟨h1, h2, h3, h4, h5, h6, h7, h8, h9⟩ := h
  exact ⟨h1, h2, h3, h4, h5, h6, h7, h8, h9⟩
/-! ### repr of the empty dict -/
def rRepr0 : List V → Hp → VK → Prop := fun xs H Q => ∃ a, xs = [.ref a] ∧ H a = some (.dK []) ∧ Q (.str "{}") H
theorem call_repr0 {X : Cx} {k : Nat} (hA : X.A.guards = some []) (hr : Room k X.A) : CallR X (.builtin "repr") rRepr0 := by
  rintro pins s σ H _ us Q I r ⟨a, rfl, at_a, q⟩
  cases r with
  | cons r1 rr =>
    cases rr
    cases r1
    obtain ⟨_, far, vs, kv, o, es, ep, e1, e2, e3, _, prs, _⟩ := dk_of I.hok at_a
    cases kv
    have none_ : es.toList = [] := by
      cases q : es.toList with
      | nil => rfl
      | cons b bs => rw [q] at prs; cases prs
    have rd : Reads s.heap (.ref a) (.dict []) (a :: [] ++ []) := .dict e1 e2.1 e3 (by rw [none_]; exact .nil) (by rw [none_]; exact .nil)
    have hu := hr.un
    have d1 : (PyData.dict []).depth = 1 := by decide +kernel
    refine repr_of_reads' rd (by decide +kernel) (fun _ m => ?_) hA (by omega) (fun _ _ z => z) (fun h' u tk hk => ⟨.str _, H, I.kept hk, ⟨_, rfl⟩, q⟩) (by decide +kernel)
    have : sysModules = a := by simpa using m
    rw [← this] at far
    simp at far
def reprE : D → Option D
  | .dct [] => some (.str "{}")
  | d => reprD d
def rReprE (K : PySem.W.Frag) : List V → Hp → VK → Prop := fun xs H Q => rRepr K xs H Q ∨ rRepr0 xs H Q
theorem callv_reprE {K : PySem.W.Frag} {T : Txt} : CallV1 K T (rReprE K) reprE := by
  intro d z h F H v Q e r k
  unfold reprE at h
  split at h
  · cases h
    obtain ⟨a, ws, rfl, at_a, kv⟩ := r
    cases kv
    exact .inr ⟨a, rfl, at_a, k _ F H .refl rfl⟩
  · exact .inl (callv_repr d z h F H v Q e r k)
section
variable {T : Txt} {X : Cx} {W : WX} {a b o e : Expr} {es bs : List Expr} {pos p apos p2 kpos : Pos} {c k n nt : Nat} {G : Fn} {ps : List Str} {m kx : Str}
theorem je_reprE {g : Ev D} (hA : X.A.guards = some []) (hr : Room k X.A) (hm : X.mg "repr" = none) (ha : JB T X W a g) (hg : Gl X "repr" := by rfl) (hs : starEach [a] X.env = (false, eval a X.env) :: starEach [] X.env := by rfl) : JE T X W (.Call (.Name "repr" p) [a] [] pos) (mCall1 reprE g) :=
  je_call1 (fun _ h => pe_callB (callr_or (call_reprA hA hr) (call_repr0 hA hr)) hg hm (by decide +kernel) h (by decide) (by decide) hs rfl) callv_reprE ha hs
theorem je_reprEI {g : Ev D} (M : CalM X.prog X.w X.K X.mg X.base T k c "__repr__" G ps) (hA : X.A.guards = some []) (hr : Room (k + 1) X.A) (hm : X.mg "repr" = none) (ha : JE T X W a g) (hn : ps.length = 1 := by rfl) (hg : Gl X "repr" := by rfl) (hs : starEach [a] X.env = (false, eval a X.env) :: starEach [] X.env := by rfl) :
    JE T X W (.Call (.Name "repr" p) [a] [] pos) (mCall1 (textI reprE c G) g) := by
  obtain ⟨f, fd, hG, hM, hb⟩ := M.ex
  rw [hn] at hG
  exact je_call1E (fun _ h => pe_callB (callr_or (callr_or (call_reprA hA hr) (call_repr0 hA hr)) (call_reprI hM hG hA hr hb)) hg hm (by decide +kernel) h (by decide) (by decide) hs rfl) (callE_text (callE_of callv_reprE)) ha hs
/-! ### isinstance(x, (A, B, ..)) -/
/-- what a class answers: no of these built-in types, of own classes as the table says -/
def isaF (nos : List String) (tbl : List (Nat × Bool)) : String ⊕ Nat → Option Bool
  | .inl t => if t ∈ nos then some false else none
  | .inr c => tbl.lookup c
structure IsaT (K : PySem.W.Frag) (T : Txt) (cs : List V) (f : String ⊕ Nat → Option Bool) : Prop where
  ex : ∃ us, Paired ClsV cs us ∧ ∀ t b, f t = some b → PySem.W.kitAny K (kindV T t) us = some b
theorem lookup_in {c : Nat} {b : Bool} : ∀ {tbl : List (Nat × Bool)}, tbl.lookup c = some b → (c, b) ∈ tbl
  | [], h => by simp at h
  | (k, z) :: tbl, h => by
    rw [List.lookup_cons] at h
    by_cases e : c = k
    · subst e
      simp at h
      simp [h]
    · have : (c == k) = false := by simpa using e
      rw [this] at h
      exact List.mem_cons_of_mem _ (lookup_in h)
theorem isaV_of {K : PySem.W.Frag} {C : Addr} {nos : List String} {tbl : List (Nat × Bool)} (h1 : ∀ t ∈ nos, PySem.W.kitOne K (.type t) (.ref C) = some false) (h2 : ∀ q ∈ tbl, PySem.W.kitOne K (.ref (T.cl q.1)) (.ref C) = some q.2) : IsaV K T (.ref C) (isaF nos tbl) := by
  refine ⟨⟨.ref C, .own C, fun t b h => ?_⟩⟩
  cases t with
  | inl t =>
    simp only [isaF] at h
    split at h
    · next m => cases h; exact h1 t m
    · cases h
  | inr c => exact h2 _ (lookup_in h)
theorem isaT_of {K : PySem.W.Frag} {Cs : List Addr} {nos : List String} {tbl : List (Nat × Bool)} (h1 : ∀ t ∈ nos, PySem.W.kitAny K (.type t) (Cs.map Value.ref) = some false) (h2 : ∀ q ∈ tbl, PySem.W.kitAny K (.ref (T.cl q.1)) (Cs.map Value.ref) = some q.2) : IsaT K T (Cs.map V.ref) (isaF nos tbl) := by
  refine ⟨⟨Cs.map Value.ref, ?_, fun t b h => ?_⟩⟩
  · clear h1 h2
    induction Cs with
    | nil => exact .nil
    | cons C Cs ih => exact .cons (.own C) ih
  · cases t with
    | inl t =>
      simp only [isaF] at h
      split at h
      · next m => cases h; exact h1 t m
      · cases h
    | inr c => exact h2 _ (lookup_in h)
/-- the names of classes, one behind another -/
theorem pa_names {cs : List V} (h : PA X bs (fun _ H Q => Q cs H)) (hb : PE X b (tC (.ref k))) (hs : starEach (b :: bs) X.env = (false, eval b X.env) :: starEach bs X.env) : PA X (b :: bs) (fun _ H Q => Q (.ref k :: cs) H) :=
  ⟨fun pos pins s σ H Q I q => (pa_cons hb h hs).run pos pins s σ H Q I q⟩
theorem je_isaT {es : List Nat} {cs : List V} {f : String ⊕ Nat → Option Bool} {g : Ev D} (N : Kinds X.K T es) (hf : IsaT X.K T cs f) (hl : cs.length ≤ 100) (hm : X.mg "isinstance" = none) (ha : JE T X W a g) (hb : PA X bs (fun _ H Q => Q cs H)) (hg : Gl X "isinstance" := by rfl)
    (hs : starEach [a, .Tuple bs nt p2] X.env = (false, eval a X.env) :: starEach [.Tuple bs nt p2] X.env := by rfl) (hs2 : starEach [.Tuple bs nt p2] X.env = (false, eval (.Tuple bs nt p2) X.env) :: starEach [] X.env := by rfl) (hp : (backTo pos (starEach [.Tuple bs nt p2] X.env)).any (·.1) = false := by rfl) :
    JE T X W (.Call (.Name "isinstance" p) [a, .Tuple bs nt p2] [] pos) (mIsi (isaD es f) g) := fun ρ => by
  have p1 := ha ρ
  have rule : ∀ ta, PE X a ta → PE X (.Call (.Name "isinstance" p) [a, .Tuple bs nt p2] [] pos) (tCB (rIsiTZ X.K) (tCons ta (tCons (tTup fun _ H Q => Q cs H) tNil))) := fun ta h => pe_callB call_isiTZ hg hm (by decide +kernel) (pa_cons h (pa_cons (pe_tup hb) pa_nil hs2) hs) (by decide) (by decide) hs hp
  unfold mIsi
  cases q1 : g ρ with
  | stuck => exact pe_no
  | ex c ds ρ1 => rw [q1] at p1; exact pe_weak (rule _ p1) fun σ H Q q => q
  | ok d ρ1 =>
    rw [q1] at p1
    simp only [R.bind_ok]
    cases q2 : isaD es f d with
    | none => exact pe_no
    | some z =>
      obtain ⟨us, cu, fu⟩ := hf.ex
      cases q3 : kindOf es d with
      | none => rw [isaD, q3] at q2; cases q2
      | some t =>
        rw [isaD, q3] at q2
        refine pe_weak (rule _ p1) fun σ H Q ⟨F, Z, L, r, k⟩ => ⟨F, Z, L, r, fun v F1 H1 e1 r1 x1 => ⟨Nat.le_trans hl (by decide), fun tp hn => ?_⟩⟩
        have up : Ex F1 (upd F1 tp (.tup cs)) := Ex.new (r1.exF.none hn)
        have r2 := r1.new (o := HO.tup cs) hn
        exact ⟨v, tp, cs, _, us, z, rfl, upd_same, cu, ty_kind N q3 r2.exF ((x1.mono up).b r2.exF), fu t z q2, k _ _ _ (e1.trans up) r2 rfl⟩
/-! ### a slice of a list read where it stands -/
def CP (X : Cx) (o : Option Expr) (l : Option Int) : Prop := PO X o (fun _ H Q => Q l H)
theorem cp_none : CP X none none := po_weak po_none fun _ _ _ q => q
theorem cp_int {i : Int} {j : Nat} {q : Pos} : CP X (some (.Constant (.int i) j q)) (some i) := po_weak (po_some pe_int) fun _ _ _ q => ⟨i, rfl, q⟩
theorem je_sliceB {lo hi : Option Expr} {l u : Option Int} {g : Ev D} (ha : JB T X W a g) (hl : CP X lo l) (hh : CP X hi u) : JE T X W (.Subscript a (.Slice lo hi none p2) pos) (mCall1 (fun d => slD d l u) g) := fun ρ => by
  have h1 := ha ρ
  unfold mCall1
  cases q1 : g ρ with
  | stuck => exact pe_no
  | ex c ds ρ1 => rw [q1] at h1; exact pe_weak (pe_slice sl_any h1 po_no po_no) fun σ H Q h => h
  | ok x ρ1 =>
    rw [q1] at h1
    simp only [R.bind_ok]
    cases q4 : slD x l u with
    | none => exact pe_no
    | some z => exact pe_weak (pe_slice sl_any h1 hl hh) fun σ H Q ⟨F, Z, L, r, k⟩ => ⟨F, Z, L, r, fun v F1 H1 e1 r1 p1 => slv_any q4 r1.exF p1 fun w F4 H4 g p4 => k w F4 H4 (e1.trans g.1) (g.2 _ _ _ _ r1) p4⟩
/-! ### o.m(k = v) -/
/-- a method called by the name of its one argument -/
structure CalMK (P : Program) (w : World) (K : PySem.W.Frag) (mg : Str → Option Value) (base : Heap) (T : Txt) (k : Nat) (c : Nat) (m : Str) (G : Fn) (ps : List Str) (kx : Str) : Prop where
  ex : ∃ f fd, FnG P w K mg base k f fd ps (spG K T G ps.length) ∧ Meth K (T.cl c) m f ∧ ∀ (s : Shared) (u v : Value), K.In s.heap → BindsTo s fd ⟨[u], [(kx, v)]⟩ (ps.zip [u, v])
def mMethK (G : Fn) (c n : Nat) (ga gv : Ev D) : Ev Res := fun ρ => (ga ρ).bind fun d ρ1 => match d with
  | .ins c' _ => if c' = c then (gv ρ1).bind fun y ρ2 => callR G n [AR.v d, AR.v y] ρ2 else .stuck
  | _ => .stuck
def tMethK (C : Addr) (m : Str) (sp : Sp) (W : WX) (ta te : TE) : TE := fun σ H Q => ta σ H fun v H1 => ∃ a dx fs, v = .ref a ∧ H1 a = some (.ins C dx fs) ∧ fs.lookup m = none ∧ te σ H1 fun y H2 => sp [v, y] H2 Q (WE W σ)
theorem pe_methK {pl : Sem Bool} {C f : Addr} {fd : FuncData} {sp : Sp} {ta te : TE} (he : PE X o ta) (c : Cls X.K C) (hm : Meth X.K C m f) (hG : FnG X.prog X.w X.K X.mg X.base k f fd ps sp) (hA : X.A.guards = some []) (hr : Room k X.A)
    (hb : ∀ (s : Shared) (u v : Value), X.K.In s.heap → BindsTo s fd ⟨[u], [(kx, v)]⟩ (ps.zip [u, v])) (tk : Takes X W) (hv : PE X e te)
    (ht : eval (.Call (.Attribute o m apos) [] [⟨some kx, e, kpos⟩] pos) X.env = (do
      let ov ← eval o X.env
      standAt apos.atName
      let (g, first) ← holding [ov] (getMethod ov m pl)
      callWith pos g first (backTo pos (starEach [] X.env)) (backToKw pos (keywordEach [⟨some kx, e, kpos⟩] X.env))))
    (hall : (backToKw pos (keywordEach [⟨some kx, e, kpos⟩] X.env)).all (·.1.isSome) = true) (hks : (backToKw pos (keywordEach [⟨some kx, e, kpos⟩] X.env)).filterMap (·.1) = [kx])
    (hpl : ((backTo pos (starEach [] X.env)).any (·.1) || (backToKw pos (keywordEach [⟨some kx, e, kpos⟩] X.env)).any (·.1.isNone)) = false) :
    PE X (.Call (.Attribute o m apos) [] [⟨some kx, e, kpos⟩] pos) (tMethK C m sp W ta te) := by
  constructor
  intro pins s σ H Q I h
  refine PySem.W.methodCall_KW (pl := pl) (thn (he.run pins s σ H _ I h) ?_) ht
  rintro u s1 ⟨x, H1, I1, rx, a, dx, fs, rfl, ea, l, q⟩
  cases (show u = Value.ref a from rx)
  refine getmeth_ok I1 ea c hm l ?_
  have kw : PK X [⟨some kx, e, kpos⟩] (tCons te tNil) := pk_cons hv pk_nil
  refine PySem.W.callWith_KW0 (first := [.ref a]) (h₀ := X.base) I.ok.mod.kin hm.kp hall (thn (kw.run pos pins s1 σ H1 (fun vs H2 => match vs with
    | [y] => sp [.ref a, y] H2 Q (WE W σ)
    | _ => False) I1 q) ?_) hpl
  rintro ws s2 ⟨vs, H2, I2, r, q2⟩
  refine ⟨I2.kIn, ?_⟩
  rw [hks]
  cases r with
  | nil => exact q2.elim
  | @cons y z ys zs r4 r5 =>
    cases r5 with
    | cons _ _ => exact q2.elim
    | nil =>
      have q3 : sp [.ref a, y] H2 Q (WE W σ) := q2
      refine wpAny_call (codeAny_mono (hG.run (args := ⟨[.ref a], [(kx, z)]⟩) (us := [.ref a, z]) (vs := [.ref a, y]) hA hr I2.env0 (hb s2 (.ref a) z I2.kIn) (.cons rfl (.cons r4 .nil)) q3) ?_)
      intro res s3 hz
      cases res with
      | error u => exact passAt tk σ pins H2 s2 u s3 I2 hz
      | ok fl =>
        cases fl with
        | ret u => exact I2.after hz
        | next => exact hz.elim
        | brk => exact hz.elim
        | cont => exact hz.elim
theorem jr_metK {pl : Sem Bool} {ga gv : Ev D} (C : ClsF X.K T c) (h : CalMK X.prog X.w X.K X.mg X.base T k c m G ps kx) (hA : X.A.guards = some []) (hr : Room k X.A) (tk : Takes X W) (hm : m ∉ T.fl c) (ho : JE T X W o ga) (hv : JE T X W e gv) (hn : ps.length = n := by rfl)
    (ht : eval (.Call (.Attribute o m apos) [] [⟨some kx, e, kpos⟩] pos) X.env = (do
      let ov ← eval o X.env
      standAt apos.atName
      let (g, first) ← holding [ov] (getMethod ov m pl)
      callWith pos g first (backTo pos (starEach [] X.env)) (backToKw pos (keywordEach [⟨some kx, e, kpos⟩] X.env))) := by rfl)
    (hall : (backToKw pos (keywordEach [⟨some kx, e, kpos⟩] X.env)).all (·.1.isSome) = true := by rfl) (hks : (backToKw pos (keywordEach [⟨some kx, e, kpos⟩] X.env)).filterMap (·.1) = [kx] := by rfl)
    (hpl : ((backTo pos (starEach [] X.env)).any (·.1) || (backToKw pos (keywordEach [⟨some kx, e, kpos⟩] X.env)).any (·.1.isNone)) = false := by rfl) :
    JR T X W (.Call (.Attribute o m apos) [] [⟨some kx, e, kpos⟩] pos) (mMethK G c n ga gv) := fun ρ => by
  subst hn
  obtain ⟨f, fd, hG, hM, hb⟩ := h.ex
  have rule : ∀ ta te, PE X o ta → PE X e te → PE X (.Call (.Attribute o m apos) [] [⟨some kx, e, kpos⟩] pos) (tMethK (T.cl c) m (spG X.K T G ps.length) W ta te) := fun ta te h1 h2 => pe_methK h1 C.cls hM hG hA hr hb tk h2 ht hall hks hpl
  have p1 := ho ρ
  unfold mMethK
  cases q1 : ga ρ with
  | stuck => exact pe_no
  | ex c ds ρ1 => rw [q1] at p1; exact pe_weak (rule _ _ p1 pe_no) fun σ H Q q => q
  | ok d ρ1 =>
    rw [q1] at p1
    have p2 := hv ρ1
    simp only [R.bind_ok]
    cases d with
    | ins c' xs =>
      dsimp only
      by_cases hc : c' = c
      · subst hc
        rw [if_pos rfl]
        have self : ∀ {F H : Hp} {v : V}, Ex F H → Rep X.K T F (.ins c' xs) v → ∃ a dx fs, v = .ref a ∧ H a = some (.ins (T.cl c') dx fs) ∧ fs.lookup m = none := fun {F H v} e r => by
          obtain ⟨q, dx, vs, rfl, h1, h2, rr⟩ := r
          exact ⟨q, dx, _, rfl, e _ _ h1, zip_none hm⟩
        cases q2 : gv ρ1 with
        | stuck => exact pe_no
        | ex c ds ρ2 =>
          rw [q2] at p2
          refine pe_weak (rule _ _ p1 p2) fun σ H Q ⟨F, Z, L, r, k⟩ => ⟨F, Z, L, r, fun v F1 H1 e1 r1 x1 => ?_⟩
          obtain ⟨q, dx, fs, h1, h2, h3⟩ := self r1.exF x1
          exact ⟨q, dx, fs, h1, h2, h3, F1, Z, L, r1, fun cls dd F2 H2 e2 r2 x2 => k cls dd F2 H2 (e1.trans e2) r2 x2⟩
        | ok y ρ2 =>
          rw [q2] at p2
          simp only [R.bind_ok]
          have av : ∀ {σ : L2.St} {F1 : Hp} {v w : V}, Rep X.K T F1 (.ins c' xs) v → Rep X.K T F1 y w → ARs X.K T F1 σ [AR.v (.ins c' xs), AR.v y] [v, w] := fun {σ F1 v w} x1 x2 => ⟨v, _, rfl, x1, w, _, rfl, x2, rfl⟩
          cases q3 : callR G ps.length [AR.v (.ins c' xs), AR.v y] ρ2 with
          | stuck => exact pe_no
          | ex c ds ρ3 =>
            refine pe_weak (rule _ _ p1 p2) fun σ H Q ⟨F, Z, L, r, k⟩ => ⟨F, Z, L, r, fun v F1 H1 e1 r1 x1 => ?_⟩
            obtain ⟨q, dx, fs, h1, h2, h3⟩ := self r1.exF x1
            exact ⟨q, dx, fs, h1, h2, h3, F1, Z, L, r1, fun w F2 H2 e2 r2 x2 => call_mid q3 r2 (av (x1.mono e2) x2) fun cls dd F' H' e' r' px => k cls dd F' H' ((e1.trans e2).trans e') r' px⟩
          | ok rr ρ3 =>
            cases rr with
            | ok d =>
              refine pe_weak (rule _ _ p1 p2) fun σ H Q ⟨F, Z, L, r, k⟩ => ⟨F, Z, L, r, fun v F1 H1 e1 r1 x1 => ?_⟩
              obtain ⟨q, dx, fs, h1, h2, h3⟩ := self r1.exF x1
              exact ⟨q, dx, fs, h1, h2, h3, F1, Z, L, r1, fun w F2 H2 e2 r2 x2 => call_mid q3 r2 (av (x1.mono e2) x2) fun w2 F' H' e' r' px => k w2 F' H' ((e1.trans e2).trans e') r' px⟩
            | nw m' =>
              refine pe_weak (rule _ _ p1 p2) fun σ H Q ⟨F, Z, L, r, k⟩ => ⟨F, Z, L, r, fun v F1 H1 e1 r1 x1 => ?_⟩
              obtain ⟨q, dx, fs, h1, h2, h3⟩ := self r1.exF x1
              exact ⟨q, dx, fs, h1, h2, h3, F1, Z, L, r1, fun w F2 H2 e2 r2 x2 => call_mid q3 r2 (av (x1.mono e2) x2) fun a o F' H' e' hz r' px => k a o F' H' ((e1.trans e2).trans e') hz r' px⟩
            | ex c ds => exact pe_no
      · rw [if_neg hc]; exact pe_no
    | _ => exact pe_no
end
end VS
/-! The head seen with the table of statics, where a class is asked for what it hands out. -/
namespace VS
open PySem L2 He
structure SaysY (fa : List Fa) (fn : List DefD) (ex : PySem.W.Frag → Bool) (w : World) (K : PySem.W.Frag) : Prop where
  t : SaysT fa fn [] w K
  more : ex K = true
/-- the objects looked at: what the names reach, and the statics -/
def partY (g : Addr → Option Obj) (n : Nat) : PySem.W.Frag := frT g (cStatics :: asD g n)
def obsY (n : Nat) (fa : List Fa) (fn : List DefD) (ex : PySem.W.Frag → Bool) (g : Addr → Option Obj) : AlX := (obsT fa fn [] (partY g n), ex (partY g n))
def hookY (n : Nat) (fa : List Fa) (fn : List DefD) (ex : PySem.W.Frag → Bool) : PySem.W.Hook where
  α := AlX
  obs := fun st => obsY n fa fn ex st.heap.get?
  val := fun w => valX fn [] w
  says := fun w h => ∃ K : PySem.W.Frag, K.In h ∧ SaysY fa fn ex w K
  of := fun _ _ e => ⟨_, frT_in, congrArg Prod.fst e, congrArg Prod.snd e⟩
  keeps := fun _ _ _ ⟨K, inK, c⟩ k => ⟨K, PySem.W.Frag.In.keeps inK k, c⟩
theorem obsY_eq {n : Nat} {fa : List Fa} {fn : List DefD} {ex : PySem.W.Frag → Bool} {g : Addr → Option Obj} {st : Shared} (h : ∀ a, g a = st.heap.get? a) : obsY n fa fn ex g = (hookY n fa fn ex).obs st := by
  cases (funext h : g = st.heap.get?)
  rfl
end VS
set_option maxHeartbeats 2000000
/-! Refusals without a field, refusals whose text tells the field (a number or None); list.count and list.index of truths; str.upper; isinstance of built-in classes of refusals. -/
namespace VS
open PySem L2 PySem.Spec PyProof.Rows
/-! ### raise C("..") -/
structure CalX0 (K : PySem.W.Frag) (mg : Str → Option Value) (T : Txt) (x : Str) (c : Nat) : Prop where
  ex : mg x = some (.ref (T.cl c)) ∧ PySem.W.excIn K (T.cl c) He.veBase "ValueError.__new__" = true ∧ PySem.W.keepIn K (.ref (T.cl c)) = true ∧ PySem.W.subIn K (.ref (T.cl c)) (.type "BaseException") = some true ∧ PySem.W.typeIn K (.ref (T.cl c)) = some (.type "type")
def mRaise0 (c : Nat) : VEnv → RS := fun ρ => .ex c [] ρ
section
variable {T : Txt} {X : Cx} {W : WX} {a o e : Expr} {x f m : Str} {c k j : Nat} {p p2 pos pos' apos : Pos}
theorem js_raise0 (h : CalX0 X.K X.mg T x c) (calm : X.calm = true) (tk : Takes X W) (hg : Gl X x := by rfl) (hdb : (x == ("__debug__" : Str)) = false := by decide) :
    JS T X W (.Raise (some (.Call (.Name x p) [.Constant (.str m) j p2] [] pos)) none pos') (mRaise0 c) := fun ρ => by
  obtain ⟨h1, h2, h3, h4, h5⟩ := h.ex
  exact ps_weak (ps_raise calm tk (pmk_own F.excBase_ValueError h2 h1 h3 (raises_own h4 h5) hg hdb)) fun N σ H ⟨F, Z, L, r, k⟩ => k (.ref (T.cl c)) none σ F H (Ex.refl F) r ⟨rfl, [], nofun, fun _ => rfl, rfl⟩
/-! ### {x} of a number or None -/
def tFmtN (te : TE) : TE := fun σ H Q => te σ H fun y G => (y = .non ∧ Q (.str "None") G) ∨ ∃ i : Int, y = .int i ∧ i.natAbs.log2 < 1920 ∧ Q (.str (toString i)) G
theorem pe_fmtN {te : TE} (he : PE X e te) : PE X (.FormattedValue e (-1) none pos) (tFmtN te) := by
  constructor
  intro pins st σ H Q I h
  refine wpAny_FormattedValue_plain (thn (he.run pins st σ H _ I h) ?_)
  rintro v s1 ⟨y, G, J, rel, ⟨rfl, q⟩ | ⟨i, rfl, hz, q⟩⟩
  · cases rel
    exact wpAny_formatField_none ⟨.str "None", G, J.tok _, ⟨_, rfl⟩, q⟩
  · obtain ⟨t, rfl⟩ := rel
    exact wpAny_formatField_int hz ⟨.str (toString i), G, J.tok _, ⟨_, rfl⟩, q⟩
/-- what can be told in a refusal's text -/
def NumV (y : V) : Prop := y = .non ∨ ∃ i : Int, y = .int i ∧ i.natAbs < 1000000000
def spIF (C : Addr) (f : Str) : Sp := fun vs H Q E => (∃ y, vs[1]? = some y ∧ NumV y) ∧ spI C f vs H Q E
theorem num_text {i : Int} (h : i.natAbs < 1000000000) : i.natAbs.log2 < 1920 ∧ (toString i : Str).length ≤ 1000 := by
  have h2 : i.natAbs.log2 < 30 := PySem.Flt.log2_lt_of (by decide) (Nat.lt_of_lt_of_le h (by decide))
  refine ⟨by omega, ?_⟩
  have h1 : i.natAbs < 10 ^ 12 := Nat.lt_of_lt_of_le h (by decide)
  have := PyData.shown_int_le h1
  exact Nat.le_trans this (by decide)
theorem init_rowsF {K : PySem.W.Frag} {C : Addr} {f t u : Str} {vs : List V} {H : Hp} {Q : VK} {E : XK} {N : List Str} (isC : OexC K C) (no : PySem.W.findIn K (.ref C) f = some none) (hN : N.length = 2) (ht : t.length ≤ 1000) (hu : u.length ≤ 1000) (h : spIF C f vs H Q E) :
    tSeq (tDrop (tVeI K (tCons (tVar 0) (tCons (fun σ H Q => tJs [tC (.str t), tFmtN (tVar 1), tC (.str u)] Str.empty σ H fun out G => Q (.str out) G) tNil)))) (tSeq (tOst K f (tVar 0) (tVar 1)) tNext) { nx := fun _ G => Q .non G, rt := Q } (L2.start N vs) H := by
  obtain ⟨⟨y', ey, num⟩, a, y, rfl, at_a, go⟩ := h
  have ey2 : y' = y := by simpa using ey.symm
  rw [ey2] at num
  obtain ⟨n0, n1, rfl⟩ : ∃ n0 n1, N = [n0, n1] := by
    match N, hN with
    | [n0, n1], _ => exact ⟨n0, n1, rfl⟩
  have len : ∀ a b : Str, (a ++ b).length = a.length + b.length := fun a b => by
    show (a.cps ++ b.cps).size = a.cps.size + b.cps.size
    rw [Array.size_append]
  have z0 : (Str.empty : Str).length = 0 := rfl
  have fin : ∀ w : Str, w.length ≤ 1000 → ∃ y1 : Str, V.str t = .str y1 ∧ (Str.empty ++ y1).length ≤ sizeLine ∧ ∃ y2 : Str, V.str w = .str y2 ∧ (Str.empty ++ y1 ++ y2).length ≤ sizeLine ∧ ∃ y3 : Str, V.str u = .str y3 ∧ (Str.empty ++ y1 ++ y2 ++ y3).length ≤ sizeLine := fun w hw => by
    have : sizeLine ≥ 100000 := by decide
    exact ⟨t, rfl, by rw [len, z0]; omega, w, rfl, by rw [len, len, z0]; omega, u, rfl, by rw [len, len, len, z0]; omega⟩
  have rest : ∀ out : Str, tVeI K (fun σ H Q => Q [V.ref a, .str out] H) (L2.start [n0, n1] [.ref a, y]) H fun _ G => tSeq (tOst K f (tVar 0) (tVar 1)) tNext { nx := fun _ G => Q .non G, rt := Q } (L2.start [n0, n1] [.ref a, y]) G := fun out =>
    ⟨a, C, [.str out], rfl, by simp, isC, at_a, y, rfl, .ref a, rfl, a, C, rfl, isC, no, .inl ⟨at_a, fun dx n ne => go dx n ne⟩⟩
  refine ⟨.ref a, rfl, ?_⟩
  rcases num with rfl | ⟨i, rfl, hi⟩
  · obtain ⟨y1, e1, l1, y2, e2, l2, y3, e3, l3⟩ := fin "None" (by decide)
    exact ⟨y1, e1, l1, .non, rfl, .inl ⟨rfl, y2, e2, l2, y3, e3, l3, rest _⟩⟩
  · obtain ⟨hz, hl⟩ := num_text hi
    obtain ⟨y1, e1, l1, y2, e2, l2, y3, e3, l3⟩ := fin (toString i) hl
    exact ⟨y1, e1, l1, .int i, rfl, .inr ⟨i, rfl, hz, y2, e2, l2, y3, e3, l3, rest _⟩⟩
structure CalXF (P : Program) (w : World) (K : PySem.W.Frag) (mg : Str → Option Value) (base : Heap) (T : Txt) (k : Nat) (x : Str) (c : Nat) (f : Str) : Prop where
  ex : ∃ g fd ps, FnOk P w K mg base CX0 k g fd ps (spIF (T.cl c) f) ∧ mg x = some (.ref (T.cl c)) ∧ OexC K (T.cl c) ∧ PySem.W.findIn K (.ref (T.cl c)) "__init__" = some (some (.ref g)) ∧ PySem.W.typeIn K (.ref g) = some (.type "function") ∧ Binds K fd ps [] ∧ T.fl c = [f]
/-- a number or None -/
def numD : D → Bool
  | .non => true
  | .int i => decide (i.natAbs < 1000000000)
  | _ => false
def mRaiseF (c : Nat) (g : Ev D) : VEnv → RS := fun ρ => match g ρ with
  | .ok d ρ1 => if numD d = true then .ex c [d] ρ1 else .stuck
  | .ex c' ds ρ1 => .ex c' ds ρ1
  | .stuck => .stuck
theorem js_raiseF {g : Ev D} (h : CalXF X.prog X.w X.K X.mg X.base T k x c f) (calm : X.calm = true) (hr : Room (k + 1) X.A) (tk : Takes X W) (ha : JE T X W a g) (hg : Gl X x := by rfl) (hdb : (x == ("__debug__" : Str)) = false := by decide)
    (h1 : starEach [a] X.env = (false, eval a X.env) :: starEach [] X.env := by rfl) (h2 : (backTo pos (starEach [] X.env)).any (·.1) = false := by rfl) : JS T X W (.Raise (some (.Call (.Name x p) [a] [] pos)) none pos') (mRaiseF c g) := fun ρ => by
  obtain ⟨q, fd, ps, hF, hm, isC, at_i, fn_i, hb, fl⟩ := h.ex
  have made : ∀ ta, PE X a ta → PS X (.Raise (some (.Call (.Name x p) [a] [] pos)) none pos') (fun _ σ H => tMkO (T.cl c) (spIF (T.cl c) f) [] (tCons ta tNil) σ H fun cls d H' => W cls d σ H') :=
    fun ta h => ps_raise calm tk (pmk_oex isC at_i fn_i hF hr hb .nil pass0 hg hm (pa_cons h pa_nil h1) hdb h1 h2)
  have p1 := ha ρ
  unfold mRaiseF
  cases q1 : g ρ with
  | stuck => exact ⟨fun _ _ _ _ _ _ ⟨_, _, _, _, z⟩ => z.elim⟩
  | ex c' ds ρ1 =>
    rw [q1] at p1
    exact ps_weak (made _ p1) fun N σ H ⟨F, Z, L, r, k⟩ => ⟨F, Z, L, r, fun cls dd F' H' e r' x' => k cls dd σ F' H' e r' x'⟩
  | ok d ρ1 =>
    rw [q1] at p1
    dsimp only
    by_cases nd : numD d = true
    · rw [if_pos nd]
      refine ps_weak (made _ p1) fun N σ H ⟨F, Z, L, r, kk⟩ => ⟨F, Z, L, r, fun v F1 H1 e1 r1 rp => ⟨by simp, fun b nb => ⟨⟨v, rfl, ?_⟩, ?_⟩⟩⟩
      · cases d with
        | non => exact .inl rp
        | int i => exact .inr ⟨i, rp, of_decide_eq_true nd⟩
        | _ => cases nd
      · refine ⟨b, v, rfl, upd_same, fun dx n ne => ⟨rfl, dx, [(f, v)], upd_same, by rw [upd_ne ne, upd_same], ?_, ?_⟩⟩
        · rw [upd_ne ne] at n; exact n
        · rw [upd_ne ne] at n
          have same : upd (del (upd (upd (upd H1 b (exo b (T.cl c) none)) dx (exd dx [(f, v)])) b (exo b (T.cl c) (some dx))) b) dx (.xd [(f, v)]) = upd H1 dx (.xd [(f, v)]) := by
            funext z
            by_cases h3 : z = dx
            · rw [h3, upd_same, upd_same]
            · rw [upd_ne h3, upd_ne h3]
              by_cases h4 : z = b
              · rw [h4, del_same, nb]
              · rw [del_ne h4, upd_ne h4, upd_ne h3, upd_ne h4]
          rw [same]
          refine kk (.ref (T.cl c)) (some dx) σ _ _ (e1.trans (Ex.new (r1.exF.none n))) (r1.new n) ⟨rfl, [v], fun d' ed => ?_, nofun, .cons (rp.mono (Ex.new (r1.exF.none n))) .nil⟩
          cases ed
          rw [upd_same, fl]; rfl
    · rw [if_neg nd]
      exact ⟨fun _ _ _ _ _ _ ⟨_, _, _, _, z⟩ => z.elim⟩
/-! ### upper -/
def upperD : D → Option D
  | .str z => if z.length ≤ 1000 then some (.str (Txt.upper z)) else none
  | _ => none
theorem je_upper {g : Ev D} (ho : JE T X W o g) (hbase : attributeBase o "upper" X.env (eval o X.env) = eval o X.env := by rfl) (hline : (apos.endLine == pos.line) = true := by rfl) : JE T X W (.Call (.Attribute o "upper" apos) [] [] pos) (mCall1 upperD g) := fun ρ => by
  have p1 := ho ρ
  unfold mCall1
  cases q1 : g ρ with
  | stuck => exact pe_no
  | ex c ds ρ1 => rw [q1] at p1; exact pe_weak (pe_upper p1 hbase hline) fun σ H Q q => q
  | ok d ρ1 =>
    rw [q1] at p1
    simp only [R.bind_ok]
    cases q2 : upperD d with
    | none => exact pe_no
    | some z =>
      cases d with
      | str y =>
        simp only [upperD] at q2
        split at q2
        · next hl =>
          cases q2
          refine pe_weak (pe_upper p1 hbase hline) fun σ H Q ⟨F, Z, L, r, k⟩ => ⟨F, Z, L, r, fun v F1 H1 e1 r1 x1 => ?_⟩
          cases (show v = V.str y from x1)
          exact ⟨⟨y, rfl⟩, y, rfl, rfl, by omega, k _ F1 H1 e1 r1 rfl⟩
        · cases q2
      | _ => simp [upperD] at q2
/-! ### xs.count(y), xs.index(y) of truths -/
def isLstR (g : Ev D) : Ev D := fun ρ => (g ρ).bind fun d ρ1 => match d with
  | .lst xs => .ok (.lst xs) ρ1
  | _ => .stuck
def LmV (K : PySem.W.Frag) (T : Txt) (r : V → List V → Hp → VK → Prop) (f : D → D → Option D) : Prop :=
  ∀ xs y z, f (.lst xs) y = some z → ∀ (F H : Hp) (q : Addr) (vs : List V) (w : V) (Q : VK), Ex F H → F q = some (.lst vs) → Reps K T F xs vs → Rep K T F y w → (∀ u F' H', Grow K T F H F' H' → Rep K T F' z u → Q u H') → r (.ref q) [w] H Q
theorem je_lm {b : Expr} {name : Str} {id : String} {r : V → List V → Hp → VK → Prop} {f : D → D → Option D} {ga gb : Ev D} (slot : Slot "list" name id) (ty : typeOf (.builtin id) = pure (.type "method_descriptor")) (hm : MtR X id r) (hr : LmV X.K T r f) (ha : JE T X W a ga) (hb : JE T X W b gb)
    (hbase : attributeBase a name X.env (eval a X.env) = eval a X.env := by rfl)
    (hfew : ((backTo pos (starEach [b] X.env)).all (fun x => !x.1) && (backToKw pos (keywordEach [] X.env)).all (fun x => x.1.isSome) && decide (([b] : List Expr).length + ([] : List Keyword).length + (if ([] : List Keyword).isEmpty then 0 else 1) < 30)) = true := by rfl)
    (hline : (apos.endLine == pos.line) = true := by rfl) (hs : starEach [b] X.env = (false, eval b X.env) :: starEach [] X.env := by rfl) (hpl : (backTo pos (starEach [] X.env)).any (·.1) = false := by rfl) :
    JE T X W (.Call (.Attribute a name apos) [b] [] pos) (mOp f (isLstR ga) gb) := fun ρ => by
  have rule : ∀ ta tb, PE X a ta → PE X b tb → PE X (.Call (.Attribute a name apos) [b] [] pos) (tBM X.K "list" r ta (tCons tb tNil)) := fun ta tb h1 h2 => pe_bm F.plainAttrs_list slot ty hm h1 (pa_cons h2 pa_nil hs) hbase hfew hline hs hpl
  have p1 := ha ρ
  unfold mOp isLstR
  cases q1 : ga ρ with
  | stuck => exact pe_no
  | ex c ds ρ1 => rw [q1] at p1; exact pe_weak (rule _ _ p1 pe_no) fun σ H Q q => q
  | ok x ρ1 =>
    rw [q1] at p1
    simp only [R.bind_ok]
    cases x with
    | lst xs =>
      simp only [R.bind_ok]
      have p2 := hb ρ1
      cases q2 : gb ρ1 with
      | stuck => exact pe_no
      | ex c ds ρ2 =>
        rw [q2] at p2
        refine pe_weak (rule _ _ p1 p2) fun σ H Q ⟨F, Z, L, r, k⟩ => ⟨F, Z, L, r, fun v F1 H1 e1 r1 x1 => ?_⟩
        obtain ⟨q, vs, rfl, h1, h2⟩ := x1
        exact ⟨.inl ⟨rfl, vs, SqL.of (r1.exF _ _ h1)⟩, F1, Z, L, r1, fun cls dd F2 H2 e2 r2 x2 => k cls dd F2 H2 (e1.trans e2) r2 x2⟩
      | ok y ρ2 =>
        rw [q2] at p2
        simp only [R.bind_ok]
        cases q3 : f (.lst xs) y with
        | none => exact pe_no
        | some z =>
          refine pe_weak (rule _ _ p1 p2) fun σ H Q ⟨F, Z, L, r, k⟩ => ⟨F, Z, L, r, fun v F1 H1 e1 r1 x1 => ?_⟩
          obtain ⟨q, vs, rfl, h1, h2⟩ := x1
          exact ⟨.inl ⟨rfl, vs, SqL.of (r1.exF _ _ h1)⟩, F1, Z, L, r1, fun w F2 H2 e2 r2 x2 => hr xs y z q3 F2 H2 q vs w Q r2.exF (e2 _ _ h1) (h2.mono e2) x2 fun u F3 H3 g p3 => k u F3 H3 ((e1.trans e2).trans g.1) (g.2 _ _ _ _ r2) p3⟩
    | _ => exact pe_no
theorem bls_reps {K : PySem.W.Frag} {F : Hp} : ∀ {xs : List D} {bs : List Bool} {vs : List V}, blsOf xs = some bs → Reps K T F xs vs → vs = bs.map V.bl
  | [], bs, vs, h, r => by
    simp only [blsOf] at h
    cases h
    exact r
  | d :: xs, bs, vs, h, r => by
    obtain ⟨v, ws, rfl, h1, h2⟩ := r
    cases d with
    | bl b =>
      simp only [blsOf] at h
      cases q : blsOf xs with
      | none => rw [q] at h; cases h
      | some cs =>
        rw [q] at h
        cases h
        rw [bls_reps q h2, show v = _ from h1]
        rfl
    | _ => simp [blsOf] at h
def rCntB (K : PySem.W.Frag) : V → List V → Hp → VK → Prop := fun x xs H Q => ∃ (q : Addr) (bs : List Bool) (b : Bool), x = .ref q ∧ xs = [.bl b] ∧ SqL K H q (bs.map V.bl) ∧ Q (.int (bs.count b : Nat)) H
theorem mt_cntB (hr : Room k X.A) : MtR X "list.count" (rCntB X.K) := by
  rintro pins st σ H _ _ v us Q I rx rxs ⟨q, bs, b, rfl, rfl, at_q, want⟩
  cases rx
  cases rxs with
  | @cons _ u _ us' r1 r2 =>
    cases r2
    cases r1
    obtain ⟨its, rel, ls, _⟩ := I.list at_q
    have reads : ∀ {bs : List Bool} {us : List Value}, Vals (bs.map V.bl) us → ReadsAll st.heap us (bs.map PyData.bool) [] := by
      intro bs
      induction bs with
      | nil => intro us r; cases r; exact .nil
      | cons c bs ih =>
        intro us r
        cases r with
        | cons r1 r2 => cases r1; exact .cons (.bool c) (ih r2)
    have flat : ∀ bs : List Bool, PyData.plainAll (bs.map PyData.bool) = true := by
      intro bs
      induction bs with
      | nil => rfl
      | cons c bs ih => simp only [List.map_cons, PyData.plainAll, PyData.plain, ih, Bool.and_self]
    have room := hr.un
    have cnt : (bs.map PyData.bool).countP (fun y => PyData.eqv y (.bool b)) = bs.count b := by
      rw [List.countP_map, List.count]
      congr 1
    refine SeqAt.count_list_data (d := .bool b) ls.isList (reads rel) (.bool b) (flat bs) rfl ?_ ⟨.int (bs.count b : Nat), H, I.tok _, ⟨st.toks, by rw [cnt]⟩, want⟩
    · have : min (PyData.depthAll (bs.map PyData.bool)) (PyData.bool b).depth = 0 := Nat.min_eq_right (Nat.zero_le _)
      omega
def cntB (x y : D) : Option D := match x, y with
  | .lst xs, .bl b => (blsOf xs).map fun bs => .int (bs.count b : Nat)
  | _, _ => none
def idxB (x y : D) : Option D := match x, y with
  | .lst xs, .bl b => (blsOf xs).bind fun bs => (bs.findIdx? (· == b)).map fun i => .int (i : Nat)
  | _, _ => none
theorem lm_cntB {K : PySem.W.Frag} : LmV K T (rCntB K) cntB := by
  intro xs y z h F H q vs w Q e h1 h2 h3 k
  cases y with
  | bl b =>
    simp only [cntB] at h
    cases g : blsOf xs with
    | none => rw [g] at h; cases h
    | some bs =>
      rw [g] at h
      cases h
      have := bls_reps g h2
      subst this
      exact ⟨q, bs, b, rfl, by rw [show w = _ from h3], SqL.of (e _ _ h1), k _ F H .refl rfl⟩
  | _ => simp [cntB] at h
theorem lm_idxB {K : PySem.W.Frag} : LmV K T (rIndex K) idxB := by
  intro xs y z h F H q vs w Q e h1 h2 h3 k
  cases y with
  | bl b =>
    simp only [idxB] at h
    cases g : blsOf xs with
    | none => rw [g] at h; cases h
    | some bs =>
      rw [g, Option.bind_some] at h
      cases g2 : bs.findIdx? (· == b) with
      | none => rw [g2] at h; cases h
      | some i =>
        rw [g2] at h
        cases h
        have := bls_reps g h2
        subst this
        obtain ⟨hi, e1, e2⟩ := List.findIdx?_eq_some_iff_getElem.mp g2
        refine ⟨q, bs.map V.bl, .bl b, i, .bl bs[i], rfl, by rw [show w = _ from h3], SqL.of (e _ _ h1), rfl, ?_, by simp [hi], e1, fun m z' hm hz => ?_, k _ F H .refl rfl⟩
        · rw [List.all_eq_true]
          intro v hv
          obtain ⟨c, _, rfl⟩ := List.mem_map.mp hv
          rfl
        · have hm2 : m < bs.length := by omega
          have := e2 m hm
          rw [List.getElem?_map, List.getElem?_eq_getElem hm2] at hz
          cases hz
          simpa [eqV] using this
  | _ => simp [idxB] at h
theorem je_cntB {b : Expr} {ga gb : Ev D} (hr : Room k X.A) (ha : JE T X W a ga) (hb : JE T X W b gb) (hbase : attributeBase a "count" X.env (eval a X.env) = eval a X.env := by rfl)
    (hfew : ((backTo pos (starEach [b] X.env)).all (fun x => !x.1) && (backToKw pos (keywordEach [] X.env)).all (fun x => x.1.isSome) && decide (([b] : List Expr).length + ([] : List Keyword).length + (if ([] : List Keyword).isEmpty then 0 else 1) < 30)) = true := by rfl)
    (hline : (apos.endLine == pos.line) = true := by rfl) (hs : starEach [b] X.env = (false, eval b X.env) :: starEach [] X.env := by rfl) (hpl : (backTo pos (starEach [] X.env)).any (·.1) = false := by rfl) :
    JE T X W (.Call (.Attribute a "count" apos) [b] [] pos) (mOp cntB (isLstR ga) gb) := je_lm PySem.F.slot_list_count PySem.F.type_list_count (mt_cntB hr) lm_cntB ha hb hbase hfew hline hs hpl
theorem je_idxB {b : Expr} {ga gb : Ev D} (ha : JE T X W a ga) (hb : JE T X W b gb) (hbase : attributeBase a "index" X.env (eval a X.env) = eval a X.env := by rfl)
    (hfew : ((backTo pos (starEach [b] X.env)).all (fun x => !x.1) && (backToKw pos (keywordEach [] X.env)).all (fun x => x.1.isSome) && decide (([b] : List Expr).length + ([] : List Keyword).length + (if ([] : List Keyword).isEmpty then 0 else 1) < 30)) = true := by rfl)
    (hline : (apos.endLine == pos.line) = true := by rfl) (hs : starEach [b] X.env = (false, eval b X.env) :: starEach [] X.env := by rfl) (hpl : (backTo pos (starEach [] X.env)).any (·.1) = false := by rfl) :
    JE T X W (.Call (.Attribute a "index" apos) [b] [] pos) (mOp idxB (isLstR ga) gb) := je_lm PySem.F.slot_list_index PySem.F.type_list_index mt_index lm_idxB ha hb hbase hfew hline hs hpl
/-! ### isinstance of built-in classes -/
theorem isaV_ty {K : PySem.W.Frag} {n : String} {nos : List String} {tbl : List (Nat × Bool)} (h1 : ∀ t ∈ nos, PySem.W.kitOne K (.type t) (.type n) = some false) (h2 : ∀ q ∈ tbl, PySem.W.kitOne K (.ref (T.cl q.1)) (.type n) = some q.2) : IsaV K T (.ty n) (isaF nos tbl) := by
  refine ⟨⟨.type n, .ty n, fun t b h => ?_⟩⟩
  cases t with
  | inl t =>
    simp only [isaF] at h
    split at h
    · next m => cases h; exact h1 t m
    · cases h
  | inr c => exact h2 _ (lookup_in h)
/-- a tuple of classes, own and built-in -/
theorem isaT_all {K : PySem.W.Frag} {cs : List V} {us : List Value} (hc : Paired ClsV cs us) {nos : List String} {tbl : List (Nat × Bool)} (h1 : ∀ t ∈ nos, PySem.W.kitAny K (.type t) us = some false) (h2 : ∀ q ∈ tbl, PySem.W.kitAny K (.ref (T.cl q.1)) us = some q.2) : IsaT K T cs (isaF nos tbl) := by
  refine ⟨⟨us, hc, fun t b h => ?_⟩⟩
  cases t with
  | inl t =>
    simp only [isaF] at h
    split at h
    · next m => cases h; exact h1 t m
    · cases h
  | inr c => exact h2 _ (lookup_in h)
theorem pa_namesV {b : Expr} {bs : List Expr} {cs : List V} {v : V} (h : PA X bs (fun _ H Q => Q cs H)) (hb : PE X b (tC v)) (hs : starEach (b :: bs) X.env = (false, eval b X.env) :: starEach bs X.env) : PA X (b :: bs) (fun _ H Q => Q (v :: cs) H) :=
  ⟨fun pos pins s σ H Q I q => (pa_cons hb h hs).run pos pins s σ H Q I q⟩
/-! ### () * 2 -/
theorem none_twice (l : Addr) (n : Nat) (dd : Option Addr) (sl : Array (Option Value)) (u : Tok) :
    Meets (Builtin.«tuple.__mul__» ⟨[.ref l, .int 2 u], []⟩) (fun _ R s => s.heap.get? l = some { cls := .type "tuple", dict := dd, data := .seq #[] n, slots := sl } ∧ R (.ok (.ret (Value.ref l))) s) := by
  refine .of_wp fun prog w A R s h => ?_
  obtain ⟨hp, g, d, tk, os⟩ := s
  obtain ⟨at_l, h⟩ := h
  have f1 := AutoSeq1.idx_int
  wp_walk using AutoSeq1.wpAny_loadPart' at_l
  exact ⟨_, rfl, h⟩
def rTwice (K : PySem.W.Frag) : R2 := fun x y H Q => ∃ l, x = .ref l ∧ y = .int 2 ∧ SqT K H l [] ∧ Q (.ref l) H
theorem op_twice : OpR X (binaryOp .Mult) (rTwice X.K) := by
  rintro pins st σ H _ _ v u Q I rx ry ⟨l, rfl, rfl, at_l, want⟩
  cases rx
  obtain ⟨t, rfl⟩ := ry
  obtain ⟨its, rel, ⟨⟨cls, dd, data, sl⟩, ho, hc, n, hd⟩, _⟩ := I.tuple at_l
  cases rel
  cases (show cls = .type "tuple" from hc)
  cases (show data = .seq #[] n from hd)
  refine wpAny_binaryOp_repeat_ref (T := "tuple") (U := "int") (by decide) ⟨_, ho, rfl⟩ (fun s' => typeIs_int s' 2 t) noFill_tuple_mul F.fills_int_mul F.slot_int_rmul repeat_tuple F.slot_int_index.lookup ?_
  refine call_meets F.slot_int_rmul (typeIs_int st 2 t) F.entry_int_rmul (F.args_int_rmul_2 _ _) (int_rmul_tuple 2 t l #[] n dd sl) ⟨ho, rfl, ⟨_, ho, rfl⟩, ?_⟩
  exact call_meets F.slot_tuple_mul ⟨_, ho, rfl⟩ F.entry_tuple_mul (F.args_tuple_mul_2 _ _) (none_twice l n dd sl t) ⟨ho, ⟨.ref l, H, I, rfl, want⟩⟩
def mulG (x y : D) : Option D := match x, y with
  | .tup [], .int k => if k = 2 then some (.tup []) else mulE (.tup []) (.int k)
  | x, y => mulE x y
theorem opv_mulG {K : PySem.W.Frag} : OpV K T (fun x y H Q => rMulE K x y H Q ∨ rTwice K x y H Q) mulG := by
  intro x y z h F H v w Q e rx ry k
  unfold mulG at h
  split at h
  · split at h
    · next hk =>
      cases h
      subst hk
      obtain ⟨q, vs, rfl, h1, h2⟩ := id rx
      cases (show vs = [] from h2)
      exact .inr ⟨q, rfl, ry, e.sqT h1, k _ F H .refl rx⟩
    · exact .inl (opv_mulE _ _ z h F H v w Q e rx ry k)
  · exact .inl (opv_mulE _ _ z h F H v w Q e rx ry k)
theorem je_mulG {b : Expr} {ga gb : Ev D} (ha : JE T X W a ga) (hb : JE T X W b gb) : JE T X W (.BinOp a .Mult b pos) (mOp mulG ga gb) := je_op2 (fun _ _ h1 h2 => pe_op (opr_or op_mulE op_twice) h1 h2) opv_mulG ha hb
end
end VS
set_option maxHeartbeats 2000000
/-! A call that lends a thing made for it alone: f(fresh, ..). -/
namespace VS
open PySem L2 PySem.Spec PyProof.Rows
section
variable {K : PySem.W.Frag} {T : Txt} {F Z H : Hp} {L : Nat → Option Addr} {σ : L2.St} {ρ : VEnv}
/-- what is held is put into a slot of its own -/
theorem Rel.pushZ {a : Addr} {o : HO} {m : MO} (r : Rel K T F (upd Z a o) L σ ρ H) (hz : Z a = none) (x : RepO K T F m o) : Rel K T F Z L (σ ++ [some (.ref a)]) (ρ ++ [some (Sl.own false m)]) H := by
  have at_a : H a = some o := r.exZ a o upd_same
  have noF : F a = none := by
    cases q : F a with
    | none => rfl
    | some u => have := r.dis a u q; rw [upd_same] at this; cases this
  have zz : ∀ {b u}, Z b = some u → upd Z a o b = some u := fun {b u} q => by rw [upd_ne (ne_of_none q hz)]; exact q
  have z0 : ∀ {b}, upd Z a o b = none → b ≠ a ∧ Z b = none := fun {b} q => by
    have ne : b ≠ a := fun e => by rw [e, upd_same] at q; cases q
    rw [upd_ne ne] at q
    exact ⟨ne, q⟩
  have where_ : ∀ {j : Nat} {s : Sl}, (ρ ++ [some (Sl.own false m)])[j]? = some (some s) → (ρ[j]? = some (some s) ∧ (σ ++ [some (V.ref a)])[j]? = σ[j]? ∧ j < ρ.length) ∨ (j = ρ.length ∧ s = Sl.own false m ∧ (σ ++ [some (V.ref a)])[j]? = some (some (.ref a))) := fun {j s} q => by
    rcases Nat.lt_trichotomy j ρ.length with h | h | h
    · rw [List.getElem?_append_left h] at q
      exact .inl ⟨q, List.getElem?_append_left (by rw [← r.len]; exact h), h⟩
    · subst h
      rw [List.getElem?_append_right (Nat.le_refl _), Nat.sub_self] at q
      refine .inr ⟨rfl, by simpa using q.symm, ?_⟩
      rw [List.getElem?_append_right (by rw [r.len]; exact Nat.le_refl _), r.len, Nat.sub_self]; rfl
    · rw [List.getElem?_eq_none (by simp; omega)] at q
      cases q
  constructor
  · exact r.exF
  · exact fun b u q => r.exZ b u (zz q)
  · exact fun b u q => (z0 (r.dis b u q)).2
  · simp [r.len]
  · intro j d q
    rcases where_ q with ⟨h, e, _⟩ | ⟨_, h, _⟩
    · rw [e]; exact r.val j d h
    · cases h
  · intro j l m' q
    rcases where_ q with ⟨h, e, _⟩ | ⟨_, h, e⟩
    · obtain ⟨b, u, g1, g2, g3, g4, g5⟩ := r.own j l m' h
      exact ⟨b, u, by rw [e]; exact g1, g2, (z0 g3).2, g4, g5⟩
    · cases h
      exact ⟨a, o, e, noF, hz, at_a, x⟩
  · intro j k l m1 l' m2 b q1 q2 q3 q4
    rcases where_ q1 with ⟨h1, e1, b1⟩ | ⟨j1, h1, e1⟩ <;> rcases where_ q2 with ⟨h2, e2, b2⟩ | ⟨j2, h2, e2⟩
    · rw [e1] at q3; rw [e2] at q4
      exact r.sep j k _ _ _ _ b h1 h2 q3 q4
    · obtain ⟨b', u, g1, _, g3, _, _⟩ := r.own j l m1 h1
      rw [e1, g1] at q3; rw [e2] at q4
      cases q3; cases q4
      exact absurd rfl (z0 g3).1
    · obtain ⟨b', u, g1, _, g3, _, _⟩ := r.own k l' m2 h2
      rw [e2, g1] at q4; rw [e1] at q3
      cases q3; cases q4
      exact absurd rfl (z0 g3).1
    · omega
  · intro j b q
    obtain ⟨h1, m', h2⟩ := r.lent j b q
    have hj : j < ρ.length := (List.getElem?_eq_some_iff.mp h2).1
    exact ⟨by rw [List.getElem?_append_left (by rw [← r.len]; exact hj)]; exact h1, m', by rw [List.getElem?_append_left hj]; exact h2⟩
end
def mResT (G : Fn) (n : Nat) (g0 : Ev MO) (gs : Ev (List D)) : Ev Res := fun ρ => (g0 ρ).bind fun m ρ1 => (gs ρ1).bind fun ds ρ2 => if ds.length + 1 = n then (match G (.l m :: ds.map Arg.v) with
  | some (.ok d, [_]) => .ok (.ok d) ρ2
  | some (.nw z, [_]) => .ok (.nw z) ρ2
  | some (.ex c xs, [_]) => .ex c xs ρ2
  | _ => .stuck) else .stuck
section
variable {T : Txt} {X : Cx} {W : WX} {e a : Expr} {es : List Expr} {pos p : Pos} {k n : Nat} {x : Str} {G : Fn} {ps : List Str}
/-- from the arguments on -/
theorem lend_mid {F Z H1 : Hp} {L : Nat → Option Addr} {σ : L2.St} {ρ : VEnv} {q : Addr} {o : HO} {m m' : MO} {ds : List D} {vs : List V} {Q : VK} {rr : Res} (r : Rel X.K T F (upd Z q o) L σ ρ H1) (hz : Z q = none) (xm : RepO X.K T F m o) (xs : Reps X.K T F ds vs) (hn : ds.length + 1 = n)
    (hG : G (.l m :: ds.map Arg.v) = some (rr, [m']))
    (k : match rr with
      | .ok d => ∀ v F' H', Ex F F' → Rel X.K T F' Z L σ ρ H' → Rep X.K T F' d v → Q v H'
      | .nw z => ∀ b u F' H', Ex F F' → Z b = none → Rel X.K T F' (upd Z b u) L σ ρ H' → RepO X.K T F' z u → Q (.ref b) H'
      | .ex c xs => ∀ cls dd F' H', Ex F F' → Rel X.K T F' Z L σ ρ H' → ExR X.K T F' cls dd c xs → W cls dd σ H') : spG X.K T G n (.ref q :: vs) H1 Q (WE W σ) := by
  have rp := r.pushZ hz xm
  have hl : ρ.length = σ.length := r.len
  have here : (ρ ++ [some (Sl.own false m)])[ρ.length]? = some (some (Sl.own false m)) := by rw [List.getElem?_append_right (Nat.le_refl _)]; simp
  have eR : resolve (ρ ++ [some (Sl.own false m)]) (AR.l ρ.length :: ds.map AR.v) = some (.l m :: ds.map Arg.v) := by
    unfold resolve
    rw [here, resolve_vs]
    rfl
  have eP : putBack (ρ ++ [some (Sl.own false m)]) (AR.l ρ.length :: ds.map AR.v) [m'] = ρ ++ [some (Sl.own false m')] := by rw [putBack, setM_last, putBack_vs]
  have hc : (lentIx (AR.l ρ.length :: ds.map AR.v)).Nodup ∧ (AR.l ρ.length :: ds.map AR.v).length = n := by
    rw [lentIx, lentIx_vs]
    exact ⟨by simp, by simpa using hn⟩
  have av : ARs X.K T F (σ ++ [some (V.ref q)]) (AR.l ρ.length :: ds.map AR.v) (.ref q :: vs) := by
    refine ⟨_, vs, rfl, by rw [List.getElem?_append_right (by rw [hl]; exact Nat.le_refl _), hl, Nat.sub_self]; rfl, ?_⟩
    have := ARs.vals (K := X.K) (T := T) (F := F) (σ := σ ++ [some (V.ref q)]) (ars := []) (vs := []) rfl xs
    simpa using this
  have off : ∀ {F' Z' H' : Hp}, Rel X.K T F' Z' L (σ ++ [some (.ref q)]) (ρ ++ [some (Sl.own false m')]) H' → Rel X.K T F' Z' L σ ρ H' := fun r' => by
    obtain ⟨b, u, _, z1, _, r2⟩ := r'.pop
    exact (r2.zDrop z1).1
  cases rr with
  | ok d =>
    have cr : callR G n (AR.l ρ.length :: ds.map AR.v) (ρ ++ [some (Sl.own false m)]) = .ok (.ok d) (ρ ++ [some (Sl.own false m')]) := by
      unfold callR
      rw [if_pos hc, eR]
      simp only [hG, eP]
    exact call_mid (W := fun cls dd _ H => W cls dd σ H) cr rp av fun v F' H' e r' p => k v F' H' e (off r') p
  | nw z =>
    have cr : callR G n (AR.l ρ.length :: ds.map AR.v) (ρ ++ [some (Sl.own false m)]) = .ok (.nw z) (ρ ++ [some (Sl.own false m')]) := by
      unfold callR
      rw [if_pos hc, eR]
      simp only [hG, eP]
    exact call_mid (W := fun cls dd _ H => W cls dd σ H) cr rp av fun b u F' H' e z1 r' p => k b u F' H' e z1 (off r') p
  | ex c ys =>
    have cr : callR G n (AR.l ρ.length :: ds.map AR.v) (ρ ++ [some (Sl.own false m)]) = .ex c ys (ρ ++ [some (Sl.own false m')]) := by
      unfold callR
      rw [if_pos hc, eR]
      simp only [hG, eP]
    exact call_mid (W := fun cls dd _ H => W cls dd σ H) cr rp av fun cls dd F' H' e r' p => k cls dd F' H' e (off r') p
theorem jr_defT {g0 : Ev MO} {gs : Ev (List D)} (c : Cal X.prog X.w X.K X.mg X.base T k x G ps) (hA : X.A.guards = some []) (hr : Room k X.A) (tk : Takes X W) (h0 : JF T X W e g0) (ha : JA T X W es gs) (hn : ps.length = n := by rfl) (hg : Gl X x := by rfl)
    (hdb : (x == ("__debug__" : Str)) = false := by decide) (he : starEach (e :: es) X.env = (false, eval e X.env) :: starEach es X.env := by rfl) (hpl : (backTo pos (starEach es X.env)).any (·.1) = false := by rfl) : JR T X W (.Call (.Name x p) (e :: es) [] pos) (mResT G n g0 gs) := fun ρ => by
  subst hn
  obtain ⟨f, fd, hG, hm, hk, hb⟩ := c.ex
  have rule : ∀ t1 t2, PE X e t1 → PA X es t2 → PE X (.Call (.Name x p) (e :: es) [] pos) (tCallG (spG X.K T G ps.length) [] W (tCons t1 t2)) := fun t1 t2 h1 h2 => pe_callG hG hA hr hg hm hk hb .nil tk (pa_cons h1 h2 he) hdb he hpl
  have p1 := h0 ρ
  unfold mResT
  cases q1 : g0 ρ with
  | stuck => exact pe_no
  | ex c ds ρ1 => rw [q1] at p1; exact pe_weak (rule _ _ p1 pa_no) fun σ H Q q => q
  | ok m ρ1 =>
    rw [q1] at p1
    have p2 := ha ρ1
    simp only [R.bind_ok]
    cases q2 : gs ρ1 with
    | stuck => exact pe_no
    | ex c ds ρ2 =>
      rw [q2] at p2
      refine pe_weak (rule _ _ p1 p2) fun σ H Q ⟨F, Z, L, r, kk⟩ => ⟨F, Z, L, r, fun b u F1 H1 e1 z1 r1 x1 => ⟨F1, upd Z b u, L, r1, fun cls dd F2 H2 e2 r2 x2 => kk cls dd F2 H2 (e1.trans e2) (r2.zDrop z1).1 x2⟩⟩
    | ok ds ρ2 =>
      rw [q2] at p2
      simp only [R.bind_ok]
      by_cases hl : ds.length + 1 = ps.length
      · rw [if_pos hl]
        cases q3 : G (.l m :: ds.map Arg.v) with
        | none => exact pe_no
        | some rm =>
          obtain ⟨rr, ms⟩ := rm
          match ms, rr, q3 with
          | [m'], .ok d, q3 =>
            refine pe_weak (rule _ _ p1 p2) fun σ H Q ⟨F, Z, L, r, kk⟩ => ⟨F, Z, L, r, fun b u F1 H1 e1 z1 r1 x1 => ⟨F1, upd Z b u, L, r1, fun vs F2 H2 e2 r2 x2 => ?_⟩⟩
            show spG _ _ _ _ ((V.ref b :: vs) ++ []) _ _ _
            rw [List.append_nil]
            exact lend_mid r2 z1 (x1.mono e2) x2 hl q3 fun v F' H' e' r' p' => kk v F' H' ((e1.trans e2).trans e') r' p'
          | [m'], .nw z, q3 =>
            refine pe_weak (rule _ _ p1 p2) fun σ H Q ⟨F, Z, L, r, kk⟩ => ⟨F, Z, L, r, fun b u F1 H1 e1 z1 r1 x1 => ⟨F1, upd Z b u, L, r1, fun vs F2 H2 e2 r2 x2 => ?_⟩⟩
            show spG _ _ _ _ ((V.ref b :: vs) ++ []) _ _ _
            rw [List.append_nil]
            exact lend_mid r2 z1 (x1.mono e2) x2 hl q3 fun b' u' F' H' e' z' r' p' => kk b' u' F' H' ((e1.trans e2).trans e') z' r' p'
          | [m'], .ex c ys, q3 =>
            refine pe_weak (rule _ _ p1 p2) fun σ H Q ⟨F, Z, L, r, kk⟩ => ⟨F, Z, L, r, fun b u F1 H1 e1 z1 r1 x1 => ⟨F1, upd Z b u, L, r1, fun vs F2 H2 e2 r2 x2 => ?_⟩⟩
            show spG _ _ _ _ ((V.ref b :: vs) ++ []) _ _ _
            rw [List.append_nil]
            exact lend_mid r2 z1 (x1.mono e2) x2 hl q3 fun cls dd F' H' e' r' p' => kk cls dd F' H' ((e1.trans e2).trans e') r' p'
          | [], rr, q3 => cases rr <;> exact pe_no
          | _ :: _ :: _, rr, q3 => cases rr <;> exact pe_no
      · rw [if_neg hl]; exact pe_no
end
end VS
set_option maxHeartbeats 1000000
namespace VS
open PySem L2 PySem.Spec PyProof.Rows
open AutoSeq1 (wpAny_loadPart')
/-! ### built-in kinds say nothing of an own object -/
def NoWord (t : Sem Fin) (P : Shared → Prop) : Prop := Meets t fun _ R s => P s ∧ R (.ok (.ret .notImplemented)) s
def Own (x : Addr) (s : Shared) : Prop := ∃ C dx, s.heap.get? x = some (PySem.W.instObj C dx)
def Foreign (T : String) (x : Addr) (s : Shared) : Prop := ∃ C dx, s.heap.get? x = some (PySem.W.instObj C dx) ∧ ∀ M : Model, PySem.W.Looks M s.heap (isSubtype (.ref C) (.type T)) false
theorem nw_int_eq (i : Int) (u : Tok) (x : Addr) : NoWord (Builtin.«int.__eq__» ⟨[.int i u, .ref x], []⟩) (Own x) :=
  .of_wp fun prog w A R s h => by
    obtain ⟨hp, g, d, tk, os⟩ := s
    obtain ⟨⟨C, dx, hx⟩, h⟩ := h
    wp_walk using wpAny_loadPart' hx, wpAny_load hx
    exact ⟨_, rfl, h⟩
theorem nw_bool_eq (i : Bool) (x : Addr) : NoWord (Builtin.«int.__eq__» ⟨[.bool i, .ref x], []⟩) (Own x) :=
  .of_wp fun prog w A R s h => by
    obtain ⟨hp, g, d, tk, os⟩ := s
    obtain ⟨⟨C, dx, hx⟩, h⟩ := h
    wp_walk using wpAny_loadPart' hx, wpAny_load hx
    exact ⟨_, rfl, h⟩
theorem nw_str_eq (i : Str) (u : Tok) (x : Addr) : NoWord (Builtin.«str.__eq__» ⟨[.str i u, .ref x], []⟩) (Own x) :=
  .of_wp fun prog w A R s h => by
    obtain ⟨hp, g, d, tk, os⟩ := s
    obtain ⟨⟨C, dx, hx⟩, h⟩ := h
    wp_walk using wpAny_loadPart' hx, wpAny_load hx
    exact ⟨_, rfl, h⟩
theorem nw_non_eq  (x : Addr) : NoWord (Builtin.«NoneType.__eq__» ⟨[.none, .ref x], []⟩) (Own x) :=
  .of_wp fun prog w A R s h => by
    obtain ⟨hp, g, d, tk, os⟩ := s
    obtain ⟨⟨C, dx, hx⟩, h⟩ := h
    wp_walk
    exact ⟨_, rfl, h⟩
theorem nw_lst_eq (l : Addr) (x : Addr) : NoWord (Builtin.«list.__eq__» ⟨[.ref l, .ref x], []⟩) (Foreign "list" x) :=
  .of_wp fun prog w A R s h => by
    obtain ⟨hp, g, d, tk, os⟩ := s
    obtain ⟨⟨C, dx, hx, sub⟩, h⟩ := h
    wp_walk using wpAny_loadPart' hx, (sub _).here
    exact ⟨_, rfl, h⟩
theorem nw_tup_eq (l : Addr) (x : Addr) : NoWord (Builtin.«tuple.__eq__» ⟨[.ref l, .ref x], []⟩) (Foreign "tuple" x) :=
  .of_wp fun prog w A R s h => by
    obtain ⟨hp, g, d, tk, os⟩ := s
    obtain ⟨⟨C, dx, hx, sub⟩, h⟩ := h
    wp_walk using wpAny_loadPart' hx, (sub _).here
    exact ⟨_, rfl, h⟩
theorem nw_dct_eq (l : Addr) (x : Addr) : NoWord (Builtin.«dict.__eq__» ⟨[.ref l, .ref x], []⟩) (Foreign "dict" x) :=
  .of_wp fun prog w A R s h => by
    obtain ⟨hp, g, d, tk, os⟩ := s
    obtain ⟨⟨C, dx, hx, sub⟩, h⟩ := h
    wp_walk using wpAny_loadPart' hx, (sub _).here
    exact ⟨_, rfl, h⟩
theorem nw_int_ne (i : Int) (u : Tok) (x : Addr) : NoWord (Builtin.«int.__ne__» ⟨[.int i u, .ref x], []⟩) (Own x) :=
  .of_wp fun prog w A R s h => by
    obtain ⟨hp, g, d, tk, os⟩ := s
    obtain ⟨⟨C, dx, hx⟩, h⟩ := h
    wp_walk using wpAny_loadPart' hx, wpAny_load hx
    exact ⟨_, rfl, h⟩
theorem nw_bool_ne (i : Bool) (x : Addr) : NoWord (Builtin.«int.__ne__» ⟨[.bool i, .ref x], []⟩) (Own x) :=
  .of_wp fun prog w A R s h => by
    obtain ⟨hp, g, d, tk, os⟩ := s
    obtain ⟨⟨C, dx, hx⟩, h⟩ := h
    wp_walk using wpAny_loadPart' hx, wpAny_load hx
    exact ⟨_, rfl, h⟩
theorem nw_str_ne (i : Str) (u : Tok) (x : Addr) : NoWord (Builtin.«str.__ne__» ⟨[.str i u, .ref x], []⟩) (Own x) :=
  .of_wp fun prog w A R s h => by
    obtain ⟨hp, g, d, tk, os⟩ := s
    obtain ⟨⟨C, dx, hx⟩, h⟩ := h
    wp_walk using wpAny_loadPart' hx, wpAny_load hx
    exact ⟨_, rfl, h⟩
theorem nw_non_ne  (x : Addr) : NoWord (Builtin.«NoneType.__ne__» ⟨[.none, .ref x], []⟩) (Own x) :=
  .of_wp fun prog w A R s h => by
    obtain ⟨hp, g, d, tk, os⟩ := s
    obtain ⟨⟨C, dx, hx⟩, h⟩ := h
    wp_walk
    exact ⟨_, rfl, h⟩
theorem nw_lst_ne (l : Addr) (x : Addr) : NoWord (Builtin.«list.__ne__» ⟨[.ref l, .ref x], []⟩) (Foreign "list" x) :=
  .of_wp fun prog w A R s h => by
    obtain ⟨hp, g, d, tk, os⟩ := s
    obtain ⟨⟨C, dx, hx, sub⟩, h⟩ := h
    wp_walk using wpAny_loadPart' hx, (sub _).here
    exact ⟨_, rfl, h⟩
theorem nw_tup_ne (l : Addr) (x : Addr) : NoWord (Builtin.«tuple.__ne__» ⟨[.ref l, .ref x], []⟩) (Foreign "tuple" x) :=
  .of_wp fun prog w A R s h => by
    obtain ⟨hp, g, d, tk, os⟩ := s
    obtain ⟨⟨C, dx, hx, sub⟩, h⟩ := h
    wp_walk using wpAny_loadPart' hx, (sub _).here
    exact ⟨_, rfl, h⟩
theorem nw_dct_ne (l : Addr) (x : Addr) : NoWord (Builtin.«dict.__ne__» ⟨[.ref l, .ref x], []⟩) (Foreign "dict" x) :=
  .of_wp fun prog w A R s h => by
    obtain ⟨hp, g, d, tk, os⟩ := s
    obtain ⟨⟨C, dx, hx, sub⟩, h⟩ := h
    wp_walk using wpAny_loadPart' hx, (sub _).here
    exact ⟨_, rfl, h⟩
/-! ### kinds -/
inductive Kd (s : Shared) : String → Value → Prop where
  | non : Kd s "NoneType" .none
  | bl (b : Bool) : Kd s "bool" (.bool b)
  | int (i : Int) (t : Tok) : Kd s "int" (.int i t)
  | str (z : Str) (t : Tok) : Kd s "str" (.str z t)
  | lst {a : Addr} (k : PySem.W.KitAt a "list" s.heap) : Kd s "list" (.ref a)
  | tup {a : Addr} (k : PySem.W.KitAt a "tuple" s.heap) : Kd s "tuple" (.ref a)
  | dct {a : Addr} (k : PySem.W.KitAt a "dict" s.heap) : Kd s "dict" (.ref a)
def KdV (K : PySem.W.Frag) (H : Hp) (n : String) : V → Prop
  | .non => n = "NoneType"
  | .bl _ => n = "bool"
  | .int _ => n = "int"
  | .str _ => n = "str"
  | .ref a => (n = "tuple" ∧ ∃ vs, SqT K H a vs) ∨ (n = "list" ∧ ∃ vs, SqL K H a vs) ∨ (n = "dict" ∧ ∃ ws, H a = some (.dK ws))
  | _ => False
theorem kdv_of {K : PySem.W.Frag} {T : Txt} {F H : Hp} {d : D} {v : V} {n : String} (h : tyD d = some n) (e : Ex F H) (r : Rep K T F d v) : KdV K H n v := by
  cases d with
  | non => rw [show v = _ from r]; cases h; rfl
  | bl b => rw [show v = _ from r]; cases h; rfl
  | int b => rw [show v = _ from r]; cases h; rfl
  | str b => rw [show v = _ from r]; cases h; rfl
  | tup xs => obtain ⟨a, vs, rfl, h1, _⟩ := r; cases h; exact .inl ⟨rfl, vs, e.sqT h1⟩
  | lst xs => obtain ⟨a, vs, rfl, h1, _⟩ := r; cases h; exact .inr (.inl ⟨rfl, vs, SqL.of (e _ _ h1)⟩)
  | frl xs => obtain ⟨a, vs, rfl, h1, _⟩ := r; cases h; exact .inr (.inl ⟨rfl, vs, e.sqL h1⟩)
  | dct xs => obtain ⟨a, vs, rfl, h1, _⟩ := r; cases h; exact .inr (.inr ⟨rfl, vs, e _ _ h1⟩)
  | _ => cases h
section
variable {X : Cx} {pins : List (Addr × Obj)} {σ : L2.St} {H : Hp} {s : Shared} {n : String} {u : Value} {x : V}
theorem kd_at (I : Inv X pins σ H s) (rx : RelV x u) (k : KdV X.K H n x) : Kd s n u := by
  cases x with
  | non => cases (show u = Value.none from rx); cases (show n = _ from k); exact .non
  | bl y => cases (show u = Value.bool y from rx); cases (show n = _ from k); exact .bl y
  | int i => obtain ⟨t, q⟩ := (show ∃ t, u = Value.int i t from rx); cases q; cases (show n = _ from k); exact .int i t
  | str i => obtain ⟨t, q⟩ := (show ∃ t, u = Value.str i t from rx); cases q; cases (show n = _ from k); exact .str i t
  | ref a =>
    cases (show u = Value.ref a from rx)
    rcases k with ⟨rfl, vs, h⟩ | ⟨rfl, vs, h⟩ | ⟨rfl, ws, h⟩
    · obtain ⟨its, _, ⟨o, h1, h2, _⟩, _⟩ := I.tuple h
      exact .tup ⟨o, h1, h2⟩
    · obtain ⟨its, _, ⟨o, n, h1, h2, _⟩, _⟩ := I.list h
      exact .lst ⟨o, h1, h2⟩
    · obtain ⟨_, _, vs, _, o, es, ep, h1, h2, _⟩ := dk_of I.hok h
      exact .dct ⟨o, h1, h2.1⟩
  | _ => exact k.elim
theorem Kd.type (k : Kd s n u) : s.TypeIs u n := by
  cases k with
  | non => rfl
  | bl b => rfl
  | int i t => exact typeIs_int s i t
  | str z t => exact typeIs_str s z t
  | lst k => exact k
  | tup k => exact k
  | dct k => exact k
theorem Kd.looks (k : Kd s n u) (M : Model) : PySem.W.Looks M s.heap (typeOf u) (.type n) := by
  cases k with
  | non => exact PySem.W.Looks.of_pure rfl
  | bl b => exact PySem.W.Looks.of_pure rfl
  | int i t => exact PySem.W.Looks.of_pure rfl
  | str z t => exact PySem.W.Looks.of_pure rfl
  | lst k => exact PySem.W.kitAt_ty M _ k
  | tup k => exact PySem.W.kitAt_ty M _ k
  | dct k => exact PySem.W.kitAt_ty M _ k
def seven : List String := ["NoneType", "bool", "int", "str", "tuple", "list", "dict"]
theorem Kd.mem (k : Kd s n u) : n ∈ seven := by cases k <;> decide
end
end VS
set_option maxHeartbeats 1000000
namespace VS
open PySem L2 PySem.Spec PyProof.Rows
def like (neg : Bool) : CmpOp := if neg then .NotEq else .Eq
section
variable {prog : Program} {w : World} {A : Around} {E : Value → Shared → Prop} {s : Shared} {K : PySem.W.Frag} {x C f dx : Addr} {ox : Obj} {od : Option Obj} {n : String} {u : Value}
/-- a built-in kind leaves it to the own object -/
theorem Kd.silent (neg : Bool) (k : Kd s n u) (X : K.In s.heap) (I : PySem.W.InstAt s.heap x (PySem.W.instObj C dx) C od) (sub : ∀ n ∈ seven, PySem.W.subIn K (.ref C) (.type n) = some false) :
    wpAny (model prog w) A (tryCompare u (cmpInfo (like neg)).2.1 (.ref x)) (fun r s' => r = none ∧ s' = s) E s := by
  have own : Own x s := ⟨C, dx, I.at_⟩
  have fo : ∀ n ∈ seven, Foreign n x s := fun n h => ⟨C, dx, I.at_, fun M => PySem.W.looks_subIn X (sub n h)⟩
  cases neg with
  | false =>
    show wpAny (model prog w) A (tryCompare u (cmpInfo .Eq).2.1 (.ref x)) _ E s
    cases k with
    | non => exact wpAny_tryCompare_declines rfl F.slot_NoneType_eq (call_meets F.slot_NoneType_eq rfl F.entry_NoneType_eq (F.args_NoneType_eq_2 _ _) (nw_non_eq x) ⟨own, rfl, rfl, rfl⟩)
    | bl b => exact wpAny_tryCompare_declines rfl F.slot_bool_eq (call_meets F.slot_bool_eq rfl F.entry_int_eq (F.args_int_eq_2 _ _) (nw_bool_eq b x) ⟨own, rfl, rfl, rfl⟩)
    | int i t => exact wpAny_tryCompare_declines (typeIs_int s i t) F.slot_int_eq (call_meets F.slot_int_eq (typeIs_int s i t) F.entry_int_eq (F.args_int_eq_2 _ _) (nw_int_eq i t x) ⟨own, rfl, rfl, rfl⟩)
    | str z t => exact wpAny_tryCompare_declines (typeIs_str s z t) F.slot_str_eq (call_meets F.slot_str_eq (typeIs_str s z t) F.entry_str_eq (F.args_str_eq_2 _ _) (nw_str_eq z t x) ⟨own, rfl, rfl, rfl⟩)
    | @lst a k => exact wpAny_tryCompare_declines k F.slot_list_eq (call_meets F.slot_list_eq k F.entry_list_eq (F.args_list_eq_2 _ _) (nw_lst_eq a x) ⟨fo _ (by decide), rfl, rfl, rfl⟩)
    | @tup a k => exact wpAny_tryCompare_declines k F.slot_tuple_eq (call_meets F.slot_tuple_eq k F.entry_tuple_eq (F.args_tuple_eq_2 _ _) (nw_tup_eq a x) ⟨fo _ (by decide), rfl, rfl, rfl⟩)
    | @dct a k => exact wpAny_tryCompare_declines k F.slot_dict_eq (call_meets F.slot_dict_eq k F.entry_dict_eq (F.args_dict_eq_2 _ _) (nw_dct_eq a x) ⟨fo _ (by decide), rfl, rfl, rfl⟩)
  | true =>
    show wpAny (model prog w) A (tryCompare u (cmpInfo .NotEq).2.1 (.ref x)) _ E s
    cases k with
    | non => exact wpAny_tryCompare_declines rfl F.slot_NoneType_ne (call_meets F.slot_NoneType_ne rfl F.entry_NoneType_ne (F.args_NoneType_ne_2 _ _) (nw_non_ne x) ⟨own, rfl, rfl, rfl⟩)
    | bl b => exact wpAny_tryCompare_declines rfl F.slot_bool_ne (call_meets F.slot_bool_ne rfl F.entry_int_ne (F.args_int_ne_2 _ _) (nw_bool_ne b x) ⟨own, rfl, rfl, rfl⟩)
    | int i t => exact wpAny_tryCompare_declines (typeIs_int s i t) F.slot_int_ne (call_meets F.slot_int_ne (typeIs_int s i t) F.entry_int_ne (F.args_int_ne_2 _ _) (nw_int_ne i t x) ⟨own, rfl, rfl, rfl⟩)
    | str z t => exact wpAny_tryCompare_declines (typeIs_str s z t) F.slot_str_ne (call_meets F.slot_str_ne (typeIs_str s z t) F.entry_str_ne (F.args_str_ne_2 _ _) (nw_str_ne z t x) ⟨own, rfl, rfl, rfl⟩)
    | @lst a k => exact wpAny_tryCompare_declines k F.slot_list_ne (call_meets F.slot_list_ne k F.entry_list_ne (F.args_list_ne_2 _ _) (nw_lst_ne a x) ⟨fo _ (by decide), rfl, rfl, rfl⟩)
    | @tup a k => exact wpAny_tryCompare_declines k F.slot_tuple_ne (call_meets F.slot_tuple_ne k F.entry_tuple_ne (F.args_tuple_ne_2 _ _) (nw_tup_ne a x) ⟨fo _ (by decide), rfl, rfl, rfl⟩)
    | @dct a k => exact wpAny_tryCompare_declines k F.slot_dict_ne (call_meets F.slot_dict_ne k F.entry_dict_ne (F.args_dict_ne_2 _ _) (nw_dct_ne a x) ⟨fo _ (by decide), rfl, rfl, rfl⟩)
theorem back {neg : Bool} {Q : Value → Shared → Prop} (hu : A.units < cLine) (k : Kd s n u) (X : K.In s.heap) (I : PySem.W.InstAt s.heap x (PySem.W.instObj C dx) C od) (sub : ∀ n ∈ seven, PySem.W.subIn K (.ref C) (.type n) = some false)
    (own : wpAny (model prog w) A (tryCompare (.ref x) (cmpInfo (like neg)).2.2 u) (fun r s' => ∃ v, r = some v ∧ Q v s') E s) : wpAny (model prog w) A (richCompare (like neg) u (.ref x)) Q E s := by
  have no := k.silent (prog := prog) (w := w) (A := A) (E := E) neg X I sub
  unfold richCompare
  simp only [k.type.oneThing_none]
  refine wpAny_holding (wpAny_bind (wpAny_cRoomFor hu ?_))
  refine wpAny_bind ((k.looks _).here (wpAny_bind (I.type.here ?_)))
  split
  · refine wpAny_bind ((PySem.W.looks_subIn X (sub n k.mem)).here ?_)
    simp only [Bool.false_eq_true, if_false, Bool.not_false, if_true]
    refine wpAny_bind (m := tryCompare u _ _) (wpAny_mono no ?_ fun _ _ z => z)
    rintro r s2 ⟨rfl, rfl⟩
    refine wpAny_bind (m := tryCompare (.ref x) _ _) (wpAny_mono own ?_ fun _ _ z => z)
    rintro r s2 ⟨v, rfl, q⟩
    exact wpAny_pure q
  · rename_i g
    exact absurd (by simp) g
theorem try_eq {Q : Value → Shared → Prop} (X : K.In s.heap) (I : PySem.W.InstAt s.heap x ox C od) (M : Meth K C "__eq__" f) (h : wpAny (model prog w) A (call (.ref f) [.ref x, u]) (fun v s' => ∃ t, v = .bool t ∧ Q v s') E s) :
    wpAny (model prog w) A (tryCompare (.ref x) "__eq__" u) (fun r s' => ∃ v, r = some v ∧ Q v s') E s := by
  unfold tryCompare
  refine wpAny_bind (PySem.W.ifBound_K X I M.at_ M.fn (wpAny_mono h ?_ fun _ _ z => z))
  rintro v s2 ⟨t, rfl, q⟩
  exact wpAny_pure ⟨_, rfl, q⟩
theorem try_ne {Q : Value → Shared → Prop} (hu : A.units + 1 < cLine) (X : K.In s.heap) (I : PySem.W.InstAt s.heap x ox C od) (ne : PySem.W.findIn K (.ref C) "__ne__" = some (some (.builtin "object.__ne__"))) (ob : PySem.W.mroIn K C (.type "object") = some true)
    (M : Meth K C "__eq__" f) (h : wpAny (model prog w) A.in1 (call (.ref f) [.ref x, u]) (fun v s' => ∃ t, v = .bool t ∧ Q (.bool (!t)) s') E s) : wpAny (model prog w) A (tryCompare (.ref x) "__ne__" u) (fun r s' => ∃ v, r = some v ∧ Q v s') E s := by
  have body : wpAny (model prog w) A.in1 (Builtin.«object.__ne__» ⟨[.ref x, u], []⟩) (fun r s' => ∃ t, r = .done (.ret (.bool t)) ∧ Q (.bool t) s') E s := by
    unfold Builtin.«object.__ne__»
    apply wpAny_bind (m := slotArgs "__ne__" 1 _)
    apply wpAny_pure
    refine wpAny_bind (m := cRoomFor _ _) (wpAny_cRoomFor hu ?_)
    refine wpAny_bind (m := callSpecialIfBound? (.ref x) (Str.ofString "__eq__") _) (PySem.W.ifBound_K X I M.at_ M.fn (wpAny_mono h ?_ fun _ _ z => z))
    rintro r s2 ⟨t, rfl, q⟩
    exact wpAny_bind (m := truthy (.bool t)) (wpAny_truthy_bool (wpAny_pure ⟨_, rfl, q⟩))
  have called : wpAny (model prog w) A (call (.builtin "object.__ne__") [.ref x, u]) (fun v s' => ∃ t, v = .bool t ∧ Q v s') E s := by
    refine wpAny_call (codeAny_call_builtin F.cmp_object.ne.plain F.cmpEntry_ne (PySem.W.check_slot F.cmpKind_ne F.cmpSplit_ne (I.type.andThen (PySem.W.looks_mroIn X ob)) (F.cmpArgs_ne _ _) (wpAny_mono body ?_ fun _ _ z => z)))
    rintro r s2 ⟨t, rfl, q⟩
    exact ⟨t, rfl, q⟩
  have fin : wpAny (model prog w) A (call (.builtin "object.__ne__") ([.ref x] ++ [u]) >>= fun v => pure (some v)) (fun r s' => ∃ t, r = some (.bool t) ∧ Q (.bool t) s') E s := by
    refine wpAny_bind (wpAny_mono called ?_ fun _ _ z => z)
    rintro v s2 ⟨t, rfl, q⟩
    exact wpAny_pure ⟨t, rfl, q⟩
  have bound : wpAny (model prog w) A (callSpecialIfBound? (.ref x) "__ne__" [u]) (fun r s' => ∃ t, r = some (.bool t) ∧ Q (.bool t) s') E s := by
    simp only [callSpecialIfBound?, bindSpecialIfBound?]
    refine wpAny_holding (wpAny_bind (wpAny_bind (wpAny_bind (I.type.here ((PySem.W.looks_findIn X ne).here ?_)))))
    refine wpAny_bind (wpAny_askSetting (wpAny_ite ?_))
    split
    · exact wpAny_bind (wpAny_of_eq (F.cmp_object.ne.bind _) (wpAny_pure fin))
    · exact wpAny_tryCatch (wpAny_bind (wpAny_of_eq (F.cmp_object.ne.bind _) (wpAny_pure fin)))
  unfold tryCompare
  refine wpAny_bind (wpAny_mono bound ?_ fun _ _ z => z)
  rintro r s2 ⟨t, rfl, q⟩
  exact wpAny_pure ⟨_, rfl, q⟩
/-- no built-in kind lies under an own class -/
theorem not_first {n : String} (h : n ∈ seven) : PySem.W.notFirst K C (.type n) = true := by
  have e : PySem.W.subIn K (.type n) (.ref C) = some false := by
    show (fastBuiltinMro n).map (·.contains (.ref C)) = some false
    simp only [seven, List.mem_cons, List.not_mem_nil, or_false] at h
    rcases h with rfl | rfl | rfl | rfl | rfl | rfl | rfl
    · rw [show fastBuiltinMro "NoneType" = some [.type "NoneType", .type "object"] by decide +kernel]; simp
    · rw [show fastBuiltinMro "bool" = some [.type "bool", .type "int", .type "object"] by decide +kernel]; simp
    · rw [show fastBuiltinMro "int" = some [.type "int", .type "object"] by decide +kernel]; simp
    · rw [show fastBuiltinMro "str" = some [.type "str", .type "object"] by decide +kernel]; simp
    · rw [show fastBuiltinMro "tuple" = some [.type "tuple", .type "object"] by decide +kernel]; simp
    · rw [show fastBuiltinMro "list" = some [.type "list", .type "object"] by decide +kernel]; simp
    · rw [show fastBuiltinMro "dict" = some [.type "dict", .type "object"] by decide +kernel]; simp
  unfold PySem.W.notFirst
  rw [e]; simp
end
section
variable {T : Txt} {X : Cx} {K : PySem.W.Frag} {k : Nat} {f C : Addr} {fd : FuncData} {ps : List Str} {sp : Sp}
def rOwnL (K : PySem.W.Frag) (C : Addr) (sp : Sp) (neg : Bool) : R2 := fun x y H Q => ∃ a dx fs n, x = .ref a ∧ H a = some (.ins C dx fs) ∧ KdV K H n y ∧ sp [x, y] H (fun v H' => ∃ t, v = .bl t ∧ Q (.bl (t != neg)) H') fun _ _ _ => False
def rOwnR (K : PySem.W.Frag) (C : Addr) (sp : Sp) (neg : Bool) : R2 := fun x y H Q => ∃ a dx fs n, y = .ref a ∧ H a = some (.ins C dx fs) ∧ KdV K H n x ∧ sp [y, x] H (fun v H' => ∃ t, v = .bl t ∧ Q (.bl (t != neg)) H') fun _ _ _ => False
theorem op_eqL (M : Meth X.K C "__eq__" f) (G : FnG X.prog X.w X.K X.mg X.base k f fd ps sp) (hA : X.A.guards = some []) (hr : Room k X.A) (hb : Binds X.K fd ps []) : OpR X (compareOp .Eq) (rOwnL X.K C sp false) := by
  intro pins s σ H x y v u Q I rx ry h
  obtain ⟨a, dx, fs, n, rfl, ha, ky, h⟩ := h
  cases rx
  obtain ⟨mA, J, _⟩ := ins_get I.hok ha
  obtain ⟨od, J, _⟩ := J.look
  obtain ⟨m, hF⟩ := I.fr
  have kd := kd_at I ry ky
  have rs : Vals [V.ref a, y] [Value.ref a, u] := .cons rfl (.cons ry .nil)
  show wpAny (model X.prog X.w) X.A (richCompare .Eq (.ref a) u) (EP X pins σ Q) X.xe s
  refine PySem.W.cmp_K (op := .Eq) (tb := .type n) hr.units0 hF I.ok.mod.kin J (kd.looks _) (not_first kd.mem) M.at_ M.fn (wpAny_mono (callG_at G hA ⟨hr, rfl⟩ hb I rs h) (fun u s' z => ?_) fun _ _ z => z)
  obtain ⟨v, H', I', rv, t, rfl, q⟩ := z
  cases rv
  rw [Bool.bne_false] at q
  exact ⟨.bl t, H', I', rfl, q⟩
theorem op_neL (ne : PySem.W.findIn X.K (.ref C) "__ne__" = some (some (.builtin "object.__ne__"))) (ob : PySem.W.mroIn X.K C (.type "object") = some true) (M : Meth X.K C "__eq__" f) (G : FnG X.prog X.w X.K X.mg X.base k f fd ps sp) (hA : X.A.guards = some [])
    (hr : Room (k + 1) X.A) (hb : Binds X.K fd ps []) : OpR X (compareOp .NotEq) (rOwnL X.K C sp true) := by
  intro pins s σ H x y v u Q I rx ry h
  obtain ⟨a, dx, fs, n, rfl, ha, ky, h⟩ := h
  cases rx
  obtain ⟨mA, J, _⟩ := ins_get I.hok ha
  obtain ⟨od, J, _⟩ := J.look
  have kd := kd_at I ry ky
  have rs : Vals [V.ref a, y] [Value.ref a, u] := .cons rfl (.cons ry .nil)
  show wpAny (model X.prog X.w) X.A (richCompare .NotEq (.ref a) u) (EP X pins σ Q) X.xe s
  refine own_unlike (tb := .type n) (by have := hr.un; omega) I.kIn J (kd.looks _) (not_first kd.mem) ne ob M (wpAny_mono (callG_at (A := X.A.in1) G hA ⟨hr.in1, rfl⟩ hb I rs h) (fun u s' z => ?_) fun _ _ z => z)
  obtain ⟨v, H', I', rv, t, rfl, q⟩ := z
  cases rv
  rw [Bool.bne_true] at q
  exact ⟨t, rfl, .bl (!t), H', I', rfl, q⟩
theorem op_eqR (sub : ∀ n ∈ seven, PySem.W.subIn X.K (.ref C) (.type n) = some false) (M : Meth X.K C "__eq__" f) (G : FnG X.prog X.w X.K X.mg X.base k f fd ps sp) (hA : X.A.guards = some []) (hr : Room k X.A) (hb : Binds X.K fd ps []) : OpR X (compareOp .Eq) (rOwnR X.K C sp false) := by
  intro pins s σ H x y v u Q I rx ry h
  obtain ⟨a, dx, fs, n, rfl, ha, kx, h⟩ := h
  cases ry
  obtain ⟨mA, J, _⟩ := ins_get I.hok ha
  obtain ⟨od, J, _⟩ := J.look
  have kd := kd_at I rx kx
  have rs : Vals [V.ref a, x] [Value.ref a, v] := .cons rfl (.cons rx .nil)
  show wpAny (model X.prog X.w) X.A (richCompare (like false) v (.ref a)) (EP X pins σ Q) X.xe s
  refine back (neg := false) hr.units0 kd I.kIn J sub (try_eq I.kIn J M (wpAny_mono (callG_at G hA ⟨hr, rfl⟩ hb I rs h) (fun u s' z => ?_) fun _ _ z => z))
  obtain ⟨v, H', I', rv, t, rfl, q⟩ := z
  cases rv
  rw [Bool.bne_false] at q
  exact ⟨t, rfl, .bl t, H', I', rfl, q⟩
theorem op_neR (sub : ∀ n ∈ seven, PySem.W.subIn X.K (.ref C) (.type n) = some false) (ne : PySem.W.findIn X.K (.ref C) "__ne__" = some (some (.builtin "object.__ne__"))) (ob : PySem.W.mroIn X.K C (.type "object") = some true) (M : Meth X.K C "__eq__" f) (G : FnG X.prog X.w X.K X.mg X.base k f fd ps sp)
    (hA : X.A.guards = some []) (hr : Room (k + 1) X.A) (hb : Binds X.K fd ps []) : OpR X (compareOp .NotEq) (rOwnR X.K C sp true) := by
  intro pins s σ H x y v u Q I rx ry h
  obtain ⟨a, dx, fs, n, rfl, ha, kx, h⟩ := h
  cases ry
  obtain ⟨mA, J, _⟩ := ins_get I.hok ha
  obtain ⟨od, J, _⟩ := J.look
  have kd := kd_at I rx kx
  have rs : Vals [V.ref a, x] [Value.ref a, v] := .cons rfl (.cons rx .nil)
  show wpAny (model X.prog X.w) X.A (richCompare (like true) v (.ref a)) (EP X pins σ Q) X.xe s
  refine back (neg := true) (by have := hr.un; omega) kd I.kIn J sub (try_ne (by have := hr.un; omega) I.kIn J ne ob M (wpAny_mono (callG_at (A := X.A.in1) G hA ⟨hr.in1, rfl⟩ hb I rs h) (fun u s' z => ?_) fun _ _ z => z))
  obtain ⟨v, H', I', rv, t, rfl, q⟩ := z
  cases rv
  rw [Bool.bne_true] at q
  exact ⟨t, rfl, .bl (!t), H', I', rfl, q⟩
/-! ### as functions upon data -/
structure SpG (K : PySem.W.Frag) (T : Txt) (c : Nat) : Prop where
  sub : ∀ n ∈ seven, PySem.W.subIn K (.ref (T.cl c)) (.type n) = some false
def saysB (G : Fn) (neg : Bool) (x y : D) : Option D := match said G [x, y] with
  | some (.bl t) => some (.bl (t != neg))
  | _ => none
def sameJ (old : D → D → Option D) (neg : Bool) (c : Nat) (G : Fn) (x y : D) : Option D := match x, y with
  | .ins c1 xs, .ins c2 ys => sameI old neg c G (.ins c1 xs) (.ins c2 ys)
  | .ins c1 xs, y => if c1 = c ∧ (tyD y).isSome = true then saysB G neg (.ins c1 xs) y else none
  | x, .ins c2 ys => if c2 = c ∧ (tyD x).isSome = true then saysB G neg (.ins c2 ys) x else none
  | x, y => old x y
theorem says_of {G : Fn} {neg : Bool} {x y z : D} (h : saysB G neg x y = some z) : ∃ t, said G [x, y] = some (.bl t) ∧ z = .bl (t != neg) := by
  unfold saysB at h
  split at h
  · rename_i t q; cases h; exact ⟨t, q, rfl⟩
  · cases h
theorem opv_sameJ {c : Nat} {G : Fn} {r0 : R2} {old : D → D → Option D} {neg : Bool} (h0 : OpV K T r0 old) : OpV K T (fun x y H Q => (r0 x y H Q ∨ rSp2 (T.cl c) (spG K T G 2) neg x y H Q) ∨ (rOwnL K (T.cl c) (spG K T G 2) neg x y H Q ∨ rOwnR K (T.cl c) (spG K T G 2) neg x y H Q)) (sameJ old neg c G) := by
  intro x y z h F H v w Q e rx ry k
  unfold sameJ at h
  split at h
  · exact .inl (opv_same h0 _ _ z h F H v w Q e rx ry k)
  · split at h
    · rename_i c1 xs y hne hc
      obtain ⟨rfl, ht⟩ := hc
      obtain ⟨n, hn⟩ := Option.isSome_iff_exists.mp ht
      obtain ⟨t, q, rfl⟩ := says_of h
      obtain ⟨a, dx, vs, rfl, h1, h2, h3⟩ := id rx
      refine .inr (.inl ⟨a, dx, _, n, rfl, e _ _ h1, kdv_of hn e ry, spG_pure (ds := [_, _]) e (.cons rx (.one ry)) (said_eq q) fun u F' H' g p => ?_⟩)
      obtain rfl : u = .bl t := p
      exact ⟨t, rfl, k _ F' H' g rfl⟩
    · cases h
  · split at h
    · rename_i x c2 ys hne hc
      obtain ⟨rfl, ht⟩ := hc
      obtain ⟨n, hn⟩ := Option.isSome_iff_exists.mp ht
      obtain ⟨t, q, rfl⟩ := says_of h
      obtain ⟨a, dx, vs, rfl, h1, h2, h3⟩ := id ry
      refine .inr (.inr ⟨a, dx, _, n, rfl, e _ _ h1, kdv_of hn e rx, spG_pure (ds := [_, _]) e (.cons ry (.one rx)) (said_eq q) fun u F' H' g p => ?_⟩)
      obtain rfl : u = .bl t := p
      exact ⟨t, rfl, k _ F' H' g rfl⟩
    · cases h
  · exact .inl (.inl (h0 x y z h F H v w Q e rx ry k))
variable {c : Nat} {G : Fn}
theorem cmp_eqJ (S : SpG X.K T c) (M : CalM X.prog X.w X.K X.mg X.base T k c "__eq__" G ps) (hA : X.A.guards = some []) (hr : Room k X.A) (hn : ps.length = 2 := by rfl) : Cmp X T .Eq (sameJ eqD false c G) := by
  obtain ⟨f, fd, hG, hM, hb⟩ := M.ex
  rw [hn] at hG
  obtain ⟨r, h1, h2⟩ := (cmp_eq (T := T) hr).ex
  exact ⟨_, opr_or (opr_or h1 (op_eqI hM hG hA hr hb)) (opr_or (op_eqL hM hG hA hr hb) (op_eqR S.sub hM hG hA hr hb)), opv_sameJ h2⟩
theorem cmp_neJ (S0 : SpF X.K T c) (S : SpG X.K T c) (M : CalM X.prog X.w X.K X.mg X.base T k c "__eq__" G ps) (hA : X.A.guards = some []) (hr : Room (k + 1) X.A) (hn : ps.length = 2 := by rfl) : Cmp X T .NotEq (sameJ neD true c G) := by
  obtain ⟨f, fd, hG, hM, hb⟩ := M.ex
  rw [hn] at hG
  obtain ⟨r, h1, h2⟩ := (cmp_ne (T := T) hr).ex
  exact ⟨_, opr_or (opr_or h1 (op_neI S0.ne S0.ob hM hG hA hr hb)) (opr_or (op_neL S0.ne S0.ob hM hG hA hr hb) (op_neR S.sub S0.ne S0.ob hM hG hA hr hb)), opv_sameJ h2⟩
end
end VS
set_option maxHeartbeats 1000000
namespace VS
open PySem L2 PySem.Spec PyProof.Rows
/-! ### data without frozen lists and own objects: one value, one reading -/
mutual
def flatF : D → Bool
  | .non => true
  | .bl _ => true
  | .int _ => true
  | .str _ => true
  | .tup xs => flatFs xs
  | .lst xs => flatFs xs
  | .dct kvs => flatFk kvs
  | _ => false
def flatFs : List D → Bool
  | [] => true
  | d :: ds => flatF d && flatFs ds
def flatFk : List (Key × D) → Bool
  | [] => true
  | (_, d) :: ds => flatF d && flatFk ds
end
section
variable {X : Cx} {pins : List (Addr × Obj)} {σ : L2.St} {F H : Hp} {s : Shared} {T : Txt}
theorem kind_one {n n' : String} {u : Value} (h : Kd s n u) (h' : Kd s n' u) : n = n' := by
  have one : ∀ {a : Addr} {n n' : String}, PySem.W.KitAt a n s.heap → PySem.W.KitAt a n' s.heap → n = n' := by
    rintro a n n' ⟨o, h1, h2⟩ ⟨o', h3, h4⟩
    rw [h1] at h3; cases h3
    rw [h2] at h4; injection h4
  cases h <;> cases h' <;> first | rfl | exact one ‹_› ‹_›
theorem flat_ty {d : D} (h : flatF d = true) : ∃ n, tyD d = some n := by
  cases d <;> first | exact ⟨_, rfl⟩ | (simp [flatF] at h)
theorem ty_one (I : Inv X pins σ H s) (e : Ex F H) {d d' : D} {v : V} (h : flatF d = true) (h' : flatF d' = true) (r : Rep X.K T F d v) (r' : Rep X.K T F d' v) : tyD d = tyD d' := by
  obtain ⟨n, hn⟩ := flat_ty h
  obtain ⟨n', hn'⟩ := flat_ty h'
  have k := kdv_of hn e r
  have k' := kdv_of hn' e r'
  have : n = n' := by
    cases v with
    | non => exact (show n = _ from k).trans (show n' = _ from k').symm
    | bl b => exact (show n = _ from k).trans (show n' = _ from k').symm
    | int b => exact (show n = _ from k).trans (show n' = _ from k').symm
    | str b => exact (show n = _ from k).trans (show n' = _ from k').symm
    | ref a => exact kind_one (kd_at I (x := .ref a) (u := .ref a) rfl k) (kd_at I (x := .ref a) (u := .ref a) rfl k')
    | _ => exact k.elim
  rw [hn, hn', this]
mutual
theorem rep_one (I : Inv X pins σ H s) (e : Ex F H) : ∀ (d d' : D) (v : V), flatF d = true → flatF d' = true → Rep X.K T F d v → Rep X.K T F d' v → d = d'
  | .non, d', v, h, h', r, r' => by
    have := ty_one I e h h' r r'
    cases d' <;> simp [tyD, flatF] at this h' <;> rfl
  | .bl b, d', v, h, h', r, r' => by
    have := ty_one I e h h' r r'
    cases d' <;> simp [tyD, flatF] at this h'
    rw [show v = _ from r] at r'
    cases (show V.bl b = V.bl _ from r'); rfl
  | .int b, d', v, h, h', r, r' => by
    have := ty_one I e h h' r r'
    cases d' <;> simp [tyD, flatF] at this h'
    rw [show v = _ from r] at r'
    cases (show V.int b = V.int _ from r'); rfl
  | .str b, d', v, h, h', r, r' => by
    have := ty_one I e h h' r r'
    cases d' <;> simp [tyD, flatF] at this h'
    rw [show v = _ from r] at r'
    cases (show V.str b = V.str _ from r'); rfl
  | .tup xs, d', v, h, h', r, r' => by
    have := ty_one I e h h' r r'
    cases d' <;> simp [tyD] at this
    rename_i ys
    obtain ⟨a, vs, rfl, h1, q⟩ := r
    obtain ⟨a', vs', e', h1', q'⟩ := r'
    cases e'
    rw [I.tuple_inj (e.sqT h1) (e.sqT h1')] at q
    rw [reps_one I e xs ys vs' (by simpa [flatF] using h) (by simpa [flatF] using h') q q']
  | .lst xs, d', v, h, h', r, r' => by
    have := ty_one I e h h' r r'
    cases d' <;> simp [tyD] at this
    · rename_i ys
      obtain ⟨a, vs, rfl, h1, q⟩ := r
      obtain ⟨a', vs', e', h1', q'⟩ := r'
      cases e'
      rw [h1] at h1'
      cases h1'
      rw [reps_one I e xs ys vs (by simpa [flatF] using h) (by simpa [flatF] using h') q q']
    · simp [flatF] at h'
  | .dct kvs, d', v, h, h', r, r' => by
    have := ty_one I e h h' r r'
    cases d' <;> simp [tyD] at this
    rename_i ys
    obtain ⟨a, vs, rfl, h1, q⟩ := r
    obtain ⟨a', vs', e', h1', q'⟩ := r'
    cases e'
    rw [h1] at h1'
    cases h1'
    rw [repk_one I e kvs ys vs (by simpa [flatF] using h) (by simpa [flatF] using h') q q']
  | .frl _, _, _, h, _, _, _ => by simp [flatF] at h
  | .ins _ _, _, _, h, _, _, _ => by simp [flatF] at h
  | .exc _ _, _, _, h, _, _, _ => by simp [flatF] at h
theorem reps_one (I : Inv X pins σ H s) (e : Ex F H) : ∀ (ds ds' : List D) (vs : List V), flatFs ds = true → flatFs ds' = true → Reps X.K T F ds vs → Reps X.K T F ds' vs → ds = ds'
  | [], [], _, _, _, _, _ => rfl
  | [], _ :: _, vs, _, _, r, ⟨v, ws, q, _⟩ => by rw [show vs = [] from r] at q; cases q
  | _ :: _, [], vs, _, _, ⟨v, ws, q, _⟩, r => by rw [show vs = [] from r] at q; cases q
  | d :: ds, d' :: ds', vs, h, h', ⟨v, ws, q, r1, r2⟩, ⟨v', ws', q', r1', r2'⟩ => by
    rw [q] at q'
    cases q'
    simp only [flatFs, Bool.and_eq_true] at h h'
    rw [rep_one I e d d' v h.1 h'.1 r1 r1', reps_one I e ds ds' ws h.2 h'.2 r2 r2']
theorem repk_one (I : Inv X pins σ H s) (e : Ex F H) : ∀ (ds ds' : List (Key × D)) (vs : List (Key × V)), flatFk ds = true → flatFk ds' = true → RepK X.K T F ds vs → RepK X.K T F ds' vs → ds = ds'
  | [], [], _, _, _, _, _ => rfl
  | [], _ :: _, vs, _, _, r, ⟨v, ws, q, _⟩ => by rw [show vs = [] from r] at q; cases q
  | _ :: _, [], vs, _, _, ⟨v, ws, q, _⟩, r => by rw [show vs = [] from r] at q; cases q
  | (k, d) :: ds, (k', d') :: ds', vs, h, h', ⟨v, ws, q, r1, r2⟩, ⟨v', ws', q', r1', r2'⟩ => by
    rw [q] at q'
    cases q'
    simp only [flatFk, Bool.and_eq_true] at h h'
    rw [rep_one I e d d' v h.1 h'.1 r1 r1', repk_one I e ds ds' ws h.2 h'.2 r2 r2']
end
end
end VS
set_option maxHeartbeats 1000000
namespace VS
open PySem L2 PySem.Spec PyProof.Rows
open AutoSeq1 (wpAny_loadPart')
open MeetsSeq
theorem zip_one {α β : Type} : ∀ {fl : List α} {xs ys : List β}, xs.length ≤ fl.length → ys.length ≤ fl.length → fl.zip xs = fl.zip ys → xs = ys
  | [], [], [], _, _, _ => rfl
  | [], x :: xs, _, h, _, _ => by simp at h
  | [], [], y :: ys, _, h, _ => by simp at h
  | f :: fl, [], [], _, _, _ => rfl
  | f :: fl, x :: xs, [], _, _, e => by simp at e
  | f :: fl, [], y :: ys, _, _, e => by simp at e
  | f :: fl, x :: xs, y :: ys, h, h', e => by
    simp only [List.zip_cons_cons, List.cons.injEq, Prod.mk.injEq, true_and] at e
    simp only [List.length_cons, Nat.add_le_add_iff_right] at h h'
    rw [e.1, zip_one h h' e.2]
theorem ins_one {X : Cx} {pins : List (Addr × Obj)} {σ : L2.St} {F H : Hp} {s : Shared} {T : Txt} (I : Inv X pins σ H s) (e : Ex F H) {c : Nat} {xs ys : List D} {v : V} (h : flatFs xs = true) (h' : flatFs ys = true) (r : Rep X.K T F (.ins c xs) v) (r' : Rep X.K T F (.ins c ys) v) : xs = ys := by
  obtain ⟨a, dx, vs, rfl, h1, l1, q1⟩ := r
  obtain ⟨a', dx', vs', e', h2, l2, q2⟩ := r'
  cases e'
  rw [h1] at h2
  injection h2 with h2
  injection h2 with _ _ h2
  rw [zip_one l1 l2 h2] at q1
  exact reps_one I e xs ys vs' h h' q1 q2
section
variable {X : Cx} {K : PySem.W.Frag} {k : Nat} {f C : Addr} {fd : FuncData} {ps : List Str} {sp : Sp}
/-- == where one side is an own object -/
def rOwn3 (K : PySem.W.Frag) (C : Addr) (sp : Sp) : R2 := fun x y H Q => rSp2 C sp false x y H Q ∨ (rOwnL K C sp false x y H Q ∨ rOwnR K C sp false x y H Q)
theorem rc_own3 {A : Around} {pins : List (Addr × Obj)} {s : Shared} {σ : L2.St} {H : Hp} {x y : V} {v u : Value} {Q : VK} (sub : ∀ n ∈ seven, PySem.W.subIn X.K (.ref C) (.type n) = some false) (M : Meth X.K C "__eq__" f) (G : FnG X.prog X.w X.K X.mg X.base k f fd ps sp)
    (hA : A.guards = some []) (sb : Sub X k A) (hb : Binds X.K fd ps []) (I : Inv X pins σ H s) (rx : RelV x v) (ry : RelV y u) (h : rOwn3 X.K C sp x y H Q) :
    wpAny (model X.prog X.w) A (richCompare .Eq v u) (fun r s' => ∃ t H', r = .bool t ∧ Inv X pins σ H' s' ∧ Q (.bl t) H') X.xe s := by
  obtain ⟨m, hF⟩ := I.fr
  rcases h with ⟨a, b, dx, dy, fs, gs, rfl, rfl, ha, hb', h⟩ | ⟨a, dx, fs, n, rfl, ha, ky, h⟩ | ⟨a, dx, fs, n, rfl, ha, kx, h⟩
  · cases rx
    cases ry
    obtain ⟨mA, J, _⟩ := ins_get I.hok ha
    obtain ⟨mB, J', _⟩ := ins_get I.hok hb'
    obtain ⟨od, J, _⟩ := J.look
    obtain ⟨od', J', _⟩ := J'.look
    have rs : Vals [V.ref a, V.ref b] [Value.ref a, Value.ref b] := .cons rfl (.cons rfl .nil)
    refine PySem.W.cmp_K (op := .Eq) (tb := .ref C) sb.room.units0 hF I.ok.mod.kin J J'.type (by simp [PySem.W.notFirst]) M.at_ M.fn (wpAny_mono (callG_at G hA sb hb I rs h) (fun u s' z => ?_) fun _ _ z => z)
    obtain ⟨v, H', I', rv, t, rfl, q⟩ := z
    cases rv
    rw [Bool.bne_false] at q
    exact ⟨t, H', rfl, I', q⟩
  · cases rx
    obtain ⟨mA, J, _⟩ := ins_get I.hok ha
    obtain ⟨od, J, _⟩ := J.look
    have kd := kd_at I ry ky
    have rs : Vals [V.ref a, y] [Value.ref a, u] := .cons rfl (.cons ry .nil)
    refine PySem.W.cmp_K (op := .Eq) (tb := .type n) sb.room.units0 hF I.ok.mod.kin J (kd.looks _) (not_first kd.mem) M.at_ M.fn (wpAny_mono (callG_at G hA sb hb I rs h) (fun u s' z => ?_) fun _ _ z => z)
    obtain ⟨v, H', I', rv, t, rfl, q⟩ := z
    cases rv
    rw [Bool.bne_false] at q
    exact ⟨t, H', rfl, I', q⟩
  · cases ry
    obtain ⟨mA, J, _⟩ := ins_get I.hok ha
    obtain ⟨od, J, _⟩ := J.look
    have kd := kd_at I rx kx
    have rs : Vals [V.ref a, x] [Value.ref a, v] := .cons rfl (.cons rx .nil)
    show wpAny (model X.prog X.w) A (richCompare (like false) v (.ref a)) _ X.xe s
    refine back (neg := false) sb.room.units0 kd I.kIn J sub (try_eq I.kIn J M (wpAny_mono (callG_at G hA sb hb I rs h) (fun u s' z => ?_) fun _ _ z => z))
    obtain ⟨v, H', I', rv, t, rfl, q⟩ := z
    cases rv
    rw [Bool.bne_false] at q
    exact ⟨t, rfl, t, H', rfl, I', q⟩
/-- the same inside a built-in: one object is like itself -/
theorem eqb_own3 {A : Around} {pins : List (Addr × Obj)} {s : Shared} {σ : L2.St} {H : Hp} {x y : V} {v u : Value} {Q : VK} (sub : ∀ n ∈ seven, PySem.W.subIn X.K (.ref C) (.type n) = some false) (M : Meth X.K C "__eq__" f) (G : FnG X.prog X.w X.K X.mg X.base k f fd ps sp)
    (hA : A.guards = some []) (sb : Sub X k A) (hb : Binds X.K fd ps []) (I : Inv X pins σ H s) (rx : RelV x v) (ry : RelV y u) (h : rOwn3 X.K C sp x y H Q) (same : ∀ a, x = .ref a → y = .ref a → Q (.bl true) H) :
    wpAny (model X.prog X.w) A (eqBool v u) (fun t s' => ∃ H', Inv X pins σ H' s' ∧ Q (.bl t) H') X.xe s := by
  have rc := rc_own3 sub M G hA sb hb I rx ry h
  have fin : wpAny (model X.prog X.w) A (richCompare .Eq v u >>= fun r => truthOfDropped r) (fun t s' => ∃ H', Inv X pins σ H' s' ∧ Q (.bl t) H') X.xe s := by
    refine wpAny_bind (wpAny_mono rc ?_ fun _ _ z => z)
    rintro r s' ⟨t, H', rfl, I', q⟩
    exact wpAny_truthy_bool ⟨H', I', q⟩
  have ref : (∃ a, v = .ref a) ∨ ∃ a, u = .ref a := by
    rcases h with ⟨a, b, _, _, _, _, rfl, rfl, _⟩ | ⟨a, _, _, _, rfl, _⟩ | ⟨a, _, _, _, rfl, _⟩
    · cases rx; exact .inl ⟨_, rfl⟩
    · cases rx; exact .inl ⟨_, rfl⟩
    · cases ry; exact .inr ⟨_, rfl⟩
  unfold eqBool
  refine wpAny_holding ?_
  refine wpAny_ite_split (fun hab => ?_) fun _ => ?_
  · have e := eq_of_beq hab
    subst e
    have ra : ∃ a, v = .ref a := ref.elim id id
    obtain ⟨a, rfl⟩ := ra
    have one : ∀ {z : V}, RelV z (.ref a) → z = .ref a := fun {z} rz => by
      have := (show Vals [z] [.ref a] from .cons rz .nil).inj (show Vals [.ref a] [.ref a] from .cons rfl .nil)
      injection this
    have x1 := one rx
    have y1 := one ry
    exact wpAny_bind (wpAny_rule (wpAny_pure ⟨H, I, same a x1 y1⟩))
  · split
    · rename_i q
      rcases ref with ⟨a, rfl⟩ | ⟨a, rfl⟩
      · cases q
      · cases q
    · exact fin
end
end VS
set_option maxHeartbeats 1000000
namespace VS
open PySem L2 PySem.Spec PyProof.Rows
open AutoSeq1 (wpAny_loadPart')
open MeetsSeq MeetsSeq2
section
variable {X : Cx} {K : PySem.W.Frag} {k : Nat} {f C : Addr} {fd : FuncData} {ps : List Str} {sp : Sp}
def rIn1L (K : PySem.W.Frag) (C : Addr) (sp : Sp) : R2 := fun x y H Q => ∃ p w, y = .ref p ∧ H p = some (.lst [w]) ∧ rOwn3 K C sp w x H (fun v H' => H' p = some (.lst [w]) ∧ Q v H') ∧ ∀ X pins σ s, X.K = K → Inv X pins σ H s → ∀ a, w = .ref a → x = .ref a → Q (.bl true) H
def rIn1T (K : PySem.W.Frag) (C : Addr) (sp : Sp) : R2 := fun x y H Q => ∃ p w, y = .ref p ∧ SqT K H p [w] ∧ rOwn3 K C sp w x H Q ∧ ∀ X pins σ s, X.K = K → Inv X pins σ H s → ∀ a, w = .ref a → x = .ref a → Q (.bl true) H
def AnsB (X : Cx) (pins : List (Addr × Obj)) (σ : L2.St) (Q : VK) (r : Value) (s' : Shared) : Prop := ∃ t H', r = .bool t ∧ Inv X pins σ H' s' ∧ Q (.bl t) H'
theorem op_in1L (sub : ∀ n ∈ seven, PySem.W.subIn X.K (.ref C) (.type n) = some false) (M : Meth X.K C "__eq__" f) (G : FnG X.prog X.w X.K X.mg X.base k f fd ps sp) (hA : X.A.guards = some []) (hr : Room (k + 1) X.A) (hb : Binds X.K fd ps []) : OpR X (compareOp .In) (rIn1L X.K C sp) := by
  intro pins s σ H x y v u Q I rx ry h
  obtain ⟨p, w, rfl, hp, h, same⟩ := h
  cases ry
  have at_ : ∀ {H' : Hp} {s' : Shared}, Inv X pins σ H' s' → H' p = some (.lst [w]) → ∃ wv items n sl, RelV w wv ∧ items = #[wv] ∧ s'.heap.get? p = some ⟨.type "list", none, .seq items n, sl⟩ := by
    intro H' s' I' hp'
    obtain ⟨its, r, ⟨⟨cls, dd, data, sl⟩, n, e1, e2, e3, e4⟩, _⟩ := I'.list (SqL.of hp')
    simp only at e2 e3 e4
    subst e2 e3 e4
    cases r with
    | cons r1 r2 => cases r2; exact ⟨_, _, n, sl, r1, rfl, e1⟩
  obtain ⟨wv, items, n, sl, rw_, hit, hl⟩ := at_ I hp
  have h0 : items[(0 : Int).toNat]? = some wv := by rw [hit]; rfl
  have hT : s.TypeIs (.ref p) "list" := ⟨_, hl, rfl⟩
  have hA1 : X.A.in1.guards = some [] := hA
  have eqb := eqb_own3 (A := X.A.in1) sub M G hA1 ⟨hr.in1, rfl⟩ hb I rw_ rx h fun a e1 e2 => ⟨hp, same X pins σ s rfl I a e1 e2⟩
  have last : ∀ (s' : Shared) (H' : Hp), Inv X pins σ H' s' → H' p = some (.lst [w]) → Q (.bl false) H' → wpAny (model X.prog X.w) X.A.in1 (Builtin.«list.__contains__.loop» ⟨[.ref p, v, rawInt ((1 : Nat) : Int)], []⟩) (GQ.FinOf X.prog X.w X.A (wants (AnsB X pins σ Q) X.xe)) (fun e s' => wants (AnsB X pins σ Q) X.xe (.error e) s') s' := by
    intro s' H' I' hp' q
    obtain ⟨wv, items, n, sl, _, hit, hl⟩ := at_ I' hp'
    have h1 : items[(((1 : Nat) : Int)).toNat]? = none := by rw [hit]; rfl
    obtain ⟨hh, g, d, tk, os⟩ := s'
    wp_walk using wpAny_loadPart' hl
    rw [h1]
    wp_walk
    exact ⟨false, H', rfl, I', q⟩
  have loop : wpAny (model X.prog X.w) X.A.in1 (Builtin.«list.__contains__.loop» ⟨[.ref p, v, rawInt 0], []⟩) (GQ.FinOf X.prog X.w X.A (wants (AnsB X pins σ Q) X.xe)) (fun e s' => wants (AnsB X pins σ Q) X.xe (.error e) s') s := by
    obtain ⟨hh, g, d, tk, os⟩ := s
    wp_walk using wpAny_loadPart' hl
    rw [h0]
    refine wpAny_bind (wpAny_mono eqb ?_ fun _ _ z => z)
    rintro t s' ⟨H', I', hp', q⟩
    cases t with
    | true =>
      wp_walk
      exact ⟨true, H', rfl, I', q⟩
    | false =>
      wp_walk
      refine ⟨plainId_quiet plain_contains_loop _, codeAny_builtin entry_contains_loop ?_⟩
      rw [Around.under_plainId plain_contains_loop _]
      exact last _ _ I' hp' q
  have body : wpAny (model X.prog X.w) X.A.in1 (Builtin.«list.__contains__» ⟨[.ref p, v], []⟩) (GQ.FinOf X.prog X.w X.A (wants (AnsB X pins σ Q) X.xe)) (fun e s' => wants (AnsB X pins σ Q) X.xe (.error e) s') s := by
    obtain ⟨hh, g, d, tk, os⟩ := s
    wp_walk using wpAny_loadPart' hl
    refine ⟨plainId_quiet plain_contains_loop _, codeAny_builtin entry_contains_loop ?_⟩
    rw [Around.under_plainId plain_contains_loop _]
    exact loop
  show wpAny (model X.prog X.w) X.A (do return .bool (← contains (.ref p) v)) (EP X pins σ Q) X.xe s
  refine wpAny_bind (wpAny_contains_slot hT F.slot_list_contains (wpAny_mono (GQ.call_here F.slot_list_contains hT F.entry_list_contains (F.args_list_contains_2 _ _) body) ?_ fun _ _ z => z))
  rintro r s' ⟨t, H', rfl, I', q⟩
  exact wpAny_truthy_bool (wpAny_pure ⟨.bl t, H', I', rfl, q⟩)
theorem op_in1T (sub : ∀ n ∈ seven, PySem.W.subIn X.K (.ref C) (.type n) = some false) (M : Meth X.K C "__eq__" f) (G : FnG X.prog X.w X.K X.mg X.base k f fd ps sp) (hA : X.A.guards = some []) (hr : Room (k + 1) X.A) (hb : Binds X.K fd ps []) : OpR X (compareOp .In) (rIn1T X.K C sp) := by
  intro pins s σ H x y v u Q I rx ry h
  obtain ⟨p, w, rfl, hp, h, same⟩ := h
  cases ry
  obtain ⟨its, r, ⟨⟨cls, dd, data, sl⟩, hl, e2, n, e4⟩, _⟩ := I.tuple hp
  obtain ⟨items, hit⟩ : ∃ items, items = its.toArray := ⟨_, rfl⟩
  rw [← hit] at e4
  simp only at e2 e4
  subst e2 e4
  have hA1 : X.A.in1.guards = some [] := hA
  cases r with
  | cons rw_ r2 =>
  cases r2
  rename_i wv
  have hT : s.TypeIs (.ref p) "tuple" := ⟨_, hl, rfl⟩
  have eqb := eqb_own3 (A := X.A.in1) sub M G hA1 ⟨hr.in1, rfl⟩ hb I rw_ rx h fun a e1 e2 => same X pins σ s rfl I a e1 e2
  have body : wpAny (model X.prog X.w) X.A.in1 (Builtin.«tuple.__contains__» ⟨[.ref p, v], []⟩) (GQ.FinOf X.prog X.w X.A (wants (AnsB X pins σ Q) X.xe)) (fun e s' => wants (AnsB X pins σ Q) X.xe (.error e) s') s := by
    obtain ⟨hh, g, d, tk, os⟩ := s
    wp_walk using wpAny_loadPart' hl, wpAny_forIn_array _ (fun rest b s' => b.1 = none ∧ ((rest = [wv] ∧ s' = ⟨hh, g, d, tk, os⟩) ∨ (rest = [] ∧ ∃ H', Inv X pins σ H' s' ∧ Q (.bl false) H'))) _
    case turn =>
      rintro z rest b s' ⟨hb, (⟨q1, rfl⟩ | ⟨q1, _⟩)⟩
      · cases q1
        refine wpAny_bind (wpAny_mono eqb ?_ fun _ _ z => z)
        rintro t s' ⟨H', I', q⟩
        cases t with
        | true =>
          wp_walk
          exact ⟨true, H', rfl, I', q⟩
        | false =>
          wp_walk
          exact ⟨rfl, .inr ⟨rfl, H', I', q⟩⟩
      · cases q1
    case fin =>
      rintro ⟨b1, b2⟩ s' ⟨hb, (⟨q1, _⟩ | ⟨_, H', I', q⟩)⟩
      · cases q1
      · simp only at hb
        subst hb
        wp_walk
        exact ⟨false, H', rfl, I', q⟩
    case h => exact ⟨rfl, .inl ⟨by rw [hit], rfl⟩⟩
  show wpAny (model X.prog X.w) X.A (do return .bool (← contains (.ref p) v)) (EP X pins σ Q) X.xe s
  refine wpAny_bind (wpAny_contains_slot hT F.slot_tuple_contains (wpAny_mono (GQ.call_here F.slot_tuple_contains hT F.entry_tuple_contains (F.args_tuple_contains_2 _ _) body) ?_ fun _ _ z => z))
  rintro r s' ⟨t, H', rfl, I', q⟩
  exact wpAny_truthy_bool (wpAny_pure ⟨.bl t, H', I', rfl, q⟩)
end
theorem Grow.ex {K : PySem.W.Frag} {T : Txt} {F H F' H' : Hp} (e : Ex F H) (g : Grow K T F H F' H') : Ex F' H' := by
  have r : Rel K T F (fun _ => none) (fun _ => none) [] [] H := ⟨e, fun _ _ q => (by cases q), fun _ _ _ => rfl, rfl, fun _ _ q => (by simp at q), fun _ _ _ q => (by simp at q), fun _ _ _ _ _ _ _ q => (by simp at q), fun _ _ q => (by cases q)⟩
  exact (g.2 _ _ _ _ r).exF
def ownD : D → Bool
  | .ins _ _ => true
  | _ => false
def blOf : Option D → Option Bool
  | some (.bl t) => some t
  | _ => none
theorem blOf_some {o : Option D} {t : Bool} (h : blOf o = some t) : o = some (.bl t) := by
  unfold blOf at h
  split at h
  · cases h; rfl
  · cases h
/-- whether an item is like a thing, one of them an own object -/
def eqOwn (c : Nat) (G : Fn) (y x : D) : Option Bool := match y, x with
  | .ins c1 ys, .ins c2 xs => if c1 = c ∧ c2 = c ∧ flatFs ys = true ∧ flatFs xs = true ∧ blOf (said G [.ins c1 ys, .ins c1 ys]) = some true then blOf (said G [.ins c1 ys, .ins c2 xs]) else none
  | .ins c1 ys, x => if c1 = c ∧ (tyD x).isSome = true then blOf (said G [.ins c1 ys, x]) else none
  | y, .ins c2 xs => if c2 = c ∧ (tyD y).isSome = true then blOf (said G [.ins c2 xs, y]) else none
  | _, _ => none
def inJ (c : Nat) (G : Fn) (x y : D) : Option D := match y with
  | .lst [w] => if (ownD x || ownD w) = true then (eqOwn c G w x).map .bl else inD x (.lst [w])
  | .tup [w] => if (ownD x || ownD w) = true then (eqOwn c G w x).map .bl else inD x (.tup [w])
  | y => inD x y
section
variable {K : PySem.W.Frag} {T : Txt} {c : Nat} {G : Fn}
theorem own3_of {F H : Hp} {y x : D} {t : Bool} {w v : V} {Q : VK} (h : eqOwn c G y x = some t) (e : Ex F H) (ry : Rep K T F y w) (rx : Rep K T F x v) (k : ∀ F' H', Grow K T F H F' H' → Q (.bl t) H') : rOwn3 K (T.cl c) (spG K T G 2) w v H Q := by
  unfold eqOwn at h
  split at h
  · split at h
    · rename_i c1 ys c2 xs hc
      obtain ⟨rfl, rfl, _⟩ := hc
      have q := blOf_some h
      obtain ⟨a, dx, vs, rfl, h1, h2, h3⟩ := id ry
      obtain ⟨b, dy, ws, rfl, g1, g2, g3⟩ := id rx
      refine .inl ⟨a, b, dx, dy, _, _, rfl, rfl, e _ _ h1, e _ _ g1, spG_pure (ds := [_, _]) e (.cons ry (.one rx)) (said_eq q) fun u F' H' g p => ?_⟩
      obtain rfl : u = .bl t := p
      exact ⟨t, rfl, by rw [Bool.bne_false]; exact k F' H' g⟩
    · cases h
  · split at h
    · rename_i hc
      obtain ⟨rfl, ht⟩ := hc
      obtain ⟨n, hn⟩ := Option.isSome_iff_exists.mp ht
      have q := blOf_some h
      obtain ⟨a, dx, vs, rfl, h1, h2, h3⟩ := id ry
      refine .inr (.inl ⟨a, dx, _, n, rfl, e _ _ h1, kdv_of hn e rx, spG_pure (ds := [_, _]) e (.cons ry (.one rx)) (said_eq q) fun u F' H' g p => ?_⟩)
      obtain rfl : u = .bl t := p
      exact ⟨t, rfl, by rw [Bool.bne_false]; exact k F' H' g⟩
    · cases h
  · split at h
    · rename_i hc
      obtain ⟨rfl, ht⟩ := hc
      obtain ⟨n, hn⟩ := Option.isSome_iff_exists.mp ht
      have q := blOf_some h
      obtain ⟨a, dx, vs, rfl, h1, h2, h3⟩ := id rx
      refine .inr (.inr ⟨a, dx, _, n, rfl, e _ _ h1, kdv_of hn e ry, spG_pure (ds := [_, _]) e (.cons rx (.one ry)) (said_eq q) fun u F' H' g p => ?_⟩)
      obtain rfl : u = .bl t := p
      exact ⟨t, rfl, by rw [Bool.bne_false]; exact k F' H' g⟩
    · cases h
  · cases h
theorem own_kind {X : Cx} {pins : List (Addr × Obj)} {σ : L2.St} {F H : Hp} {s : Shared} (I : Inv X pins σ H s) (e : Ex F H) {xs : List D} {d : D} {n : String} {a : Addr} (r : Rep X.K T F (.ins c xs) (.ref a)) (hn : tyD d = some n) (r' : Rep X.K T F d (.ref a)) : False := by
  obtain ⟨a', dx, vs, e1, h1, _⟩ := r
  cases e1
  obtain ⟨mA, J, _⟩ := ins_get I.hok (e _ _ h1)
  obtain ⟨od, J, _⟩ := J.look
  have ty := (kd_at I (x := .ref a) (u := .ref a) rfl (kdv_of hn e r')).type
  obtain ⟨o, g1, g2⟩ := ty
  rw [J.at_] at g1
  cases g1
  rw [J.cls] at g2
  cases g2
theorem same_of {X : Cx} {pins : List (Addr × Obj)} {σ : L2.St} {F H : Hp} {s : Shared} (I : Inv X pins σ H s) (e : Ex F H) {y x : D} {t : Bool} {a : Addr} (h : eqOwn c G y x = some t) (ry : Rep X.K T F y (.ref a)) (rx : Rep X.K T F x (.ref a)) : t = true := by
  unfold eqOwn at h
  split at h
  · split at h
    · rename_i c1 ys c2 xs hc
      obtain ⟨rfl, rfl, f1, f2, q⟩ := hc
      rw [← ins_one I e f1 f2 ry rx, q] at h
      cases h; rfl
    · cases h
  · split at h
    · rename_i hc
      obtain ⟨n, hn⟩ := Option.isSome_iff_exists.mp hc.2
      exact (own_kind I e ry hn rx).elim
    · cases h
  · split at h
    · rename_i hc
      obtain ⟨n, hn⟩ := Option.isSome_iff_exists.mp hc.2
      exact (own_kind I e rx hn ry).elim
    · cases h
  · cases h
theorem opv_inJ : OpV K T (fun x y H Q => rInA K false x y H Q ∨ (rIn1L K (T.cl c) (spG K T G 2) x y H Q ∨ rIn1T K (T.cl c) (spG K T G 2) x y H Q)) (inJ c G) := by
  intro x y z h F H v u Q e rx ry k
  unfold inJ at h
  split at h
  · rename_i w
    split at h
    · cases q : eqOwn c G w x with
      | none => rw [q] at h; cases h
      | some t =>
        rw [q] at h
        cases h
        obtain ⟨p, us, rfl, hp, wv, r0, e1, rw_, r2⟩ := ry
        cases (show r0 = [] from r2)
        subst e1
        refine .inr (.inl ⟨p, wv, rfl, e _ _ hp, own3_of q e rw_ rx fun F' H' g => ⟨Grow.ex e g _ _ (g.1 _ _ hp), k _ F' H' g rfl⟩, ?_⟩)
        rintro X pins σ s rfl I a rfl rfl
        have := same_of I e q rw_ rx
        subst this
        exact k _ F H Grow.refl rfl
    · exact .inl (opv_in x _ z h F H v u Q e rx ry k)
  · rename_i w
    split at h
    · cases q : eqOwn c G w x with
      | none => rw [q] at h; cases h
      | some t =>
        rw [q] at h
        cases h
        obtain ⟨p, us, rfl, hp, wv, r0, e1, rw_, r2⟩ := ry
        cases (show r0 = [] from r2)
        subst e1
        refine .inr (.inr ⟨p, wv, rfl, e.sqT hp, own3_of q e rw_ rx fun F' H' g => k _ F' H' g rfl, ?_⟩)
        rintro X pins σ s rfl I a rfl rfl
        have := same_of I e q rw_ rx
        subst this
        exact k _ F H Grow.refl rfl
    · exact .inl (opv_in x _ z h F H v u Q e rx ry k)
  · exact .inl (opv_in x _ z h F H v u Q e rx ry k)
end
section
variable {T : Txt} {X : Cx} {k : Nat} {ps : List Str} {c : Nat} {G : Fn}
theorem cmp_inJ (S : SpG X.K T c) (M : CalM X.prog X.w X.K X.mg X.base T k c "__eq__" G ps) (hA : X.A.guards = some []) (hr : Room (k + 1) X.A) (hn : ps.length = 2 := by rfl) : Cmp X T .In (inJ c G) := by
  obtain ⟨f, fd, hG, hM, hb⟩ := M.ex
  rw [hn] at hG
  exact ⟨_, opr_or (op_inA (by have := hr.un; omega)) (opr_or (op_in1L S.sub hM hG hA hr hb) (op_in1T S.sub hM hG hA hr hb)), opv_inJ⟩
end
end VS
set_option maxHeartbeats 1000000
/-! A class made by keywords alone. -/
namespace VS
open PySem L2 PySem.Spec PyProof.Rows
structure CalCK (P : Program) (w : World) (K : PySem.W.Frag) (mg : Str → Option Value) (base : Heap) (T : Txt) (k : Nat) (x : Str) (c : Nat) (G : Fn) (ps ks : List Str) (idx : List Nat) : Prop where
  ex : ∃ f fd, FnG P w K mg base k f fd ps (spG K T G ps.length) ∧ mg x = some (.ref (T.cl c)) ∧ Mk K (T.cl c) f ∧ ∀ (s : Shared) (u : Value) (ws : List Value), K.In s.heap → ws.length = ks.length → BindsTo s fd ⟨[u], ks.zip ws⟩ (ps.zip (u :: permL idx ws))
theorem bindsCK {K : PySem.W.Frag} {x qual : Str} {params : Arguments} {body : List Stmt} {scope : Scope} {dvs : List V} {kws : List (Str × V)} {f : Addr} {fd : FuncData} {ps ks : List Str} {idx : List Nat} (F : FunD K x qual params body scope dvs kws f fd) (hd : dvs ≠ [])
    (h : ∀ (T : Addr) (kV doc pm : Value) (an : Option Addr) (cdv ct u : Value) (ws its : List Value), ws.length = ks.length → its.length = dvs.length →
      ∃ k, bindArgs (PySem.W.fnOf x qual params body scope (.ref T) kV doc pm an cdv ct) ⟨[u], ks.zip ws⟩ = seqItems? (.ref T) >>= k ∧ k (some its.toArray) = pure (ps.zip (u :: permL idx ws)))
    (s : Shared) (u : Value) (ws : List Value) (X : K.In s.heap) (hl : ws.length = ks.length) : BindsTo s fd ⟨[u], ks.zip ws⟩ (ps.zip (u :: permL idx ws)) := by
  obtain ⟨oc, od, dV, kV, doc, pm, an, cdv, ct, osl, rfl, lk, hcd, hD, hK⟩ := F.ex
  rcases hD with ⟨e, _⟩ | ⟨_, T, o, its, m, rfl, lT, oT, rT⟩
  · exact absurd e hd
  · obtain ⟨k, e1, e2⟩ := h T kV doc pm an cdv ct u ws its hl rT.length.symm
    refine BindsTo.of_looks fun M => ?_
    rw [e1]
    exact looks_items X lT oT (.of_pure e2)
section
variable {T : Txt} {X : Cx} {W : WX} {e : Expr} {es : List Expr} {pos p : Pos} {c k n : Nat} {x : Str} {G : Fn} {ps ks : List Str} {C f : Addr} {fd : FuncData} {sp : Sp} {idx : List Nat}
theorem jr_makeP {G : Fn} {n : Nat} {dvs : List V} {dd : List D} {g : Ev (List D)} (hdv : ∀ F, Reps X.K T F dd dvs) (ha : ∀ ρ, PE X e (tMakeG (T.cl c) (spG X.K T G n) dvs W (rdA X.K T W ρ (g ρ)))) :
    JR T X W e (mMake G c n dd g) := fun ρ => by
  have p1 := ha ρ
  unfold mMake
  cases q1 : g ρ with
  | stuck => exact pe_no
  | ex c ds ρ1 => rw [q1] at p1; exact pe_weak p1 fun σ H Q q => q
  | ok ds0 ρ1 =>
    rw [q1] at p1
    simp only [R.bind_ok]
    by_cases hn : (ds0 ++ dd).length + 1 = n
    · rw [if_pos hn]
      have main : ∀ {σ : L2.St} {F Z : Hp} {L : Nat → Option Addr} {vs : List V} {H1 : Hp} {Q : VK} {a dx : Addr} {rr : Res} {m : MO}, Rel X.K T F Z L σ ρ1 H1 → Reps X.K T F (ds0 ++ dd) vs → H1 a = none → H1 dx = none → dx ≠ a →
          G (.l (.ins c []) :: (ds0 ++ dd).map Arg.v) = some (rr, [m]) →
          (match rr with
            | .ok d => d = .non ∧ ∀ o F' H', Ex F F' → Z a = none → Rel X.K T F' (upd Z a o) L σ ρ1 H' → RepO X.K T F' m o → Q (.ref a) H'
            | .ex e xs => ∀ cls dd F' H', Ex F F' → Rel X.K T F' Z L σ ρ1 H' → ExR X.K T F' cls dd e xs → W cls dd σ H'
            | .nw _ => False) →
          spG X.K T G n (.ref a :: vs) (upd (upd H1 dx (.own a)) a (.ins (T.cl c) dx [])) (fun v H2 => v = .non ∧ Q (.ref a) H2) (WE W σ) := by
        intro σ F Z L vs H1 Q a dx rr m r1 x1 ha hd hne hG k
        have hl : ρ1.length = σ.length := r1.len
        have rp := r1.push (c := c) ha hd hne
        have eR : resolve (ρ1 ++ [some (Sl.own false (.ins c []))]) (AR.l ρ1.length :: (ds0 ++ dd).map AR.v) = some (.l (.ins c []) :: (ds0 ++ dd).map Arg.v) := by
          have q : (ρ1 ++ [some (Sl.own false (MO.ins c []))])[ρ1.length]? = some (some (Sl.own false (.ins c []))) := by rw [List.getElem?_append_right (Nat.le_refl _)]; simp
          unfold resolve
          rw [q, resolve_vs]
          rfl
        have eP : putBack (ρ1 ++ [some (Sl.own false (.ins c []))]) (AR.l ρ1.length :: (ds0 ++ dd).map AR.v) [m] = ρ1 ++ [some (Sl.own false m)] := by
          rw [putBack, setM_last, putBack_vs]
        have hc : (lentIx (AR.l ρ1.length :: (ds0 ++ dd).map AR.v)).Nodup ∧ (AR.l ρ1.length :: (ds0 ++ dd).map AR.v).length = n := by
          rw [lentIx, lentIx_vs]
          exact ⟨by simp, by simpa using hn⟩
        have av : ARs X.K T F (σ ++ [some (V.ref a)]) (AR.l ρ1.length :: (ds0 ++ dd).map AR.v) (.ref a :: vs) := by
          refine ⟨_, vs, rfl, by rw [List.getElem?_append_right (by rw [hl]; exact Nat.le_refl _), hl, Nat.sub_self]; rfl, ?_⟩
          have := ARs.vals (K := X.K) (T := T) (F := F) (σ := σ ++ [some (V.ref a)]) (ars := []) (vs := []) rfl x1
          simpa using this
        cases rr with
        | ok d =>
          obtain ⟨rfl, k⟩ := k
          have eC : callR G n (AR.l ρ1.length :: (ds0 ++ dd).map AR.v) (ρ1 ++ [some (Sl.own false (.ins c []))]) = .ok (.ok .non) (ρ1 ++ [some (Sl.own false m)]) := by
            unfold callR
            rw [if_pos hc, eR]
            dsimp only
            rw [hG]
            dsimp only
            rw [eP]
          refine call_mid (W := fun cls dd _ H => W cls dd σ H) eC rp av fun v F' H' e' r' x' => ⟨x', ?_⟩
          obtain ⟨a', o, ea, hz, px, r2⟩ := r'.pop
          cases ea
          exact k o F' H' e' hz r2 px
        | nw _ => exact k.elim
        | ex e' xs =>
          have eC : callR G n (AR.l ρ1.length :: (ds0 ++ dd).map AR.v) (ρ1 ++ [some (Sl.own false (.ins c []))]) = .ex e' xs (ρ1 ++ [some (Sl.own false m)]) := by
            unfold callR
            rw [if_pos hc, eR]
            dsimp only
            rw [hG]
            dsimp only
            rw [eP]
          refine call_mid (W := fun cls dd _ H => W cls dd σ H) eC rp av fun cls dd F' H' e' r' x' => ?_
          obtain ⟨a', o, ea, hz, px, r2⟩ := r'.pop
          exact k cls dd F' H' e' (r2.zDrop hz).1 x'
      split
      · rename_i m hG
        refine pe_weak p1 fun σ H Q ⟨F, Z, L, r, k⟩ => ⟨F, Z, L, r, fun vs F1 H1 e1 r1 x1 a dx ha hd hne => ?_⟩
        exact main r1 (x1.append (hdv F1)) ha hd hne hG ⟨rfl, fun o F' H' e' hz r' px => k a o F' H' (e1.trans e') hz r' px⟩
      · rename_i e' xs m hG
        refine pe_weak p1 fun σ H Q ⟨F, Z, L, r, k⟩ => ⟨F, Z, L, r, fun vs F1 H1 e1 r1 x1 a dx ha hd hne => ?_⟩
        exact main r1 (x1.append (hdv F1)) ha hd hne hG fun cls dd F' H' e' r' px => k cls dd F' H' (e1.trans e') r' px
      · exact pe_no
    · rw [if_neg hn]; exact pe_no
theorem runMakeK {pins : List (Addr × Obj)} {σ : L2.St} {H : Hp} {s : Shared} {Q : VK} {ws : List Value} {vs : List V} (M : Mk X.K C f) (G : FnG X.prog X.w X.K X.mg X.base k f fd ps sp) (hA : X.A.guards = some []) (hr : Room (k + 1) X.A)
    (hb : ∀ (s : Shared) (u : Value) (ws : List Value), X.K.In s.heap → ws.length = ks.length → BindsTo s fd ⟨[u], ks.zip ws⟩ (ps.zip (u :: permL idx ws))) (tk : Takes X W) (I : Inv X pins σ H s) (r : Vals vs ws) (hl : vs.length = ks.length)
    (h : ∀ a dx, H a = none → H dx = none → dx ≠ a → sp (.ref a :: (permL idx vs ++ [])) (upd (upd H dx (.own a)) a (.ins C dx [])) (fun v H2 => v = .non ∧ Q (.ref a) H2) (WE W σ)) :
    wpAny (model X.prog X.w) X.A (call (.ref C) [] (ks.zip ws)) (EP X pins σ Q) X.xe s := by
  have z := h (s.heap.objs.size + 1) s.heap.objs.size (I.hok.fresh (Nat.le_succ _)) (I.hok.fresh (Nat.le_refl _)) (Nat.ne_of_lt (Nat.lt_succ_self _))
  rw [List.append_nil] at z
  have J := Inv.made (C := C) I
  have r2 : Vals (V.ref (s.heap.objs.size + 1) :: permL idx vs) (Value.ref (s.heap.objs.size + 1) :: permL idx ws) := .cons rfl (permL_vals r idx)
  refine wpAny_call (make_map (f := f) I.kIn M.makes M.init (beq_iff_eq.mp M.fn) (codeAny_mono (G.run (args := ⟨[Value.ref (s.heap.objs.size + 1)], ks.zip ws⟩) (make_guards hA) (hr.make C [] (ks.zip ws)) (J.env0.make C [] (ks.zip ws)) (hb _ _ ws J.kIn (r.length.symm.trans hl)) r2 z) ?_))
  intro y s2 hy
  cases y with
  | error u => exact passAt tk σ pins _ _ u s2 J hy
  | ok fl =>
    cases fl with
    | ret u =>
      obtain ⟨v, H', J2, rv, ev, q3⟩ := J.after hy
      subst ev
      exact ⟨rv, ⟨V.ref (s.heap.objs.size + 1), H', J2, rfl, q3⟩⟩
    | next => exact hy.elim
    | brk => exact hy.elim
    | cont => exact hy.elim
def tPerm (kn : Nat) (idx : List Nat) (t : TA) : TA := fun σ H Q => t σ H fun vs H1 => vs.length = kn ∧ Q (permL idx vs) H1
theorem pe_makeK {kws : List Keyword} {t : TA} (M : Mk X.K C f) (G : FnG X.prog X.w X.K X.mg X.base k f fd ps sp) (hA : X.A.guards = some []) (hr : Room (k + 1) X.A) (hg : Gl X x) (hm : X.mg x = some (.ref C))
    (hb : ∀ (s : Shared) (u : Value) (ws : List Value), X.K.In s.heap → ws.length = ks.length → BindsTo s fd ⟨[u], ks.zip ws⟩ (ps.zip (u :: permL idx ws))) (tk : Takes X W) (hkw : PK X kws t)
    (hall : (backToKw pos (keywordEach kws X.env)).all (·.1.isSome) = true) (hks : (backToKw pos (keywordEach kws X.env)).filterMap (·.1) = ks) (hdb : (x == ("__debug__" : Str)) = false)
    (hpl : ((backTo pos (starEach [] X.env)).any (·.1) || (backToKw pos (keywordEach kws X.env)).any (·.1.isNone)) = false) : PE X (.Call (.Name x p) [] kws pos) (tMakeG C sp [] W (tPerm ks.length idx t)) := ⟨fun pins s σ H Q I h => by
  refine wpAny_Call_Name_kw (ld_glob I hg hm ?_ hdb)
  refine PySem.W.callWith_KW0 (h₀ := X.base) I.ok.mod.kin M.kp hall (thn (hkw.run pos pins s σ H _ I h) ?_) hpl
  rintro ws s1 ⟨vs, H1, I1, r, hl, q⟩
  refine ⟨I1.kIn, ?_⟩
  rw [hks]
  exact runMakeK M G hA hr hb tk I1 r hl q⟩
def mPerm (kn : Nat) (idx : List Nat) (g : Ev (List D)) : Ev (List D) := fun ρ => (g ρ).bind fun ds ρ1 => if ds.length = kn then .ok (permL idx ds) ρ1 else .stuck
theorem jr_clsK {kws : List Keyword} {g : Ev (List D)} {kn : Nat} (h : CalCK X.prog X.w X.K X.mg X.base T k x c G ps ks idx) (hA : X.A.guards = some []) (hr : Room (k + 1) X.A) (tk : Takes X W) (ha : rdKw T X W kws g) (hn : ps.length = n := by rfl) (hkn : ks.length = kn := by rfl) (hg : Gl X x := by rfl)
    (hall : (backToKw pos (keywordEach kws X.env)).all (·.1.isSome) = true := by rfl) (hks : (backToKw pos (keywordEach kws X.env)).filterMap (·.1) = ks := by rfl) (hdb : (x == ("__debug__" : Str)) = false := by decide)
    (hpl : ((backTo pos (starEach [] X.env)).any (·.1) || (backToKw pos (keywordEach kws X.env)).any (·.1.isNone)) = false := by rfl) : JR T X W (.Call (.Name x p) [] kws pos) (mMake G c n [] (mPerm kn idx g)) := by
  subst hn hkn
  obtain ⟨f, fd, hG, hm, hM, hb⟩ := h.ex
  refine jr_makeP (dvs := []) (fun _ => rfl) fun ρ => ?_
  refine pe_weak (pe_makeK hM hG hA hr hg hm hb tk (ha ρ) hall hks hdb hpl) fun σ H Q q => ?_
  unfold mPerm at q
  unfold tMakeG tPerm
  cases q1 : g ρ with
  | stuck => rw [q1] at q; exact q.elim
  | ex c ds ρ1 => rw [q1] at q; exact q
  | ok ds ρ1 =>
    rw [q1] at q
    simp only [R.bind_ok] at q
    by_cases hl : ds.length = ks.length
    · rw [if_pos hl] at q
      obtain ⟨F, Z, L, r, k⟩ := q
      exact ⟨F, Z, L, r, fun vs F1 H1 e1 r1 x1 => ⟨x1.length.trans hl, k _ F1 H1 e1 r1 (permL_reps x1 idx)⟩⟩
    · rw [if_neg hl] at q; exact q.elim
end
end VS
set_option maxHeartbeats 2000000
/-! What must hold of a run over slots: a calculus of conditions, from the front, one rule a combinator. -/
namespace VS
open PySem L2
abbrev EX := Nat → List D → VEnv → Prop
/-- a mark that hangs on what follows: so what follows is not looked into by the simplifier -/
structure Tag {α : Sort u} (a : α) : Type where
  n : Nat
def wR {α : Type} (r : R α) (Q : α → VEnv → Prop) (E : EX) (_ : Tag Q := ⟨0⟩) (_ : Tag E := ⟨0⟩) : Prop := match r with
  | .ok a ρ => Q a ρ
  | .ex c ds ρ => E c ds ρ
  | .stuck => False
def wO {α : Type} (o : Option α) (Q : α → Prop) (_ : Tag Q := ⟨0⟩) : Prop := match o with
  | some a => Q a
  | none => False
def wS (r : RS) (N : VEnv → Prop) (Z : RS → Prop) (_ : Tag N := ⟨0⟩) (_ : Tag Z := ⟨0⟩) : Prop := match r with
  | .nx ρ => N ρ
  | .stuck => False
  | r => Z r
def wB (b : Bool) (P Q : Prop) (_ : Tag P := ⟨0⟩) (_ : Tag Q := ⟨0⟩) : Prop := if b = true then P else Q
def wC (p : Prop) (K : Prop) (_ : Tag K := ⟨0⟩) : Prop := p ∧ K
def wF (o : Option (Res × List MO)) (K : Res → List MO → Prop) (_ : Tag K := ⟨0⟩) : Prop := match o with
  | some (r, ms) => K r ms
  | none => False
def wP {α β : Type} (p : α × β) (K : α → β → Prop) (_ : Tag K := ⟨0⟩) : Prop := K p.1 p.2
@[simp ↓] theorem wP_mk {α β : Type} (a : α) (b : β) (K : α → β → Prop) : wP (a, b) K = K a b := id rfl
def wSet (i : Nat) (s : Option Sl) (ρ : VEnv) (K : VEnv → Prop) (_ : Tag K := ⟨0⟩) : Prop := K (ρ.set i s)
def wWipe (ρ : VEnv) (vs : List Nat) (K : VEnv → Prop) (_ : Tag K := ⟨0⟩) : Prop := K (wipeE ρ vs)
def wRest (ρ0 ρ : VEnv) (vs : List Nat) (K : VEnv → Prop) (_ : Tag K := ⟨0⟩) : Prop := K (restoreE ρ0 ρ vs)
def wPut (ρ : VEnv) (as : List AR) (ms : List MO) (K : VEnv → Prop) (_ : Tag K := ⟨0⟩) : Prop := K (putBack ρ as ms)
def wRes (r : Res) (K : D → Prop) (_ : Tag K := ⟨0⟩) : Prop := match r with
  | .ok d => K d
  | .nw m => K m.frz
  | .ex _ _ => False
def wNew (r : Res) (K : MO → Prop) (_ : Tag K := ⟨0⟩) : Prop := match r with
  | .nw m => K m
  | _ => False
/-- what is not to be looked into -/
def Hide (p : Prop) (_ : Tag p := ⟨0⟩) : Prop := p
theorem hide {p : Prop} (h : p) : Hide p := h
section
variable {α β : Type} {Q : α → VEnv → Prop} {E : EX} {N : VEnv → Prop} {Z : RS → Prop} {ρ ρ' ρ0 : VEnv} {P P' : Prop}
@[simp] theorem wR_ok (a : α) : wR (.ok a ρ) Q E = Q a ρ := id rfl
@[simp] theorem wR_ex (c : Nat) (ds : List D) : wR (.ex c ds ρ) Q E = E c ds ρ := id rfl
@[simp] theorem wR_stuck : wR (.stuck : R α) Q E = False := id rfl
@[simp] theorem wO_some (a : α) (K : α → Prop) : wO (some a) K = K a := id rfl
@[simp] theorem wO_none (K : α → Prop) : wO none K = False := id rfl
@[simp] theorem wS_nx : wS (.nx ρ) N Z = N ρ := id rfl
@[simp] theorem wS_rt (d : D) : wS (.rt d ρ) N Z = Z (.rt d ρ) := id rfl
@[simp] theorem wS_rn (d : MO) : wS (.rn d ρ) N Z = Z (.rn d ρ) := id rfl
@[simp] theorem wS_bk : wS (.bk ρ) N Z = Z (.bk ρ) := id rfl
@[simp] theorem wS_ct : wS (.ct ρ) N Z = Z (.ct ρ) := id rfl
@[simp] theorem wS_ex (c : Nat) (ds : List D) : wS (.ex c ds ρ) N Z = Z (.ex c ds ρ) := id rfl
@[simp] theorem wS_stuck : wS .stuck N Z = False := id rfl
@[simp] theorem wB_true : wB true P P' = P := by simp [wB]
@[simp] theorem wB_false : wB false P P' = P' := by simp [wB]
@[simp] theorem wC_true : wC True P = P := by simp [wC]
@[simp] theorem wC_false : wC False P = False := by simp [wC]
@[simp] theorem wF_some (r : Res) (ms : List MO) (K : Res → List MO → Prop) : wF (some (r, ms)) K = K r ms := id rfl
@[simp] theorem wF_none (K : Res → List MO → Prop) : wF none K = False := id rfl
@[simp] theorem wRes_ok (d : D) (K : D → Prop) : wRes (.ok d) K = K d := id rfl
@[simp] theorem wRes_nw (d : MO) (K : D → Prop) : wRes (.nw d) K = K d.frz := id rfl
@[simp] theorem wNew_nw (d : MO) (K : MO → Prop) : wNew (.nw d) K = K d := id rfl
@[simp] theorem frz_lst (xs : List D) : (MO.lst xs).frz = .lst xs := id rfl
@[simp] theorem frz_dct (xs : List (Key × D)) : (MO.dct xs).frz = .dct xs := id rfl
@[simp] theorem frz_ins (c : Nat) (xs : List D) : (MO.ins c xs).frz = .ins c xs := id rfl
theorem wR_bind {r : R β} {k : β → VEnv → R α} : wR (r.bind k) Q E = wR r (fun x ρ1 => wR (k x ρ1) Q E) E := by cases r <;> rfl
theorem wR_of {o : Option α} : wR (R.of o ρ) Q E = wO o fun a => Q a ρ := by cases o <;> rfl
theorem wS_thenS {r : R D} {k : D → VEnv → RS} : wS (r.thenS k) N Z = wR r (fun x ρ1 => wS (k x ρ1) N Z) fun c ds ρ => Z (.ex c ds ρ) := by cases r <;> rfl
theorem wS_thenB {r : R Bool} {k : Bool → VEnv → RS} : wS (r.thenB k) N Z = wR r (fun x ρ1 => wS (k x ρ1) N Z) fun c ds ρ => Z (.ex c ds ρ) := by cases r <;> rfl
theorem wS_thenM {r : R MO} {k : MO → VEnv → RS} : wS (r.thenM k) N Z = wR r (fun x ρ1 => wS (k x ρ1) N Z) fun c ds ρ => Z (.ex c ds ρ) := by cases r <;> rfl
theorem wS_thenL {r : R (List D)} {k : List D → VEnv → RS} : wS (r.thenL k) N Z = wR r (fun x ρ1 => wS (k x ρ1) N Z) fun c ds ρ => Z (.ex c ds ρ) := by cases r <;> rfl
theorem wR_ext {r : R α} {Q' : α → VEnv → Prop} (h : ∀ a ρ, Q a ρ = Q' a ρ) : wR r Q E = wR r Q' E := by
  have : Q = Q' := funext fun a => funext fun ρ => h a ρ
  subst this; rfl
theorem wO_ext {o : Option α} {K K' : α → Prop} (h : ∀ a, K a = K' a) : wO o K = wO o K' := by
  have : K = K' := funext h
  subst this; rfl
/-! ### reading slots -/
def rdV (i : Nat) (ρ : VEnv) : Option D := match ρ[i]? with
  | some (some (Sl.val d)) => some d
  | _ => none
def rdO (i : Nat) (ρ : VEnv) : Option MO := match ρ[i]? with
  | some (some (Sl.own _ m)) => some m
  | _ => none
def rdL (i : Nat) (ρ : VEnv) : Option (Bool × MO) := match ρ[i]? with
  | some (some (Sl.own l m)) => some (l, m)
  | _ => none
@[simp ↓] theorem rdV_0 (d : D) (K : D → Prop) : wO (rdV 0 (some (.val d) :: ρ)) K = K d := id rfl
@[simp ↓] theorem rdV_m (o : Option D) (K : D → Prop) : wO (rdV 0 (o.map Sl.val :: ρ)) K = wO o K := by cases o <;> rfl
@[simp ↓] theorem rdV_S (i : Nat) (x : Option Sl) (K : D → Prop) : wO (rdV (i + 1) (x :: ρ)) K = wO (rdV i ρ) K := by simp [rdV]
@[simp ↓] theorem rdO_0 (l : Bool) (d : MO) (K : MO → Prop) : wO (rdO 0 (some (.own l d) :: ρ)) K = K d := id rfl
@[simp ↓] theorem rdO_S (i : Nat) (x : Option Sl) (K : MO → Prop) : wO (rdO (i + 1) (x :: ρ)) K = wO (rdO i ρ) K := by simp [rdO]
@[simp ↓] theorem rdL_0 (l : Bool) (d : MO) (K : Bool × MO → Prop) : wO (rdL 0 (some (.own l d) :: ρ)) K = K (l, d) := id rfl
@[simp ↓] theorem rdL_S (i : Nat) (x : Option Sl) (K : Bool × MO → Prop) : wO (rdL (i + 1) (x :: ρ)) K = wO (rdL i ρ) K := by simp [rdL]
/-! ### writing slots -/
@[simp ↓] theorem wSet_0 (s x : Option Sl) (K : VEnv → Prop) : wSet 0 s (x :: ρ) K = K (s :: ρ) := id rfl
@[simp ↓] theorem wSet_S (i : Nat) (s x : Option Sl) (K : VEnv → Prop) : wSet (i + 1) s (x :: ρ) K = wSet i s ρ fun ρ' => K (x :: ρ') := id rfl
@[simp ↓] theorem wsv_S (i : Nat) (d : D) (x : Option Sl) (K : VEnv → Prop) : wO (setV (i + 1) d (x :: ρ)) K = wO (setV i d ρ) fun ρ' => K (x :: ρ') := by
  unfold setV
  rw [List.getElem?_cons_succ]
  split <;> rename_i h <;> simp [h]
@[simp ↓] theorem wsv_n (d : D) (K : VEnv → Prop) : wO (setV 0 d (none :: ρ)) K = K (some (.val d) :: ρ) := id rfl
@[simp ↓] theorem wsv_v (d e : D) (K : VEnv → Prop) : wO (setV 0 d (some (.val e) :: ρ)) K = K (some (.val d) :: ρ) := id rfl
@[simp ↓] theorem wsv_m (d : D) (o : Option D) (K : VEnv → Prop) : wO (setV 0 d (o.map Sl.val :: ρ)) K = K (some (.val d) :: ρ) := by cases o <;> rfl
@[simp ↓] theorem wsv_o (d : D) (m : MO) (K : VEnv → Prop) : wO (setV 0 d (some (.own false m) :: ρ)) K = K (some (.val d) :: ρ) := id rfl
@[simp ↓] theorem wso_S (i : Nat) (d : MO) (x : Option Sl) (K : VEnv → Prop) : wO (setO (i + 1) d (x :: ρ)) K = wO (setO i d ρ) fun ρ' => K (x :: ρ') := by
  unfold setO
  rw [List.getElem?_cons_succ]
  split <;> rename_i h <;> simp [h]
@[simp ↓] theorem wso_n (d : MO) (K : VEnv → Prop) : wO (setO 0 d (none :: ρ)) K = K (some (.own false d) :: ρ) := id rfl
@[simp ↓] theorem wso_v (d : MO) (e : D) (K : VEnv → Prop) : wO (setO 0 d (some (.val e) :: ρ)) K = K (some (.own false d) :: ρ) := id rfl
@[simp ↓] theorem wso_m (d : MO) (o : Option D) (K : VEnv → Prop) : wO (setO 0 d (o.map Sl.val :: ρ)) K = K (some (.own false d) :: ρ) := by cases o <;> rfl
@[simp ↓] theorem wso_M (d : MO) (o : Option MO) (K : VEnv → Prop) : wO (setO 0 d (o.map (Sl.own false) :: ρ)) K = K (some (.own false d) :: ρ) := by cases o <;> rfl
@[simp ↓] theorem wso_o (d m : MO) (K : VEnv → Prop) : wO (setO 0 d (some (.own false m) :: ρ)) K = K (some (.own false d) :: ρ) := id rfl
@[simp ↓] theorem wsm_S (i : Nat) (m : MO) (x : Option Sl) (K : VEnv → Prop) : K (setM (i + 1) m (x :: ρ)) = (fun ρ' => K (x :: ρ')) (setM i m ρ) := by
  unfold setM
  rw [List.getElem?_cons_succ]
  split <;> rename_i h <;> simp [h]
def wSM (i : Nat) (m : MO) (ρ : VEnv) (K : VEnv → Prop) (_ : Tag K := ⟨0⟩) : Prop := K (setM i m ρ)
@[simp ↓] theorem wSM_S (i : Nat) (m : MO) (x : Option Sl) (K : VEnv → Prop) : wSM (i + 1) m (x :: ρ) K = wSM i m ρ fun ρ' => K (x :: ρ') := wsm_S i m x K
@[simp ↓] theorem wSM_0 (m m0 : MO) (l : Bool) (K : VEnv → Prop) : wSM 0 m (some (.own l m0) :: ρ) K = K (some (.own l m) :: ρ) := id rfl
@[simp ↓] theorem wWipe_n (K : VEnv → Prop) : wWipe ρ [] K = K ρ := id rfl
@[simp ↓] theorem wWipe_c (v : Nat) (vs : List Nat) (K : VEnv → Prop) : wWipe ρ (v :: vs) K = wWipe ρ vs fun ρ' => wSet v none ρ' K := id rfl
def wKeep (i : Nat) (ρ : VEnv) (K : Option Sl → Prop) (_ : Tag K := ⟨0⟩) : Prop := K (match ρ[i]? with
    | some (some (Sl.val d)) => some (Sl.val d)
    | _ => none)
@[simp ↓] theorem wKeep_v (d : D) (K : Option Sl → Prop) : wKeep 0 (some (.val d) :: ρ) K = K (some (.val d)) := id rfl
@[simp ↓] theorem wKeep_n (K : Option Sl → Prop) : wKeep 0 (none :: ρ) K = K none := id rfl
@[simp ↓] theorem wKeep_m (o : Option D) (K : Option Sl → Prop) : wKeep 0 (o.map Sl.val :: ρ) K = K (o.map Sl.val) := by cases o <;> rfl
@[simp ↓] theorem wKeep_S (i : Nat) (x : Option Sl) (K : Option Sl → Prop) : wKeep (i + 1) (x :: ρ) K = wKeep i ρ K := by simp [wKeep]
@[simp ↓] theorem wRest_n (K : VEnv → Prop) : wRest ρ0 ρ [] K = K ρ := id rfl
@[simp ↓] theorem wRest_c (v : Nat) (vs : List Nat) (K : VEnv → Prop) : wRest ρ0 ρ (v :: vs) K = wRest ρ0 ρ vs fun ρ' => wKeep v ρ0 fun s => wSet v s ρ' K := id rfl
@[simp ↓] theorem wPut_n (ms : List MO) (K : VEnv → Prop) : wPut ρ [] ms K = K ρ := by simp [wPut, putBack]
@[simp ↓] theorem wPut_v (d : D) (as : List AR) (ms : List MO) (K : VEnv → Prop) : wPut ρ (.v d :: as) ms K = wPut ρ as ms K := by simp [wPut, putBack]
@[simp ↓] theorem wPut_l (i : Nat) (as : List AR) (m : MO) (ms : List MO) (K : VEnv → Prop) : wPut ρ (.l i :: as) (m :: ms) K = wSM i m ρ fun ρ' => wPut ρ' as ms K := by simp [wPut, putBack, wSM]
def wClr (i : Nat) (ρ : VEnv) (P P' : Prop) (_ : Tag P := ⟨0⟩) (_ : Tag P' := ⟨0⟩) : Prop := match ρ[i]? with
  | some (some (Sl.own _ _)) => P'
  | _ => P
@[simp ↓] theorem wClr_n : wClr 0 (none :: ρ) P P' = P := id rfl
@[simp ↓] theorem wClr_v (d : D) : wClr 0 (some (.val d) :: ρ) P P' = P := id rfl
@[simp ↓] theorem wClr_m (o : Option D) : wClr 0 (o.map Sl.val :: ρ) P P' = P := by cases o <;> rfl
@[simp ↓] theorem wClr_S (i : Nat) (x : Option Sl) : wClr (i + 1) (x :: ρ) P P' = wClr i ρ P P' := by simp [wClr]
@[simp ↓] theorem wB_clr_n : wB (cleared ρ []) P P' = P := by simp [cleared]
@[simp ↓] theorem wB_clr_c (v : Nat) (vs : List Nat) : wB (cleared ρ (v :: vs)) P P' = wClr v ρ (wB (cleared ρ vs) P P') P' := by
  unfold cleared wClr
  rw [List.all_cons]
  generalize ρ[v]? = o
  rcases o with _ | (_ | (d | ⟨_ | _, m⟩)) <;> simp
/-! ### expressions -/
@[simp ↓] theorem w_var (i : Nat) (Q : D → VEnv → Prop) : wR (mVar i ρ) Q E = wO (rdV i ρ) fun d => Q d ρ := by
  unfold mVar rdV
  generalize ρ[i]? = o
  rcases o with _ | (_ | (d | ⟨l, m⟩)) <;> rfl
@[simp ↓] theorem w_c (d : D) (Q : D → VEnv → Prop) : wR (mC d ρ) Q E = Q d ρ := id rfl
@[simp ↓] theorem w_op (f : D → D → Option D) (ga gb : Ev D) (Q : D → VEnv → Prop) : wR (mOp f ga gb ρ) Q E = wR (ga ρ) (fun x ρ1 => wR (gb ρ1) (fun y ρ2 => wO (f x y) fun z => Q z ρ2) E) E := by
  unfold mOp; rw [wR_bind]; exact wR_ext fun _ _ => by rw [wR_bind]; exact wR_ext fun _ _ => wR_of
@[simp ↓] theorem w_own (i : Nat) (Q : D → VEnv → Prop) : wR (mOwn i ρ) Q E = wO (rdO i ρ) fun m => Q m.frz ρ := by
  unfold mOwn rdO
  generalize ρ[i]? = o
  rcases o with _ | (_ | (d | ⟨l, m⟩)) <;> rfl
@[simp ↓] theorem w_opO (f : D → D → Option D) (i : Nat) (gb : Ev D) (Q : D → VEnv → Prop) : wR (mOpO f i gb ρ) Q E = wO (rdO i ρ) fun _ => wR (gb ρ) (fun y ρ2 => wO (rdO i ρ2) fun m => wO (f m.frz y) fun z => Q z ρ2) E := by
  unfold mOpO
  split
  · rename_i l m h
    have : rdO i ρ = some m := by unfold rdO; rw [h]
    rw [this, wO_some, wR_bind]
    refine wR_ext fun y ρ2 => ?_
    rw [wR_bind, w_own]
    exact wO_ext fun m => wR_of
  · rename_i h
    have : rdO i ρ = none := by
      unfold rdO
      split
      · rename_i l m q; exact absurd q (h l m)
      · rfl
    rw [this]; rfl
@[simp ↓] theorem w_test (g : Ev D) (Q : Bool → VEnv → Prop) : wR (mTest g ρ) Q E = wR (g ρ) (fun d ρ1 => wR (asB d ρ1) Q E) E := by unfold mTest; rw [wR_bind]
@[simp] theorem w_asB (b : Bool) (Q : Bool → VEnv → Prop) : wR (asB (.bl b) ρ) Q E = Q b ρ := id rfl
@[simp ↓] theorem w_truth (g : Ev D) (Q : Bool → VEnv → Prop) : wR (mTruth g ρ) Q E = wR (g ρ) (fun d ρ1 => wO (truD d) fun b => Q b ρ1) E := by unfold mTruth; rw [wR_bind]; exact wR_ext fun _ _ => wR_of
theorem wR_ite {b : Bool} {r r' : R α} : wR (if b = true then r else r') Q E = wB b (wR r Q E) (wR r' Q E) := by cases b <;> rfl
theorem wS_ite {b : Bool} {r r' : RS} : wS (if b = true then r else r') N Z = wB b (wS r N Z) (wS r' N Z) := by cases b <;> rfl
theorem wR_itp {p : Prop} [Decidable p] {r : R α} : wR (if p then r else .stuck) Q E = wC p (wR r Q E) := by
  by_cases h : p <;> simp [h]
@[simp ↓] theorem w_and (g h : Ev Bool) (Q : Bool → VEnv → Prop) : wR (mAnd g h ρ) Q E = wR (g ρ) (fun b ρ1 => wB b (wR (h ρ1) Q E) (Q false ρ1)) E := by unfold mAnd; rw [wR_bind]; exact wR_ext fun b _ => by cases b <;> rfl
@[simp ↓] theorem w_or (g h : Ev Bool) (Q : Bool → VEnv → Prop) : wR (mOr g h ρ) Q E = wR (g ρ) (fun b ρ1 => wB b (Q true ρ1) (wR (h ρ1) Q E)) E := by unfold mOr; rw [wR_bind]; exact wR_ext fun b _ => by cases b <;> rfl
@[simp ↓] theorem w_not (g : Ev Bool) (Q : Bool → VEnv → Prop) : wR (mNot g ρ) Q E = wR (g ρ) (fun b ρ1 => Q (!b) ρ1) E := by unfold mNot; rw [wR_bind]; rfl
@[simp ↓] theorem w_andV (g h : Ev D) (Q : D → VEnv → Prop) : wR (mAndV g h ρ) Q E = wR (g ρ) (fun d ρ1 => wO (truD d) fun b => wB b (wR (h ρ1) Q E) (Q d ρ1)) E := by
  unfold mAndV; rw [wR_bind]; refine wR_ext fun d ρ1 => ?_
  cases q : truD d with
  | none => rfl
  | some b => cases b <;> simp
@[simp ↓] theorem w_orV (g h : Ev D) (Q : D → VEnv → Prop) : wR (mOrV g h ρ) Q E = wR (g ρ) (fun d ρ1 => wO (truD d) fun b => wB b (Q d ρ1) (wR (h ρ1) Q E)) E := by
  unfold mOrV; rw [wR_bind]; refine wR_ext fun d ρ1 => ?_
  cases q : truD d with
  | none => rfl
  | some b => cases b <;> simp
@[simp ↓] theorem w_notV (g : Ev D) (Q : D → VEnv → Prop) : wR (mNotV g ρ) Q E = wR (g ρ) (fun d ρ1 => wO (truD d) fun b => Q (.bl (!b)) ρ1) E := by
  unfold mNotV; rw [wR_bind]; refine wR_ext fun d ρ1 => ?_
  rw [wR_of]
  cases q : truD d <;> rfl
@[simp ↓] theorem w_if (t : Ev Bool) (g h : Ev D) (Q : D → VEnv → Prop) : wR (mIf t g h ρ) Q E = wR (t ρ) (fun b ρ1 => wB b (wR (g ρ1) Q E) (wR (h ρ1) Q E)) E := by unfold mIf; rw [wR_bind]; exact wR_ext fun b _ => by cases b <;> rfl
@[simp ↓] theorem w_nil (Q : List D → VEnv → Prop) : wR (mNil ρ) Q E = Q [] ρ := id rfl
@[simp ↓] theorem w_cons (g : Ev D) (h : Ev (List D)) (Q : List D → VEnv → Prop) : wR (mCons g h ρ) Q E = wR (g ρ) (fun d ρ1 => wR (h ρ1) (fun ds ρ2 => Q (d :: ds) ρ2) E) E := by unfold mCons; rw [wR_bind]; exact wR_ext fun _ _ => by rw [wR_bind]; rfl
@[simp ↓] theorem w_tup (g : Ev (List D)) (Q : D → VEnv → Prop) : wR (mTup g ρ) Q E = wR (g ρ) (fun ds ρ1 => wC (ds.length ≤ lim) (Q (.tup ds) ρ1)) E := by unfold mTup; rw [wR_bind]; exact wR_ext fun _ _ => by rw [wR_itp]; rfl
@[simp ↓] theorem w_lst (g : Ev (List D)) (Q : D → VEnv → Prop) : wR (mLst g ρ) Q E = wR (g ρ) (fun ds ρ1 => wC (ds.length ≤ lim) (Q (.lst ds) ρ1)) E := by unfold mLst; rw [wR_bind]; exact wR_ext fun _ _ => by rw [wR_itp]; rfl
@[simp ↓] theorem w_lstO (g : Ev (List D)) (Q : MO → VEnv → Prop) : wR (mLstO g ρ) Q E = wR (g ρ) (fun ds ρ1 => wC (ds.length ≤ lim) (Q (.lst ds) ρ1)) E := by unfold mLstO; rw [wR_bind]; exact wR_ext fun _ _ => by rw [wR_itp]; rfl
@[simp ↓] theorem w_dictO (Q : MO → VEnv → Prop) : wR (mDictO ρ) Q E = Q (.dct []) ρ := id rfl
@[simp ↓] theorem w_frz (g : Ev MO) (Q : D → VEnv → Prop) : wR (mFrz g ρ) Q E = wR (g ρ) (fun m ρ1 => Q m.frz ρ1) E := by unfold mFrz; rw [wR_bind]; rfl
@[simp ↓] theorem w_call (f : List D → Option D) (g : Ev (List D)) (Q : D → VEnv → Prop) : wR (mCall f g ρ) Q E = wR (g ρ) (fun ds ρ1 => wO (f ds) fun z => Q z ρ1) E := by unfold mCall; rw [wR_bind]; exact wR_ext fun _ _ => wR_of
@[simp ↓] theorem w_call1 (f : D → Option D) (g : Ev D) (Q : D → VEnv → Prop) : wR (mCall1 f g ρ) Q E = wR (g ρ) (fun ds ρ1 => wO (f ds) fun z => Q z ρ1) E := by unfold mCall1; rw [wR_bind]; exact wR_ext fun _ _ => wR_of
@[simp ↓] theorem w_isi (f : D → Option Bool) (g : Ev D) (Q : D → VEnv → Prop) : wR (mIsi f g ρ) Q E = wR (g ρ) (fun d ρ1 => wO (f d) fun b => Q (.bl b) ρ1) E := by
  unfold mIsi; rw [wR_bind]; refine wR_ext fun d ρ1 => ?_
  rw [wR_of]
  cases q : f d <;> rfl
@[simp ↓] theorem w_chain (f f' : D → D → Option D) (ga gb gc : Ev D) (Q : D → VEnv → Prop) : wR (mChain f f' ga gb gc ρ) Q E =
    wR (ga ρ) (fun x ρ1 => wR (gb ρ1) (fun y ρ2 => wO (f x y) fun t => wR (asB t ρ2) (fun b ρ3 => wB b (wR (gc ρ3) (fun z ρ4 => wO (f' y z) fun u => Q u ρ4) E) (Q (.bl false) ρ3)) E) E) E := by
  unfold mChain; rw [wR_bind]; refine wR_ext fun x ρ1 => ?_
  rw [wR_bind]; refine wR_ext fun y ρ2 => ?_
  cases q : f x y with
  | none => rfl
  | some t =>
    cases t with
    | bl b =>
      cases b
      · rfl
      · simp only [wO_some, w_asB, wB_true]
        rw [wR_bind]
        exact wR_ext fun z ρ3 => wR_of
    | _ => rfl
@[simp ↓] theorem w_seqOf (g : Ev D) (Q : List D → VEnv → Prop) : wR (mSeqOf g ρ) Q E = wR (g ρ) (fun d ρ1 => wO (seqOf d) fun ds => Q ds ρ1) E := by unfold mSeqOf; rw [wR_bind]; exact wR_ext fun _ _ => wR_of
@[simp ↓] theorem w_range1 (g : Ev D) (Q : List D → VEnv → Prop) : wR (mRange1 g ρ) Q E = wR (g ρ) (fun d ρ1 => wO (range1D d) fun ds => Q ds ρ1) E := by unfold mRange1; rw [wR_bind]; exact wR_ext fun _ _ => wR_of
@[simp ↓] theorem w_range2 (g : Ev (List D)) (Q : List D → VEnv → Prop) : wR (mRange2 g ρ) Q E = wR (g ρ) (fun d ρ1 => wO (range2D d) fun ds => Q ds ρ1) E := by unfold mRange2; rw [wR_bind]; exact wR_ext fun _ _ => wR_of
@[simp ↓] theorem w_zip (ga gb : Ev D) (Q : List D → VEnv → Prop) : wR (mZip ga gb ρ) Q E = wR (ga ρ) (fun x ρ1 => wR (gb ρ1) (fun y ρ2 => wO (zipD x y) fun z => Q z ρ2) E) E := by unfold mZip; rw [wR_bind]; exact wR_ext fun _ _ => by rw [wR_bind]; exact wR_ext fun _ _ => wR_of
@[simp ↓] theorem w_part (g : Ev D) (Q : Option Int → VEnv → Prop) : wR (mPart g ρ) Q E = wR (g ρ) (fun d ρ1 => wO (match d with
    | .int i => some i
    | _ => none) fun i => Q (some i) ρ1) E := by
  unfold mPart; rw [wR_bind]; refine wR_ext fun d ρ1 => ?_
  cases d <;> rfl
@[simp ↓] theorem w_noPart (Q : Option Int → VEnv → Prop) : wR (mNoPart ρ) Q E = Q none ρ := id rfl
@[simp ↓] theorem w_slice (g : Ev D) (lo hi : Ev (Option Int)) (Q : D → VEnv → Prop) : wR (mSlice g lo hi ρ) Q E = wR (g ρ) (fun d ρ1 => wR (lo ρ1) (fun l ρ2 => wR (hi ρ2) (fun u ρ3 => wO (slD d l u) fun z => Q z ρ3) E) E) E := by unfold mSlice; rw [wR_bind]; exact wR_ext fun _ _ => by rw [wR_bind]; exact wR_ext fun _ _ => by rw [wR_bind]; exact wR_ext fun _ _ => wR_of
/-! ### calls -/
@[simp ↓] theorem w_cn (Q : List AR → VEnv → Prop) : wR (mCN ρ) Q E = Q [] ρ := id rfl
@[simp ↓] theorem w_cv (g : Ev D) (h : Ev (List AR)) (Q : List AR → VEnv → Prop) : wR (mCV g h ρ) Q E = wR (g ρ) (fun d ρ1 => wR (h ρ1) (fun as ρ2 => Q (.v d :: as) ρ2) E) E := by unfold mCV; rw [wR_bind]; exact wR_ext fun _ _ => by rw [wR_bind]; rfl
@[simp ↓] theorem w_cl (i : Nat) (h : Ev (List AR)) (Q : List AR → VEnv → Prop) : wR (mCL i h ρ) Q E = wO (rdO i ρ) fun _ => wR (h ρ) (fun as ρ2 => Q (.l i :: as) ρ2) E := by
  unfold mCL rdO
  generalize ρ[i]? = o
  rcases o with _ | (_ | (d | ⟨l, m⟩))
  · rfl
  · rfl
  · rfl
  · rw [wO_some, wR_bind]; rfl
def wEnd (r : Res) (Q : Res → VEnv → Prop) (E : EX) (ρ : VEnv) : Prop := match r with
  | .ex c ds => E c ds ρ
  | r => Q r ρ
@[simp ↓] theorem wEnd_ok (d : D) (Q : Res → VEnv → Prop) : wEnd (.ok d) Q E ρ = Q (.ok d) ρ := id rfl
@[simp ↓] theorem wEnd_nw (d : MO) (Q : Res → VEnv → Prop) : wEnd (.nw d) Q E ρ = Q (.nw d) ρ := id rfl
@[simp ↓] theorem wEnd_ex (c : Nat) (d : List D) (Q : Res → VEnv → Prop) : wEnd (.ex c d) Q E ρ = E c d ρ := id rfl
def wCall (G : Fn) (n : Nat) (ars : List AR) (ρ : VEnv) (Q : Res → VEnv → Prop) (E : EX) : Prop := wC ((lentIx ars).Nodup ∧ ars.length = n) (wO (resolve ρ ars) fun as => wF (G as) fun r ms => wPut ρ ars ms fun ρ' => wEnd r Q E ρ')
@[simp ↓] theorem wCall_ (G : Fn) (n : Nat) (ars : List AR) (Q : Res → VEnv → Prop) : wCall G n ars ρ Q E = wC ((lentIx ars).Nodup ∧ ars.length = n) (wO (resolve ρ ars) fun as => wF (G as) fun r ms => wPut ρ ars ms fun ρ' => wEnd r Q E ρ') := id rfl
@[simp] theorem lentIx_n : lentIx [] = [] := id rfl
@[simp] theorem lentIx_v (d : D) (as : List AR) : lentIx (.v d :: as) = lentIx as := id rfl
@[simp] theorem lentIx_l (i : Nat) (as : List AR) : lentIx (.l i :: as) = i :: lentIx as := id rfl
theorem w_callR (G : Fn) (n : Nat) (ars : List AR) (Q : Res → VEnv → Prop) : wR (callR G n ars ρ) Q E = wCall G n ars ρ Q E := by
  unfold callR wCall
  by_cases h : (lentIx ars).Nodup ∧ ars.length = n
  · rw [if_pos h]
    simp only [h, and_self, wC_true]
    cases resolve ρ ars with
    | none => rfl
    | some as =>
      simp only [wO_some]
      cases G as with
      | none => rfl
      | some p => obtain ⟨r, ms⟩ := p; cases r <;> rfl
  · rw [if_neg h]; simp [h]
@[simp ↓] theorem w_res (G : Fn) (n : Nat) (dd : List D) (g : Ev (List AR)) (Q : Res → VEnv → Prop) : wR (mRes G n dd g ρ) Q E = wR (g ρ) (fun ars ρ1 => wCall G n (ars ++ dd.map AR.v) ρ1 Q E) E := by unfold mRes; rw [wR_bind]; exact wR_ext fun _ _ => by rw [w_callR]
@[simp ↓ high] theorem w_res0 (G : Fn) (n : Nat) (g : Ev (List AR)) (Q : Res → VEnv → Prop) : wR (mRes G n [] g ρ) Q E = wR (g ρ) (fun ars ρ1 => wCall G n ars ρ1 Q E) E := by rw [w_res]; exact wR_ext fun _ _ => by rw [List.map_nil, List.append_nil]
@[simp ↓] theorem wPut_map (ds : List D) (ms : List MO) (K : VEnv → Prop) : wPut ρ (ds.map AR.v) ms K = K ρ := by
  induction ds with
  | nil => exact wPut_n ms K
  | cons d ds ih => rw [List.map_cons, wPut_v]; exact ih
@[simp ↓] theorem w_resK (G : Fn) (n kn : Nat) (idx : List Nat) (g : Ev (List D)) (Q : Res → VEnv → Prop) : wR (mResK G n kn idx g ρ) Q E = wR (g ρ) (fun ds ρ1 => wC (ds.length = kn) (wCall G n ((permL idx ds).map AR.v) ρ1 Q E)) E := by unfold mResK; rw [wR_bind]; exact wR_ext fun _ _ => by rw [wR_itp, w_callR]
@[simp ↓] theorem w_val (g : Ev Res) (Q : D → VEnv → Prop) : wR (mVal g ρ) Q E = wR (g ρ) (fun r ρ1 => wRes r fun d => Q d ρ1) E := by
  unfold mVal; rw [wR_bind]; refine wR_ext fun r ρ1 => ?_
  cases r <;> rfl
@[simp ↓] theorem w_new (g : Ev Res) (Q : MO → VEnv → Prop) : wR (mNew g ρ) Q E = wR (g ρ) (fun r ρ1 => wNew r fun d => Q d ρ1) E := by
  unfold mNew; rw [wR_bind]; refine wR_ext fun r ρ1 => ?_
  cases r <;> rfl
@[simp ↓] theorem wres_n (K : List Arg → Prop) : wO (resolve ρ []) K = K [] := id rfl
@[simp ↓] theorem wres_v (d : D) (as : List AR) (K : List Arg → Prop) : wO (resolve ρ (.v d :: as)) K = wO (resolve ρ as) fun r => K (.v d :: r) := by
  rw [resolve]; cases resolve ρ as <;> rfl
@[simp ↓] theorem wres_l (i : Nat) (as : List AR) (K : List Arg → Prop) : wO (resolve ρ (.l i :: as)) K = wO (rdO i ρ) fun m => wO (resolve ρ as) fun r => K (.l m :: r) := by
  rw [resolve]
  unfold rdO
  generalize ρ[i]? = o
  rcases o with _ | (_ | (d | ⟨l, m⟩))
  · rfl
  · rfl
  · rfl
  · cases resolve ρ as <;> rfl
@[simp ↓] theorem wres_map (ds : List D) (K : List Arg → Prop) : wO (resolve ρ (ds.map AR.v)) K = K (ds.map Arg.v) := by
  induction ds generalizing K with
  | nil => rfl
  | cons d ds ih => rw [List.map_cons, wres_v, ih]; rfl
@[simp] theorem lentIx_map (ds : List D) : lentIx (ds.map AR.v) = [] := by
  induction ds with
  | nil => rfl
  | cons d ds ih => rw [List.map_cons, lentIx_v, ih]
@[simp ↓] theorem wlen_n (i : Nat) (K : List MO → Prop) : wO (lents i [] ρ) K = K [] := id rfl
@[simp ↓] theorem wlen_v (i : Nat) (d : D) (as : List Arg) (K : List MO → Prop) : wO (lents i (.v d :: as) ρ) K = wO (lents (i + 1) as ρ) K := id rfl
def rdT' (i : Nat) (ρ : VEnv) : Option MO := match ρ[i]? with
  | some (some (Sl.own true m)) => some m
  | _ => none
@[simp ↓] theorem rdT'_0 (d : MO) (K : MO → Prop) : wO (rdT' 0 (some (.own true d) :: ρ)) K = K d := id rfl
@[simp ↓] theorem rdT'_S (i : Nat) (x : Option Sl) (K : MO → Prop) : wO (rdT' (i + 1) (x :: ρ)) K = wO (rdT' i ρ) K := by simp [rdT']
@[simp ↓] theorem wlen_l (i : Nat) (m : MO) (as : List Arg) (K : List MO → Prop) : wO (lents i (.l m :: as) ρ) K = wO (rdT' i ρ) fun m' => wO (lents (i + 1) as ρ) fun ms => K (m' :: ms) := by
  rw [lents]
  unfold rdT'
  generalize ρ[i]? = o
  rcases o with _ | (_ | (d | ⟨_ | _, m⟩))
  · rfl
  · rfl
  · rfl
  · rfl
  · cases lents (i + 1) as ρ <;> rfl
/-! ### statements -/
@[simp ↓] theorem w_seq (h k : VEnv → RS) : wS (mSeq h k ρ) N Z = wS (h ρ) (fun ρ1 => wS (k ρ1) N Z) Z := by
  unfold mSeq; cases q : h ρ <;> simp
@[simp ↓] theorem w_next : wS (mNext ρ) N Z = N ρ := id rfl
@[simp ↓] theorem w_never : wS (mNever ρ) N Z = False := id rfl
@[simp ↓] theorem w_expr (g : Ev D) : wS (mExpr g ρ) N Z = wR (g ρ) (fun _ ρ1 => N ρ1) fun c ds ρ1 => Z (.ex c ds ρ1) := by unfold mExpr; rw [wS_thenS]; rfl
@[simp ↓] theorem w_ret (g : Ev D) : wS (mRet g ρ) N Z = wR (g ρ) (fun d ρ1 => Z (.rt d ρ1)) fun c ds ρ1 => Z (.ex c ds ρ1) := by unfold mRet; rw [wS_thenS]; rfl
@[simp ↓] theorem w_retN : wS (mRetN ρ) N Z = Z (.rt .non ρ) := id rfl
def rdF' (i : Nat) (ρ : VEnv) : Option MO := match ρ[i]? with
  | some (some (Sl.own false m)) => some m
  | _ => none
@[simp ↓] theorem rdF'_0 (d : MO) (K : MO → Prop) : wO (rdF' 0 (some (.own false d) :: ρ)) K = K d := id rfl
@[simp ↓] theorem rdF'_S (i : Nat) (x : Option Sl) (K : MO → Prop) : wO (rdF' (i + 1) (x :: ρ)) K = wO (rdF' i ρ) K := by simp [rdF']
@[simp ↓] theorem w_retO (i : Nat) : wS (mRetO i ρ) N Z = wO (rdF' i ρ) fun m => wSet i none ρ fun ρ1 => Z (.rn m ρ1) := by
  unfold mRetO rdF'
  generalize ρ[i]? = o
  rcases o with _ | (_ | (d | ⟨_ | _, m⟩)) <;> rfl
@[simp ↓] theorem w_retF (g : Ev MO) : wS (mRetF g ρ) N Z = wR (g ρ) (fun m ρ1 => Z (.rn m ρ1)) fun c ds ρ1 => Z (.ex c ds ρ1) := by unfold mRetF; rw [wS_thenM]; rfl
@[simp ↓] theorem w_ifS (t : Ev Bool) (h k : VEnv → RS) : wS (mIfS t h k ρ) N Z = wR (t ρ) (fun b ρ1 => wB b (wS (h ρ1) N Z) (wS (k ρ1) N Z)) fun c ds ρ1 => Z (.ex c ds ρ1) := by unfold mIfS; rw [wS_thenB]; exact wR_ext fun b _ => by cases b <;> rfl
theorem wS_set {o : Option VEnv} : wS (match o with
  | some ρ2 => .nx ρ2
  | none => .stuck) N Z = wO o N := by cases o <;> rfl
@[simp ↓] theorem w_asg (g : Ev D) (t : D → VEnv → Option VEnv) : wS (mAsg g t ρ) N Z = wR (g ρ) (fun d ρ1 => wO (t d ρ1) N) fun c ds ρ1 => Z (.ex c ds ρ1) := by
  unfold mAsg; rw [wS_thenS]; exact wR_ext fun d ρ1 => by cases t d ρ1 <;> rfl
@[simp ↓] theorem w_setO (i : Nat) (g : Ev MO) : wS (mSetO i g ρ) N Z = wR (g ρ) (fun m ρ1 => wO (setO i m ρ1) N) fun c ds ρ1 => Z (.ex c ds ρ1) := by
  unfold mSetO; rw [wS_thenM]; exact wR_ext fun d ρ1 => by cases setO i d ρ1 <;> rfl
@[simp ↓] theorem w_parEE (i j : Nat) (ga gb : Ev D) : wS (mParEE i j ga gb ρ) N Z = wR (ga ρ) (fun x ρ1 => wR (gb ρ1) (fun y ρ2 => wO (setV i x ρ2) fun ρ3 => wO (setV j y ρ3) N) fun c ds ρ1 => Z (.ex c ds ρ1)) fun c ds ρ1 => Z (.ex c ds ρ1) := by
  unfold mParEE setVS; rw [wS_thenS]; refine wR_ext fun x ρ1 => ?_
  rw [wS_thenS]; refine wR_ext fun y ρ2 => ?_
  cases setV i x ρ2 with
  | none => rfl
  | some ρ3 => simp only [wO_some]; cases setV j y ρ3 <;> rfl
@[simp ↓] theorem w_parEF (i j : Nat) (ga : Ev D) (gb : Ev MO) : wS (mParEF i j ga gb ρ) N Z = wR (ga ρ) (fun x ρ1 => wR (gb ρ1) (fun y ρ2 => wO (setV i x ρ2) fun ρ3 => wO (setO j y ρ3) N) fun c ds ρ1 => Z (.ex c ds ρ1)) fun c ds ρ1 => Z (.ex c ds ρ1) := by
  unfold mParEF setVS setOS; rw [wS_thenS]; refine wR_ext fun x ρ1 => ?_
  rw [wS_thenM]; refine wR_ext fun y ρ2 => ?_
  cases setV i x ρ2 with
  | none => rfl
  | some ρ3 => simp only [wO_some]; cases setO j y ρ3 <;> rfl
def lstOf (p : Bool × MO) : Option (Bool × List D) := match p with
  | (l, .lst xs) => some (l, xs)
  | _ => none
@[simp] theorem lstOf_l (l : Bool) (xs : List D) : lstOf (l, .lst xs) = some (l, xs) := id rfl
def rdLL (i : Nat) (ρ : VEnv) : Option (Bool × List D) := (rdL i ρ).bind lstOf
@[simp ↓] theorem rdLL_ (i : Nat) (K : Bool × List D → Prop) : wO (rdLL i ρ) K = wO (rdL i ρ) fun p => wO (lstOf p) K := by
  unfold rdLL; cases rdL i ρ <;> rfl
@[simp ↓] theorem w_append (i : Nat) (g : Ev D) : wS (mAppend i g ρ) N Z = wO (rdLL i ρ) fun _ => wR (g ρ) (fun d ρ1 => wO (rdLL i ρ1) fun p => wP p fun l xs => wC (xs.length < lim) (wSet i (some (.own l (.lst (xs ++ [d])))) ρ1 N)) fun c ds ρ1 => Z (.ex c ds ρ1) := by
  have inner : ∀ (d : D) (ρ' : VEnv), wS (match ρ'[i]? with
      | some (some (Sl.own l (.lst xs))) => if xs.length < lim then .nx (ρ'.set i (some (Sl.own l (.lst (xs ++ [d]))))) else .stuck
      | _ => .stuck) N Z = wO (rdLL i ρ') fun p => wP p fun l xs => wC (xs.length < lim) (wSet i (some (.own l (.lst (xs ++ [d])))) ρ' N) := by
    intro d ρ'
    unfold rdLL rdL wSet
    generalize ρ'[i]? = o
    rcases o with _ | (_ | (e | ⟨l, m⟩))
    · rfl
    · rfl
    · rfl
    · cases m with
      | lst xs =>
        simp only [Option.bind_some, lstOf_l, wO_some, wP_mk]
        by_cases h : xs.length < lim
        · simp only [h, if_true, wS_nx, wC_true]
        · simp only [h, if_false, wS_stuck, wC_false]
      | _ => rfl
  unfold mAppend
  have e : wO (rdLL i ρ) (fun _ => wR (g ρ) (fun d ρ1 => wO (rdLL i ρ1) fun p => wP p fun l xs => wC (xs.length < lim) (wSet i (some (.own l (.lst (xs ++ [d])))) ρ1 N)) fun c ds ρ1 => Z (.ex c ds ρ1)) =
      wO (rdLL i ρ) (fun _ => wS ((g ρ).thenS fun d ρ' => match ρ'[i]? with
      | some (some (Sl.own l (.lst xs))) => if xs.length < lim then .nx (ρ'.set i (some (Sl.own l (.lst (xs ++ [d]))))) else .stuck
      | _ => .stuck) N Z) := by
    refine wO_ext fun _ => ?_
    rw [wS_thenS]
    exact wR_ext fun d ρ1 => (inner d ρ1).symm
  rw [e]
  unfold rdLL rdL
  generalize ρ[i]? = o
  rcases o with _ | (_ | (e | ⟨l, m⟩))
  · rfl
  · rfl
  · rfl
  · cases m <;> rfl
end
end VS
set_option maxHeartbeats 2000000
namespace VS
open PySem L2
section
variable {α β : Type} {Q : α → VEnv → Prop} {E : EX} {N : VEnv → Prop} {Z : RS → Prop} {ρ ρ' ρ0 : VEnv} {P P' : Prop}
/-! ### what follows from what -/
theorem wF_mono {o : Option (Res × List MO)} {K K' : Res → List MO → Prop} (h : wF o K) (k : ∀ r ms, K r ms → K' r ms) : wF o K' := by
  unfold wF at *
  split
  · exact k _ _ h
  · exact h
theorem wR_mono {r : R α} {Q' : α → VEnv → Prop} (h : wR r Q E) (k : ∀ a ρ, Q a ρ → Q' a ρ) : wR r Q' E := by
  cases r with
  | ok a ρ => exact k _ _ h
  | ex c ds ρ => exact h
  | stuck => exact h
theorem wS_mono {r : RS} {N' : VEnv → Prop} {Z' : RS → Prop} (h : wS r N Z) (k : ∀ ρ, N ρ → N' ρ) (k' : ∀ r, Z r → Z' r) : wS r N' Z' := by
  cases r with
  | nx ρ => exact k _ h
  | stuck => exact h
  | rt d ρ => exact k' _ h
  | rn d ρ => exact k' _ h
  | bk ρ => exact k' _ h
  | ct ρ => exact k' _ h
  | ex c d ρ => exact k' _ h
theorem wF_eq {o : Option (Res × List MO)} {r : Res} {ms : List MO} (h : wF o fun r' ms' => r' = r ∧ ms' = ms) : o = some (r, ms) := by
  unfold wF at h
  split at h
  · obtain ⟨rfl, rfl⟩ := h; rfl
  · exact h.elim
theorem wF_ex {o : Option (Res × List MO)} {K : Res → List MO → Prop} (h : wF o K) : ∃ r ms, o = some (r, ms) ∧ K r ms := by
  unfold wF at h
  split at h
  · exact ⟨_, _, rfl, h⟩
  · exact h.elim
theorem wF_of {o : Option (Res × List MO)} {K : Res → List MO → Prop} {r : Res} {ms : List MO} (h : o = some (r, ms)) (k : K r ms) : wF o K := by rw [h]; exact k
theorem wB_if {b : Bool} (h1 : b = true → P) (h2 : b = false → P') : wB b P P' := by
  cases b
  · exact h2 rfl
  · exact h1 rfl
theorem wB_dec {p : Prop} [Decidable p] (h1 : p → P) (h2 : ¬ p → P') : wB (decide p) P P' := by
  by_cases h : p
  · simp only [h, decide_true, wB_true]; exact h1 h
  · simp only [h, decide_false, wB_false]; exact h2 h
/-- x and y, the ways joined behind it -/
theorem wB_and {b : Bool} {r : R D} {K : D → VEnv → Prop} (I : Bool → VEnv → Prop) (hI : ∀ g ρ', I g ρ' → K (.bl g) ρ') (h1 : b = true → wR r (fun d ρ' => Hide (∃ g, d = .bl g ∧ I g ρ')) E) (h2 : b = false → I false ρ) : wB b (wR r K E) (K (.bl b) ρ) := by
  cases b with
  | false => simp only [wB_false]; exact hI _ _ (h2 rfl)
  | true =>
    simp only [wB_true]
    refine wR_mono (h1 rfl) fun d ρ' h => ?_
    obtain ⟨g, rfl, h⟩ := h
    exact hI _ _ h
/-! ### what a def answers -/
def wFin (as : List Arg) (K : Res → List MO → Prop) : RS → Prop
  | .nx ρ => wO (lents 0 as ρ) fun ms => K (.ok .non) ms
  | .rt d ρ => wO (lents 0 as ρ) fun ms => K (.ok d) ms
  | .rn m ρ => wO (lents 0 as ρ) fun ms => K (.nw m) ms
  | .ex c ds ρ => wO (lents 0 as ρ) fun ms => K (.ex c ds) ms
  | _ => False
@[simp ↓] theorem wFin_nx (as : List Arg) (K : Res → List MO → Prop) : wFin as K (.nx ρ) = wO (lents 0 as ρ) fun ms => K (.ok .non) ms := id rfl
@[simp ↓] theorem wFin_rt (d : D) (as : List Arg) (K : Res → List MO → Prop) : wFin as K (.rt d ρ) = wO (lents 0 as ρ) fun ms => K (.ok d) ms := id rfl
@[simp ↓] theorem wFin_rn (d : MO) (as : List Arg) (K : Res → List MO → Prop) : wFin as K (.rn d ρ) = wO (lents 0 as ρ) fun ms => K (.nw d) ms := id rfl
@[simp ↓] theorem wFin_ex (c : Nat) (d : List D) (as : List Arg) (K : Res → List MO → Prop) : wFin as K (.ex c d ρ) = wO (lents 0 as ρ) fun ms => K (.ex c d) ms := id rfl
@[simp ↓] theorem wFin_bk (as : List Arg) (K : Res → List MO → Prop) : wFin as K (.bk ρ) = False := id rfl
@[simp ↓] theorem wFin_ct (as : List Arg) (K : Res → List MO → Prop) : wFin as K (.ct ρ) = False := id rfl
theorem w_run (n : Nat) (h : VEnv → RS) (as : List Arg) (K : Res → List MO → Prop) : wF (runG n h as) K = wS (h (startE n as)) (fun ρ => wFin as K (.nx ρ)) (wFin as K) := by
  unfold runG
  cases h (startE n as) with
  | nx ρ => simp only [wS_nx, wFin_nx]; cases lents 0 as ρ <;> rfl
  | rt d ρ => simp only [wS_rt, wFin_rt]; cases lents 0 as ρ <;> rfl
  | rn d ρ => simp only [wS_rn, wFin_rn]; cases lents 0 as ρ <;> rfl
  | ex c d ρ => simp only [wS_ex, wFin_ex]; cases lents 0 as ρ <;> rfl
  | bk ρ => rfl
  | ct ρ => rfl
  | stuck => rfl
/-- a def by its body, the slots written out -/
theorem w_def {G : Fn} {n : Nat} {h : VEnv → RS} {as : List Arg} {ρ : VEnv} {K : Res → List MO → Prop} (hG : G = runG n h) (hρ : startE n as = ρ) (w : wS (h ρ) (fun ρ => wFin as K (.nx ρ)) (wFin as K)) : wF (G as) K := by
  subst hG hρ; rw [w_run]; exact w
/-! ### loops -/
/-- how a turn ends -/
def wTurn (I : VEnv → Prop) (N : VEnv → Prop) (Z : RS → Prop) : RS → Prop
  | .ct ρ => I ρ
  | .bk ρ => N ρ
  | r => Z r
@[simp ↓] theorem wTurn_ct (I : VEnv → Prop) : wTurn I N Z (.ct ρ) = I ρ := id rfl
@[simp ↓] theorem wTurn_bk (I : VEnv → Prop) : wTurn I N Z (.bk ρ) = N ρ := id rfl
@[simp ↓] theorem wTurn_rt (I : VEnv → Prop) (d : D) : wTurn I N Z (.rt d ρ) = Z (.rt d ρ) := id rfl
@[simp ↓] theorem wTurn_rn (I : VEnv → Prop) (d : MO) : wTurn I N Z (.rn d ρ) = Z (.rn d ρ) := id rfl
@[simp ↓] theorem wTurn_ex (I : VEnv → Prop) (c : Nat) (d : List D) : wTurn I N Z (.ex c d ρ) = Z (.ex c d ρ) := id rfl
@[simp ↓] theorem forGo_cons (t : D → VEnv → Option VEnv) (body : VEnv → RS) (d : D) (ds : List D) : wS (forGo t body (d :: ds) ρ) N Z = wO (t d ρ) fun ρ1 => wS (body ρ1) (fun ρ2 => wS (forGo t body ds ρ2) N Z) (wTurn (fun ρ2 => wS (forGo t body ds ρ2) N Z) N Z) := by
  rw [forGo]
  cases t d ρ with
  | none => rfl
  | some ρ1 =>
    simp only [wO_some]
    cases body ρ1 <;> rfl
@[simp ↓] theorem forGo_nil (t : D → VEnv → Option VEnv) (body : VEnv → RS) : wS (forGo t body [] ρ) N Z = N ρ := id rfl
@[simp ↓] theorem w_for (src : Ev (List D)) (t : D → VEnv → Option VEnv) (body : VEnv → RS) : wS (mFor src t body ρ) N Z = wR (src ρ) (fun ds ρ1 => wS (forGo t body ds ρ1) N Z) fun c ds ρ1 => Z (.ex c ds ρ1) := by unfold mFor; rw [wS_thenL]
/-- a for by what holds ahead of each turn: of the items gone through and those to come -/
theorem for_inv {t : D → VEnv → Option VEnv} {body : VEnv → RS} (e : α → D) (I : List α → List α → VEnv → Prop) (xs : List α) (h0 : I [] xs ρ) (hN : ∀ ρ, I xs [] ρ → N ρ)
    (step : ∀ pre x post ρ, xs = pre ++ x :: post → I pre (x :: post) ρ → wO (t (e x) ρ) fun ρ1 => wS (body ρ1) (fun ρ2 => Hide (I (pre ++ [x]) post ρ2)) (wTurn (fun ρ2 => Hide (I (pre ++ [x]) post ρ2)) N Z)) : wS (forGo t body (xs.map e) ρ) N Z := by
  have gen : ∀ (post pre : List α) (ρ : VEnv), xs = pre ++ post → I pre post ρ → wS (forGo t body (post.map e) ρ) N Z := by
    intro post
    induction post with
    | nil => intro pre ρ hx h; simp only [List.map_nil, forGo_nil]; exact hN _ (by rw [hx, List.append_nil]; exact h)
    | cons x post ih =>
      intro pre ρ hx h
      rw [List.map_cons, forGo_cons]
      have s := step pre x post ρ hx h
      cases q : t (e x) ρ with
      | none => rw [q] at s; exact s
      | some ρ1 =>
        rw [q] at s
        have nxt : ∀ ρ, I (pre ++ [x]) post ρ → wS (forGo t body (post.map e) ρ) N Z := fun ρ h => ih (pre ++ [x]) ρ (by rw [hx]; simp) h
        refine wS_mono s nxt fun r hr => ?_
        cases r with
        | ct ρ => exact nxt _ hr
        | _ => exact hr
  exact gen xs [] ρ rfl h0
/-! ### comprehensions -/
@[simp ↓] theorem lcGo_nil (vs : List Nat) (t : D → VEnv → Option VEnv) (tt : Ev Bool) (te : Ev D) (acc : List D) (Q : List D → VEnv → Prop) : wR (lcGo vs t tt te [] acc ρ) Q E = Q acc ρ := id rfl
@[simp ↓] theorem lcGo_cons (vs : List Nat) (t : D → VEnv → Option VEnv) (tt : Ev Bool) (te : Ev D) (d : D) (ds acc : List D) (Q : List D → VEnv → Prop) : wR (lcGo vs t tt te (d :: ds) acc ρ) Q E =
    wO (t d ρ) fun ρ1 => wR (tt ρ1) (fun b ρ2 => wB b (wR (te ρ2) (fun y ρ3 => wC (acc.length < lim) (wWipe ρ3 vs fun ρ4 => wR (lcGo vs t tt te ds (acc ++ [y]) ρ4) Q E)) fun _ _ _ => False) (wWipe ρ2 vs fun ρ4 => wR (lcGo vs t tt te ds acc ρ4) Q E)) fun _ _ _ => False := by
  rw [lcGo]
  cases t d ρ with
  | none => rfl
  | some ρ1 =>
    simp only [wO_some]
    cases tt ρ1 with
    | stuck => rfl
    | ex c ds ρ2 => rfl
    | ok b ρ2 =>
      cases b with
      | false => simp only [wR_ok, wB_false]; rfl
      | true =>
        simp only [wR_ok, wB_true]
        cases te ρ2 with
        | stuck => rfl
        | ex c ds ρ3 => rfl
        | ok y ρ3 =>
          simp only [wR_ok]
          by_cases h : acc.length < lim
          · simp only [h, if_true, wC_true]; rfl
          · simp only [h, if_false, wC_false]; rfl
@[simp ↓] theorem w_lcL (src : Ev (List D)) (vs : List Nat) (t : D → VEnv → Option VEnv) (tt : Ev Bool) (te : Ev D) (Q : List D → VEnv → Prop) : wR (mLcL src vs t tt te ρ) Q E =
    wR (src ρ) (fun ds ρ1 => wB (cleared ρ1 vs) (wWipe ρ1 vs fun ρ2 => wR (lcGo vs t tt te ds [] ρ2) (fun zs ρ3 => wRest ρ1 ρ3 vs fun ρ4 => Q zs ρ4) E) False) E := by
  unfold mLcL
  rw [wR_bind]
  refine wR_ext fun ds ρ1 => ?_
  cases cleared ρ1 vs
  · simp
  · simp only [if_true, wB_true]
    rw [wR_bind]; rfl
@[simp ↓] theorem w_lc (src : Ev (List D)) (vs : List Nat) (t : D → VEnv → Option VEnv) (tt : Ev Bool) (te : Ev D) (Q : D → VEnv → Prop) : wR (mLc src vs t tt te ρ) Q E = wR (mLcL src vs t tt te ρ) (fun zs ρ1 => Q (.lst zs) ρ1) E := by
  unfold mLc; rw [wR_bind]; rfl
@[simp ↓] theorem w_lcO (src : Ev (List D)) (vs : List Nat) (t : D → VEnv → Option VEnv) (tt : Ev Bool) (te : Ev D) (Q : MO → VEnv → Prop) : wR (mLcO src vs t tt te ρ) Q E = wR (mLcL src vs t tt te ρ) (fun zs ρ1 => Q (.lst zs) ρ1) E := by
  unfold mLcO; rw [wR_bind]; rfl
@[simp ↓] theorem w_yes (Q : Bool → VEnv → Prop) : wR (mYes ρ) Q E = Q true ρ := id rfl
/-- a comprehension by what holds ahead of each turn -/
theorem lc_inv {vs : List Nat} {t : D → VEnv → Option VEnv} {tt : Ev Bool} {te : Ev D} {Q : List D → VEnv → Prop} (e : α → D) (I : List α → List α → List D → VEnv → Prop) (xs : List α) (hl : xs.length ≤ 1000000) (h0 : I [] xs [] ρ) (hQ : ∀ zs ρ, I xs [] zs ρ → Q zs ρ)
    (step : ∀ pre x post zs ρ, xs = pre ++ x :: post → I pre (x :: post) zs ρ → wO (t (e x) ρ) fun ρ1 => wR (tt ρ1) (fun b ρ2 => wB b (wR (te ρ2) (fun y ρ3 => wWipe ρ3 vs fun ρ4 => Hide (I (pre ++ [x]) post (zs ++ [y]) ρ4)) fun _ _ _ => False) (wWipe ρ2 vs fun ρ4 => Hide (I (pre ++ [x]) post zs ρ4))) fun _ _ _ => False) :
    wR (lcGo vs t tt te (xs.map e) [] ρ) Q E := by
  have gen : ∀ (post pre : List α) (zs : List D) (ρ : VEnv), xs = pre ++ post → zs.length ≤ pre.length → I pre post zs ρ → wR (lcGo vs t tt te (post.map e) zs ρ) Q E := by
    intro post
    induction post with
    | nil => intro pre zs ρ hx _ h; rw [List.append_nil] at hx; subst hx; exact hQ _ _ h
    | cons x post ih =>
      intro pre zs ρ hx hz h
      have hlen : xs.length = pre.length + (post.length + 1) := by rw [hx]; simp
      rw [List.map_cons, lcGo_cons]
      have s := step pre x post zs ρ hx h
      cases q : t (e x) ρ with
      | none => rw [q] at s; exact s
      | some ρ1 =>
        rw [q] at s
        simp only [wO_some] at s ⊢
        refine wR_mono s fun b ρ2 s2 => ?_
        cases b with
        | true =>
          simp only [wB_true] at s2 ⊢
          refine wR_mono s2 fun y ρ3 s3 => ?_
          refine ⟨Nat.lt_of_lt_of_le (show zs.length < 1000001 by omega) (by decide), ?_⟩
          exact ih (pre ++ [x]) _ _ (by rw [hx]; simp) (by simp; omega) s3
        | false =>
          simp only [wB_false] at s2 ⊢
          exact ih (pre ++ [x]) _ _ (by rw [hx]; simp) (by simp; omega) s2
  exact gen xs [] [] ρ rfl (Nat.le_refl _) h0
/-- a comprehension that changes nothing -/
theorem lc_map {vs : List Nat} {t : D → VEnv → Option VEnv} {tt : Ev Bool} {te : Ev D} {Q : List D → VEnv → Prop} {e : α → D} {xs : List α} (f : α → D) (hl : xs.length ≤ 1000000) (hQ : Q (xs.map f) ρ)
    (step : ∀ x, x ∈ xs → wO (t (e x) ρ) fun ρ1 => wR (tt ρ1) (fun b ρ2 => wB b (wR (te ρ2) (fun y ρ3 => wWipe ρ3 vs fun ρ4 => y = f x ∧ ρ4 = ρ) fun _ _ _ => False) False) fun _ _ _ => False) :
    wR (lcGo vs t tt te (xs.map e) [] ρ) Q E := by
  refine lc_inv e (fun pre _ zs ρ' => zs = pre.map f ∧ ρ' = ρ) xs hl ⟨rfl, rfl⟩ (fun zs ρ' h => by rw [h.1, h.2]; exact hQ) fun pre x post zs ρ' hx h => ?_
  obtain ⟨rfl, rfl⟩ := h
  have s := step x (by rw [hx]; simp)
  cases q : t (e x) ρ' with
  | none => rw [q] at s; exact s
  | some ρ1 =>
    rw [q] at s
    simp only [wO_some] at s ⊢
    refine wR_mono s fun b ρ2 s2 => ?_
    cases b with
    | false => simp at s2
    | true =>
      simp only [wB_true] at s2 ⊢
      exact wR_mono s2 fun y ρ3 s3 => ⟨by rw [s3.1]; simp, s3.2⟩
theorem lc_filter {vs : List Nat} {t : D → VEnv → Option VEnv} {tt : Ev Bool} {te : Ev D} {Q : List D → VEnv → Prop} {e : α → D} {xs : List α} (p : α → Bool) (f : α → D) (hl : xs.length ≤ 1000000) (hQ : Q ((xs.filter p).map f) ρ)
    (step : ∀ x, x ∈ xs → wO (t (e x) ρ) fun ρ1 => wR (tt ρ1) (fun b ρ2 => b = p x ∧ wB b (wR (te ρ2) (fun y ρ3 => wWipe ρ3 vs fun ρ4 => y = f x ∧ ρ4 = ρ) fun _ _ _ => False) (wWipe ρ2 vs fun ρ4 => ρ4 = ρ)) fun _ _ _ => False) :
    wR (lcGo vs t tt te (xs.map e) [] ρ) Q E := by
  refine lc_inv e (fun pre _ zs ρ' => zs = (pre.filter p).map f ∧ ρ' = ρ) xs hl ⟨rfl, rfl⟩ (fun zs ρ' h => by rw [h.1, h.2]; exact hQ) fun pre x post zs ρ' hx h => ?_
  obtain ⟨rfl, rfl⟩ := h
  have s := step x (by rw [hx]; simp)
  cases q : t (e x) ρ' with
  | none => rw [q] at s; exact s
  | some ρ1 =>
    rw [q] at s
    simp only [wO_some] at s ⊢
    refine wR_mono s fun b ρ2 s2 => ?_
    obtain ⟨hb, s2⟩ := s2
    cases b with
    | false =>
      simp only [wB_false] at s2 ⊢
      exact ⟨by rw [List.filter_append]; simp [← hb], s2⟩
    | true =>
      simp only [wB_true] at s2 ⊢
      exact wR_mono s2 fun y ρ3 s3 => ⟨by rw [s3.1, List.filter_append]; simp [← hb], s3.2⟩
theorem lc_mapD {vs : List Nat} {t : D → VEnv → Option VEnv} {tt : Ev Bool} {te : Ev D} {Q : List D → VEnv → Prop} {xs : List D} (f : D → D) (hl : xs.length ≤ 1000000) (hQ : Q (xs.map f) ρ)
    (step : ∀ x, x ∈ xs → wO (t x ρ) fun ρ1 => wR (tt ρ1) (fun b ρ2 => wB b (wR (te ρ2) (fun y ρ3 => wWipe ρ3 vs fun ρ4 => y = f x ∧ ρ4 = ρ) fun _ _ _ => False) False) fun _ _ _ => False) :
    wR (lcGo vs t tt te xs [] ρ) Q E := by
  have := lc_map (E := E) (vs := vs) (t := t) (tt := tt) (te := te) (Q := Q) (e := id) (xs := xs) f hl hQ step
  rwa [List.map_id] at this
theorem lc_filterD {vs : List Nat} {t : D → VEnv → Option VEnv} {tt : Ev Bool} {te : Ev D} {Q : List D → VEnv → Prop} {xs : List D} (p : D → Bool) (f : D → D) (hl : xs.length ≤ 1000000) (hQ : Q ((xs.filter p).map f) ρ)
    (step : ∀ x, x ∈ xs → wO (t x ρ) fun ρ1 => wR (tt ρ1) (fun b ρ2 => b = p x ∧ wB b (wR (te ρ2) (fun y ρ3 => wWipe ρ3 vs fun ρ4 => y = f x ∧ ρ4 = ρ) fun _ _ _ => False) (wWipe ρ2 vs fun ρ4 => ρ4 = ρ)) fun _ _ _ => False) :
    wR (lcGo vs t tt te xs [] ρ) Q E := by
  have := lc_filter (E := E) (vs := vs) (t := t) (tt := tt) (te := te) (Q := Q) (e := id) (xs := xs) p f hl hQ step
  rwa [List.map_id] at this
theorem for_invD {t : D → VEnv → Option VEnv} {body : VEnv → RS} (I : List D → List D → VEnv → Prop) (xs : List D) (h0 : I [] xs ρ) (hN : ∀ ρ, I xs [] ρ → N ρ)
    (step : ∀ pre x post ρ, xs = pre ++ x :: post → I pre (x :: post) ρ → wO (t x ρ) fun ρ1 => wS (body ρ1) (fun ρ2 => Hide (I (pre ++ [x]) post ρ2)) (wTurn (fun ρ2 => Hide (I (pre ++ [x]) post ρ2)) N Z)) : wS (forGo t body xs ρ) N Z := by
  have := for_inv (t := t) (body := body) (N := N) (Z := Z) id I xs h0 hN step
  rwa [List.map_id] at this
end
end VS
set_option maxHeartbeats 2000000
namespace K03
open PySem L2 VS
def h_p_is_whole : VEnv → RS := (mRet (mAndV (mIsi (isiB "int") (mVar 0)) (mAndV (mNotV (mIsi (isiB "bool") (mVar 0))) (mChain leD leD (mVar 1) (mVar 0) (mVar 2)))))
def g_p_is_whole : Fn := runG 3 h_p_is_whole
-- p_is_whole: 0 thing, 1 low, 2 high
def h_p_is_name : VEnv → RS := (mSeq (mIfS (mOr (mNot (mTruth (mIsi (isiB "str") (mVar 0)))) (mNot (mTest (mChain leD leD (mC (.int 1)) (mCall1 lenD (mVar 0)) (mC (.int 6)))))) (mRet (mC (.bl false))) mNext)
    (mRet (mCall1 allD (mLc (mSeqOf (mVar 0)) [1] (setV 1) mYes (mChain leD leD (mC (.str "a")) (mVar 1) (mC (.str "z")))))))
def g_p_is_name : Fn := runG 2 h_p_is_name
-- p_is_name: 0 thing, 1 sign
def h_p_are_hungers : VEnv → RS := (mSeq (mIfS (mOr (mNot (mTruth (mIsi (isiB "tuple") (mVar 0)))) (mTest (mOp neD (mCall1 lenD (mVar 0)) (mVar 1)))) (mRet (mC (.bl false))) mNext)
    (mSeq (mIfS (mNot (mTruth (mCall1 allD (mLc (mSeqOf (mVar 0)) [2] (setV 2) mYes (mVal (mRes g_p_is_whole 3 [] (mCV (mVar 2) (mCV (mC (.int 0)) (mCV (mC (.int 9)) mCN))))))))) (mRet (mC (.bl false))) mNext)
    (mRet (mCall1 anyD (mLc (mSeqOf (mVar 0)) [2] (setV 2) mYes (mOp gtD (mVar 2) (mC (.int 0))))))))
def g_p_are_hungers : Fn := runG 3 h_p_are_hungers
-- p_are_hungers: 0 thing, 1 stores, 2 hunger
def h_p_are_feeders : VEnv → RS := (mSeq (mIfS (mNot (mTruth (mIsi (isiB "tuple") (mVar 0)))) (mRet (mC (.bl false))) mNext)
    (mSeq (mIfS (mNot (mTruth (mCall1 allD (mLc (mSeqOf (mVar 0)) [2] (setV 2) mYes (mAndV (mIsi (isiB "str") (mVar 2)) (mOp inD (mVar 2) (mOwn 1))))))) (mRet (mC (.bl false))) mNext)
    (mRet (mOp eqD (mCall1 lenSetD (mVar 0)) (mCall1 lenD (mVar 0))))))
def g_p_are_feeders : Fn := runG 3 h_p_are_feeders
-- p_are_feeders: 0 thing, 1 ahead*, 2 feeder
def h_p_is_hearth : VEnv → RS := (mSeq (mIfS (mOr (mNot (mTruth (mIsi (isiB "tuple") (mVar 0)))) (mTest (mOp neD (mCall1 lenD (mVar 0)) (mC (.int 3))))) (mRet (mC (.bl false))) mNext)
    (mSeq (mAsg (mVar 0) (tgTup 3 (tgCons (setV 3) (tgCons (setV 4) (tgCons (setV 5) tgNil)))))
    (mSeq (mIfS (mOr (mNot (mTruth (mVal (mRes g_p_is_name 1 [] (mCV (mVar 3) mCN))))) (mTest (mOp inD (mVar 3) (mOwn 2)))) (mRet (mC (.bl false))) mNext)
    (mRet (mAndV (mVal (mRes g_p_are_hungers 2 [] (mCV (mVar 4) (mCV (mVar 1) mCN)))) (mVal (mRes g_p_are_feeders 2 [] (mCV (mVar 5) (mCL 2 mCN)))))))))
def g_p_is_hearth : Fn := runG 6 h_p_is_hearth
-- p_is_hearth: 0 thing, 1 stores, 2 ahead*, 3 name, 4 hungers, 5 feeders
def h_p_hearths_by_name : VEnv → RS := (mSeq (mIfS (mOr (mNot (mTruth (mIsi (isiB "tuple") (mVar 1)))) (mTest (mOp gtD (mCall1 lenD (mVar 1)) (mC (.int 16))))) (mRaiseF 1 (mC .non)) mNext)
    (mSeq (mSetO 2 mDictO)
    (mSeq (mFor (mEnumE (mVar 1)) (tgTup 2 (tgCons (setV 3) (tgCons (setV 4) tgNil))) (mSeq (mIfS (mNot (mTruth (mVal (mRes g_p_is_hearth 3 [] (mCV (mVar 4) (mCV (mVar 0) (mCL 2 mCN))))))) (mRaiseF 1 (mVar 3)) mNext)
    (mAsg (mVar 4) (tgPut 2 (mOp ixD (mVar 4) (mC (.int 0)))))))
    (mRetO 2))))
def g_p_hearths_by_name : Fn := runG 5 h_p_hearths_by_name
-- p_hearths_by_name: 0 stores, 1 hearths, 2 ahead*, 3 place, 4 hearth
def h_p_hearth_row : VEnv → RS := (mSeq (mAsg (mVar 0) (tgTup 3 (tgCons (setV 1) (tgCons (setV 2) (tgCons (setV 3) tgNil)))))
    (mSeq (mSetO 4 (mAddO (mLst (mCons (mC (.str "hearth")) (mCons (mVar 1) mNil))) (mLc (mSeqOf (mVar 2)) [5] (setV 5) mYes (mCall1 strD (mVar 5)))))
    (mSeq (mIfS (mTruth (mVar 3)) (mAugL 4 (mOp addD (mLst (mCons (mC (.str "over")) mNil)) (mCall1 listD (mVar 3)))) mNext)
    (mRet (mCall1 (joinD " ") (mOwn 4))))))
def g_p_hearth_row : Fn := runG 6 h_p_hearth_row
-- p_hearth_row: 0 hearth, 1 name, 2 hungers, 3 feeders, 4 words*, 5 hunger
def h_m_Web_init : VEnv → RS := (mSeq (mIfS (mNot (mTruth (mVal (mRes g_p_is_whole 3 [] (mCV (mVar 1) (mCV (mC (.int 1)) (mCV (mC (.int 3)) mCN))))))) mNever mNext)
    (mSeq (mFldS 0 0 0 (mVal (mRes g_p_hearths_by_name 2 [] (mCV (mVar 1) (mCV (mVar 2) mCN)))))
    (mSeq (mFldS 0 0 1 (mVar 1))
    (mFldS 0 0 2 (mVar 2)))))
def g_m_Web_init : Fn := runG 3 h_m_Web_init
-- m_Web_init: 0 self*, 1 stores, 2 hearths
def h_m_Web_built : VEnv → RS := (mRet (mVal (mMake g_m_Web_init 0 3 [] (mCons (mCall1 (fldD 0 1) (mVar 0)) (mCons (mOp addD (mCall1 (fldD 0 2) (mVar 0)) (mTup (mCons (mVar 1) mNil))) mNil)))))
def g_m_Web_built : Fn := runG 2 h_m_Web_built
-- m_Web_built: 0 self, 1 hearth
def h_m_Web_eq : VEnv → RS := (mRet (mAndV (mIsi (isiC 0) (mVar 1)) (mAndV (mOp eqD (mCall1 (fldD 0 1) (mVar 0)) (mCall1 (fldD 0 1) (mVar 1))) (mOp eqD (mCall1 (fldD 0 2) (mVar 0)) (mCall1 (fldD 0 2) (mVar 1))))))
def g_m_Web_eq : Fn := runG 2 h_m_Web_eq
-- m_Web_eq: 0 self, 1 other
def h_m_Web_len : VEnv → RS := (mRet (mCall1 lenD (mCall1 (fldD 0 2) (mVar 0))))
def g_m_Web_len : Fn := runG 1 h_m_Web_len
-- m_Web_len: 0 self
def h_m_Web_str : VEnv → RS := (mRet (mCall1 (joinD "\n") (mOp addD (mLst (mCons (mFmt [(mC (.str "stores ")), (mCall1 fmtD (mCall1 (fldD 0 1) (mVar 0)))] Str.empty) mNil)) (mLc (mSeqOf (mCall1 (fldD 0 2) (mVar 0))) [1] (setV 1) mYes (mVal (mRes g_p_hearth_row 1 [] (mCV (mVar 1) mCN)))))))
def g_m_Web_str : Fn := runG 2 h_m_Web_str
-- m_Web_str: 0 self, 1 hearth
def h_m_Web_repr : VEnv → RS := (mRet (mFmt [(mC (.str "Web(")), (mCall1 fmtD (mCall1 (fldD 0 1) (mVar 0))), (mC (.str ", ")), (mCall1 fmtD (mCall1 lenD (mCall1 (fldD 0 2) (mVar 0)))), (mC (.str ")"))] Str.empty))
def g_m_Web_repr : Fn := runG 1 h_m_Web_repr
-- m_Web_repr: 0 self
def h_l_cell : VEnv → RS := (mSeq (mIfS (mTest (mOp ltD (mVar 1) (mCall1 lenD (mVar 0)))) (mRet (mOp ixD (mVar 0) (mVar 1))) mNext)
    (mSeq (mAsg (mOp modD (mOp mulE (mC (.int 60037)) (mOp addD (mOp addD (mOp mulE (mVar 1) (mVar 1)) (mOp mulE (mC (.int 7)) (mVar 1))) (mC (.int 5)))) (mC (.int 1000000087))) (setV 2))
    (mSeq (mFor (mSeqOf (mSlice (mVar 0) mNoPart (mPart (mC (.int 4))))) (setV 3) (mAsg (mOp modD (mOp addD (mOp mulE (mVar 2) (mC (.int 30013))) (mVar 3)) (mC (.int 1000000087))) (setV 2)))
    (mRet (mVar 2)))))
def g_l_cell : Fn := runG 4 h_l_cell
-- l_cell: 0 _law_script, 1 _law_k, 2 _law_state, 3 _law_cell_here
def h_l_hand : VEnv → RS := (mSeq (mAsg (mIf (mOr (mTest (mOp ltD (mVar 0) (mC (.int 0)))) (mTest (mOp geD (mVar 0) (mOp powD (mC (.int 10)) (mC (.int 18)))))) (mCall1 absD (mVar 0)) (mC (.int 0))) (setV 1))
    (mRetF (mLstO (mCons (mVar 1) (mCons (mOp addD (mOp mulE (mOp modD (mVar 0) (mC (.int 1000000087))) (mC (.int 7013))) (mC (.int 4007))) (mCons (mC (.int 0)) mNil))))))
def g_l_hand : Fn := runG 2 h_l_hand
-- l_hand: 0 _law_cell_here, 1 _law_digits
def h_l_draw : VEnv → RS := (mSeq (mAsg (mOp addD (mOpO ixD 0 (mC (.int 2))) (mC (.int 1))) (tgItem 0 (mC (.int 2))))
    (mSeq (mIfS (mTest (mOp gtD (mOpO ixD 0 (mC (.int 0))) (mC (.int 0)))) (mSeq (mAsg (mCall divmodD (mCons (mOpO ixD 0 (mC (.int 0))) (mCons (mVar 1) mNil))) (tgTup 2 (tgCons (tgItem 0 (mC (.int 0))) (tgCons (setV 2) tgNil))))
    (mRet (mVar 2))) mNext)
    (mSeq (mAsg (mOp modD (mOpO ixD 0 (mC (.int 1))) (mC (.int 1000000087))) (setV 3))
    (mSeq (mAsg (mOp addD (mOp mulE (mVar 3) (mOp addD (mOp modD (mVar 3) (mC (.int 46027))) (mC (.int 30011)))) (mOp mulE (mC (.int 80039)) (mOpO ixD 0 (mC (.int 2))))) (tgItem 0 (mC (.int 1))))
    (mRet (mOp modD (mOp fdivD (mOp modD (mOpO ixD 0 (mC (.int 1))) (mC (.int 1000000087))) (mC (.int 16))) (mVar 1)))))))
def g_l_draw : Fn := runG 4 h_l_draw
-- l_draw: 0 _law_hand_here*, 1 _law_many, 2 _law_digit, 3 _law_state
def h_l_calls : VEnv → RS := (mSeq (mAsg (mLst (mCons (mC (.str "over")) (mCons (mC (.str "hearth")) (mCons (mC (.str "out")) (mCons (mC (.str "kindle")) (mCons (mC (.str "gust")) (mCons (mC (.str "spark")) (mCons (mC (.str "give")) (mCons (mC (.str "back")) (mCons (mC (.str "here")) (mCons (mC (.str "never")) (mCons (mC (.str "to")) (mCons (mC (.str "stores")) mNil))))))))))))) (setV 2))
    (mSeq (mParEF 3 4 (mC (.str "abcdefghijklmnopqrstuvwxyz")) (mLstO mNil))
    (mSeq (mFor (mRange1 (mVar 1)) (setV 5) (mSeq (mAsg (mOp ixD (mVar 2) (mVal (mRes g_l_draw 2 [] (mCL 0 (mCV (mC (.int 12)) mCN))))) (setV 6))
    (mSeq (mIfS (mTest (mOp gtD (mVal (mRes g_l_draw 2 [] (mCL 0 (mCV (mC (.int 3)) mCN)))) (mC (.int 0)))) (mAsg (mCall1 (joinD "") (mLc (mRange1 (mOp addD (mC (.int 1)) (mVal (mRes g_l_draw 2 [] (mCL 0 (mCV (mC (.int 6)) mCN)))))) [8] (setV 8) mYes (mOp ixD (mVar 3) (mVal (mRes g_l_draw 2 [] (mCL 0 (mCV (mC (.int 26)) mCN))))))) (setV 6)) mNext)
    (mSeq (mAsg (mOp addD (mLst (mCons (mVar 6) mNil)) (mLc (mSeqOf (mVar 3)) [9] (setV 9) mYes (mOp addD (mSlice (mVar 6) mNoPart (mPart (mC (.int 5)))) (mVar 9)))) (setV 7))
    (mAppend 4 (mOp ixD (mLc (mSeqOf (mVar 7)) [10] (setV 10) (mTest (mOp notInD (mVar 10) (mOwn 4))) (mVar 10)) (mC (.int 0))))))))
    (mRetO 4))))
def g_l_calls : Fn := runG 11 h_l_calls
-- l_calls: 0 _law_hand_here*, 1 _law_many, 2 _law_own, 3 _law_letters, 4 _law_found*, 5 _law_turn, 6 _law_word, 7 _law_some, 8 _law_k, 9 _law_letter, 10 _law_call
def h_l_fires : VEnv → RS := (mSeq (mParEF 3 4 (mVal (mRes g_l_calls 2 [] (mCL 0 (mCV (mVar 1) mCN)))) (mLstO mNil))
    (mSeq (mAsg (mOp eqD (mVal (mRes g_l_draw 2 [] (mCL 0 (mCV (mC (.int 4)) mCN)))) (mC (.int 0))) (setV 5))
    (mSeq (mFor (mRange1 (mVar 1)) (setV 6) (mSeq (mSetO 7 (mLcO (mRange1 (mVar 2)) [11] (setV 11) mYes (mOp ixD (mLst (mCons (mC (.int 1)) (mCons (mC (.int 1)) (mCons (mC (.int 1)) (mCons (mC (.int 2)) (mCons (mC (.int 3)) (mCons (mC (.int 0)) mNil))))))) (mVal (mRes g_l_draw 2 [] (mCL 0 (mCV (mC (.int 6)) mCN)))))))
    (mSeq (mIfS (mTest (mOp eqD (mCall1 maxD (mOwn 7)) (mC (.int 0)))) (mAsg (mOp addD (mC (.int 1)) (mVal (mRes g_l_draw 2 [] (mCL 0 (mCV (mC (.int 9)) mCN))))) (tgItem 7 (mVal (mRes g_l_draw 2 [] (mCL 0 (mCV (mVar 2) mCN)))))) mNext)
    (mSeq (mSetO 8 (mLstO mNil))
    (mSeq (mFor (mRange1 (mOp ixD (mLst (mCons (mC (.int 1)) (mCons (mC (.int 1)) (mCons (mC (.int 2)) (mCons (mC (.int 3)) mNil))))) (mVal (mRes g_l_draw 2 [] (mCL 0 (mCV (mC (.int 4)) mCN)))))) (setV 9) (mSeq (mAsg (mOp ixD (mVar 3) (mCall max2D (mCons (mC (.int 0)) (mCons (mOp subD (mOp subD (mVar 6) (mC (.int 1))) (mOp mulE (mVal (mRes g_l_draw 2 [] (mCL 0 (mCV (mC (.int 3)) mCN)))) (mCall1 int1D (mNotV (mVar 5))))) mNil)))) (setV 10))
    (mIfS (mTest (mOp notInD (mVar 10) (mOwn 8))) (mAppend 8 (mVar 10)) mNext)))
    (mSeq (mIfS (mOr (mTest (mOp eqD (mVar 6) (mC (.int 0)))) (mAnd (mNot (mTruth (mVar 5))) (mTest (mOp eqD (mVal (mRes g_l_draw 2 [] (mCL 0 (mCV (mC (.int 7)) mCN)))) (mC (.int 0)))))) (mSetO 8 (mLstO mNil)) mNext)
    (mAppend 4 (mTup (mCons (mOp ixD (mVar 3) (mVar 6)) (mCons (mCall1 tupleE (mOwn 7)) (mCons (mCall1 tupleE (mOwn 8)) mNil)))))))))))
    (mRetO 4))))
def g_l_fires : Fn := runG 12 h_l_fires
-- l_fires: 0 _law_hand_here*, 1 _law_many, 2 _law_few, 3 _law_calls_here, 4 _law_found*, 5 _law_stair, 6 _law_k, 7 _law_hungers*, 8 _law_feeders*, 9 _law_turn, 10 _law_call, 11 _law_j
def h_l_put : VEnv → RS := (mRet (mOp addD (mOp addD (mSlice (mVar 0) mNoPart (mPart (mVar 1))) (mLst (mCons (mVar 2) mNil))) (mSlice (mVar 0) (mPart (mOp addD (mVar 1) (mC (.int 1)))) mNoPart)))
def g_l_put : Fn := runG 3 h_l_put
-- l_put: 0 _law_fires_here, 1 _law_at, 2 _law_fire
def h_l_others : VEnv → RS := (mSeq (mAsg (mVal (mRes g_l_draw 2 [] (mCL 0 (mCV (mCall1 lenD (mVar 1)) mCN)))) (setV 2))
    (mSeq (mAsg (mOp ixD (mVar 1) (mVar 2)) (tgTup 3 (tgCons (setV 3) (tgCons (setV 4) (tgCons (setV 5) tgNil)))))
    (mSeq (mSetO 6 (mLstO (mCons (mSlice (mVar 1) mNoPart (mPart (mCall1 negD (mC (.int 1))))) (mCons (mVal (mRes g_l_put 3 [] (mCV (mVar 1) (mCV (mVar 2) (mCV (mTup (mCons (mVar 3) (mCons (mOp addD (mSlice (mVar 4) mNoPart (mPart (mCall1 negD (mC (.int 1))))) (mTup (mCons (mOp addD (mOp modD (mOp ixD (mVar 4) (mCall1 negD (mC (.int 1)))) (mC (.int 9))) (mC (.int 1))) mNil))) (mCons (mVar 5) mNil)))) mCN))))) mNil))))
    (mSeq (mAsg (mLc (mSeqOf (mC (.str "abcdefghijklmnopqrstuvwxyz"))) [8] (setV 8) (mTest (mOp notInD (mVar 8) (mLc (mSeqOf (mVar 1)) [9] (setV 9) mYes (mOp ixD (mVar 9) (mC (.int 0)))))) (mVar 8)) (setV 7))
    (mSeq (mAppend 6 (mOp addD (mSlice (mVar 1) mNoPart (mPart (mCall1 negD (mC (.int 1))))) (mLst (mCons (mOp addD (mTup (mCons (mOp ixD (mVar 7) (mC (.int 0))) mNil)) (mSlice (mOp ixD (mVar 1) (mCall1 negD (mC (.int 1)))) (mPart (mC (.int 1))) mNoPart)) mNil))))
    (mSeq (mIfS (mTest (mOp neD (mVar 5) (mTup mNil))) (mAppend 6 (mVal (mRes g_l_put 3 [] (mCV (mVar 1) (mCV (mVar 2) (mCV (mTup (mCons (mVar 3) (mCons (mVar 4) (mCons (mSlice (mVar 5) (mPart (mC (.int 1))) mNoPart) mNil)))) mCN)))))) mNext)
    (mSeq (mIfS (mTest (mOp gtD (mCall1 lenD (mVar 5)) (mC (.int 1)))) (mAppend 6 (mVal (mRes g_l_put 3 [] (mCV (mVar 1) (mCV (mVar 2) (mCV (mTup (mCons (mVar 3) (mCons (mVar 4) (mCons (mCall1 revD (mVar 5)) mNil)))) mCN)))))) mNext)
    (mRetO 6))))))))
def g_l_others : Fn := runG 10 h_l_others
-- l_others: 0 _law_hand_here*, 1 _law_fires_here, 2 _law_at, 3 _law_call, 4 _law_hungers, 5 _law_feeders, 6 _law_found*, 7 _law_free, 8 _law_letter, 9 _law_fire
def h_l_alike : VEnv → RS := (mSeq (mAsg (mLst (mCons (mOp (sameJ eqD false 0 g_m_Web_eq) (mVar 0) (mVar 1)) (mCons (mOp (sameJ eqD false 0 g_m_Web_eq) (mVar 1) (mVar 0)) (mCons (mNotV (mOp (sameJ neD true 0 g_m_Web_eq) (mVar 0) (mVar 1))) (mCons (mNotV (mOp (sameJ neD true 0 g_m_Web_eq) (mVar 1) (mVar 0))) (mCons (mOp (inJ 0 g_m_Web_eq) (mVar 1) (mLst (mCons (mVar 0) mNil))) (mCons (mOp (inJ 0 g_m_Web_eq) (mVar 0) (mTup (mCons (mVar 1) mNil))) mNil))))))) (setV 3))
    (mRet (mAndV (mOp (sameJ eqD false 0 g_m_Web_eq) (mVar 3) (mOp mulE (mLst (mCons (mVar 2) mNil)) (mC (.int 6)))) (mCall1 allD (mLc (mSeqOf (mVar 3)) [4] (setV 4) mYes (mIsi (isiB "bool") (mVar 4)))))))
def g_l_alike : Fn := runG 5 h_l_alike
-- l_alike: 0 _law_web, 1 _law_thing, 2 _law_due, 3 _law_told, 4 _law_word
def h_l_refused : VEnv → RS := (mSeq (mAsg (mC .non) (setV 2))
    (mSeq (mTryK [1] 3 2 (mExpr (mVal (mMeth g_m_Web_built 0 2 [] (mVar 0) (mCons (mVar 1) mNil)))))
    (mSeq (mIfS (mOr (mNot (mTruth (mIsi (isaD [1] (isaF ["NoneType"] [(1, true)])) (mVar 2)))) (mTruth (mIsi (isaD [1] (isaF ["NoneType"] [(1, false)])) (mVar 2)))) (mRet (mC .non)) mNext)
    (mRet (mLst (mCons (mCall1 (xfdD [1] 0) (mVar 2)) mNil))))))
def g_l_refused : Fn := runG 4 h_l_refused
-- l_refused: 0 _law_web, 1 _law_thing, 2 _law_caught, 3 e
def h_l_grown : VEnv → RS := (mSeq (mSetO 2 (mLstO (mCons (mVal (mMake g_m_Web_init 0 3 [.tup []] (mCons (mVar 1) mNil))) mNil)))
    (mSeq (mFor (mRange1 (mCall1 (lenI 0 g_m_Web_len) (mVar 0))) (setV 3) (mAppend 2 (mIf (mTest (mOp (sameJ eqD false 0 g_m_Web_eq) (mOp modD (mVar 3) (mC (.int 2))) (mC (.int 0)))) (mVal (mMeth g_m_Web_built 0 2 [] (mOpO ixD 2 (mCall1 negD (mC (.int 1)))) (mCons (mOp ixD (mVar 0) (mVar 3)) mNil))) (mVal (mMethK g_m_Web_built 0 2 (mOpO ixD 2 (mCall1 negD (mC (.int 1)))) (mOp ixD (mVar 0) (mVar 3)))))))
    (mSeq (mFor (mRange1 (mCall1 lenD (mOwn 2))) (setV 3) (mIfS (mOr (mTest (mOp (sameJ neD true 0 g_m_Web_eq) (mOpO ixD 2 (mVar 3)) (mVal (mMake g_m_Web_init 0 3 [] (mCons (mVar 1) (mCons (mCall1 tupleE (mSlice (mVar 0) mNoPart (mPart (mVar 3)))) mNil)))))) (mOr (mTest (mOp (sameJ neD true 0 g_m_Web_eq) (mCall1 (lenI 0 g_m_Web_len) (mOpO ixD 2 (mVar 3))) (mVar 3))) (mTest (mOp (sameJ neD true 0 g_m_Web_eq) (mCall1 (fldD 0 2) (mOpO ixD 2 (mVar 3))) (mCall1 tupleE (mSlice (mVar 0) mNoPart (mPart (mVar 3)))))))) (mRet (mC (.bl false))) mNext))
    (mRet (mOp (sameJ eqD false 0 g_m_Web_eq) (mOpO ixD 2 (mCall1 negD (mC (.int 1)))) (mVal (mMake g_m_Web_init 0 3 [] (mPerm 2 [1, 0] (mCons (mCall1 tupleE (mVar 0)) (mCons (mVar 1) mNil))))))))))
def g_l_grown : Fn := runG 4 h_l_grown
-- l_grown: 0 _law_fires_here, 1 _law_few, 2 _law_webs*, 3 _law_k
def h_l_built_right : VEnv → RS := (mSeq (mAsg (mVal (mMake g_m_Web_init 0 3 [] (mCons (mVar 2) (mCons (mCall1 tupleE (mVar 1)) mNil)))) (setV 3))
    (mSeq (mAsg (mLst (mCons (mC .non) (mCons (mTup mNil) (mCons (mTup (mCons (mC (.str "a")) mNil)) (mCons (mTup (mCons (mC (.str "A")) (mCons (mOp mulE (mTup (mCons (mC (.int 1)) mNil)) (mVar 2)) (mCons (mTup mNil) mNil)))) (mCons (mTup (mCons (mC (.str "zzzzzz")) (mCons (mOp mulE (mTup (mCons (mC (.int 0)) mNil)) (mVar 2)) (mCons (mTup mNil) mNil)))) (mCons (mLst mNil) (mCons (mFrz mDictO) mNil)))))))) (setV 4))
    (mSeq (mAsg (mOp addD (mVar 4) (mLst (mCons (mTup (mCons (mC (.str "zzzzzz")) (mCons (mOp mulE (mTup (mCons (mC (.int 1)) mNil)) (mVar 2)) (mCons (mTup (mCons (mC (.str "zzzzzz")) mNil)) mNil)))) mNil))) (setV 4))
    (mSeq (mAsg (mOp addD (mVar 4) (mLst (mCons (mTup (mCons (mC (.str "zzzzzz")) (mCons (mOp mulE (mTup (mCons (mC (.int 1)) mNil)) (mOp addD (mVar 2) (mC (.int 1)))) (mCons (mTup mNil) mNil)))) (mCons (mTup (mCons (mC (.str "zzzzzz")) (mCons (mOp mulE (mTup (mCons (mC (.int 1)) mNil)) (mVar 2)) (mCons (mLst (mCons (mC (.str "a")) mNil)) mNil)))) (mCons (mTup (mCons (mC (.str "zzzzzz")) (mCons (mOp mulE (mTup (mCons (mC (.bl true)) mNil)) (mVar 2)) (mCons (mTup mNil) mNil)))) mNil))))) (setV 4))
    (mSeq (mAsg (mOp addD (mVar 4) (mLc (mSeqOf (mSlice (mVar 1) mNoPart (mPart (mC (.int 2))))) [6] (setV 6) mYes (mTup (mCons (mOp ixD (mVar 6) (mC (.int 0))) (mCons (mOp mulE (mTup (mCons (mC (.int 1)) mNil)) (mVar 2)) (mCons (mTup mNil) mNil)))))) (setV 4))
    (mSeq (mAsg (mLst (mCons (mIf (mTest (mOp (sameJ eqD false 0 g_m_Web_eq) (mCall1 (lenI 0 g_m_Web_len) (mVar 1)) (mC (.int 16)))) (mC .non) (mCall1 (lenI 0 g_m_Web_len) (mVar 1))) mNil)) (setV 5))
    (mSeq (mIfS (mOr (mTest (mOp (sameJ neD true 0 g_m_Web_eq) (mLc (mSeqOf (mVar 4)) [7] (setV 7) mYes (mVal (mRes g_l_refused 2 [] (mCV (mVar 3) (mCV (mVar 7) mCN))))) (mOp mulE (mLst (mCons (mVar 5) mNil)) (mCall1 (lenI 0 g_m_Web_len) (mVar 4))))) (mTest (mOp (sameJ neD true 0 g_m_Web_eq) (mVar 3) (mVal (mMake g_m_Web_init 0 3 [] (mCons (mVar 2) (mCons (mCall1 tupleE (mVar 1)) mNil))))))) (mRet (mC (.bl false))) mNext)
    (mRet (mOrV (mOp ltD (mCall1 (lenI 0 g_m_Web_len) (mVar 1)) (mC (.int 16))) (mOp (sameJ eqD false 0 g_m_Web_eq) (mVal (mRes g_l_refused 2 [] (mCV (mVar 3) (mCV (mTup (mCons (mC (.str "zzzzz")) (mCons (mOp mulE (mTup (mCons (mC (.int 1)) mNil)) (mVar 2)) (mCons (mTup mNil) mNil)))) mCN)))) (mLst (mCons (mC .non) mNil))))))))))))
def g_l_built_right : Fn := runG 8 h_l_built_right
-- l_built_right: 0 _law_hand_here, 1 _law_fires_here, 2 _law_few, 3 _law_web, 4 _law_odd, 5 _law_due, 6 _law_fire, 7 _law_thing
def h_law_ : VEnv → RS := (mSeq (mFor (mRange1 (mCall max2D (mCons (mC (.int 2)) (mCons (mCall min2D (mCons (mCall1 (lenI 0 g_m_Web_len) (mVar 0)) (mCons (mC (.int 10)) mNil))) mNil)))) (setV 1) (mSeq (mSetO 2 (mNew (mRes g_l_hand 1 [] (mCV (mVal (mRes g_l_cell 2 [] (mCV (mVar 0) (mCV (mVar 1) mCN)))) mCN))))
    (mSeq (mParEE 3 4 (mOp addD (mC (.int 1)) (mVal (mRes g_l_draw 2 [] (mCL 2 (mCV (mC (.int 3)) mCN))))) (mOp addD (mC (.int 1)) (mVal (mRes g_l_draw 2 [] (mCL 2 (mCV (mC (.int 16)) mCN))))))
    (mSeq (mAsg (mVal (mRes g_l_fires 3 [] (mCL 2 (mCV (mVar 4) (mCV (mVar 3) mCN))))) (setV 5))
    (mSeq (mAsg (mVal (mMake g_m_Web_init 0 3 [] (mCons (mVar 3) (mCons (mCall1 tupleE (mVar 5)) mNil)))) (setV 6))
    (mSeq (mIfS (mOr (mNot (mTruth (mVal (mRes g_l_grown 2 [] (mCV (mVar 5) (mCV (mVar 3) mCN)))))) (mNot (mTruth (mVal (mRes g_l_alike 3 [] (mCV (mVar 6) (mCV (mVal (mMake g_m_Web_init 0 3 [] (mCons (mVar 3) (mCons (mCall1 tupleE (mVar 5)) mNil)))) (mCV (mC (.bl true)) mCN)))))))) (mRet (mC (.bl false))) mNext)
    (mSeq (mIfS (mNot (mTruth (mCall1 allD (mLc (mSeqOf (mVal (mRes g_l_others 2 [] (mCL 2 (mCV (mVar 5) mCN))))) [8] (setV 8) mYes (mVal (mRes g_l_alike 3 [] (mCV (mVar 6) (mCV (mVal (mMake g_m_Web_init 0 3 [] (mCons (mVar 3) (mCons (mCall1 tupleE (mVar 8)) mNil)))) (mCV (mC (.bl false)) mCN))))))))) (mRet (mC (.bl false))) mNext)
    (mSeq (mAsg (mLst (mCons (mC .non) (mCons (mCall1 tupleE (mVar 5)) (mCons (mCall1 (textI strD 0 g_m_Web_str) (mVar 6)) (mCons (mCall1 (textI reprE 0 g_m_Web_repr) (mVar 6)) (mCons (mVar 3) (mCons (mTup (mCons (mVar 3) (mCons (mCall1 tupleE (mVar 5)) mNil))) (mCons (mLst (mCons (mVar 6) mNil)) (mCons (mFrz mDictO) (mCons (mC (.bl true)) mNil)))))))))) (setV 7))
    (mSeq (mIfS (mOr (mNot (mTruth (mCall1 allD (mLc (mSeqOf (mVar 7)) [9] (setV 9) mYes (mVal (mRes g_l_alike 3 [] (mCV (mVar 6) (mCV (mVar 9) (mCV (mC (.bl false)) mCN))))))))) (mNot (mTruth (mVal (mRes g_l_built_right 3 [] (mCL 2 (mCV (mVar 5) (mCV (mVar 3) mCN)))))))) (mRet (mC (.bl false))) mNext)
    (mIfS (mOr (mNot (mTruth (mVal (mRes g_l_alike 3 [] (mCV (mVal (mMake g_m_Web_init 0 3 [.tup []] (mCons (mVar 3) mNil))) (mCV (mVal (mMake g_m_Web_init 0 3 [.tup []] (mCons (mOp addD (mOp modD (mVar 3) (mC (.int 3))) (mC (.int 1))) mNil))) (mCV (mC (.bl false)) mCN))))))) (mTest (mOp (sameJ neD true 0 g_m_Web_eq) (mCall1 (fldD 0 2) (mVar 6)) (mCall1 tupleE (mVar 5))))) (mRet (mC (.bl false))) mNext))))))))))
    (mRet (mC (.bl true))))
def g_law_ : Fn := runG 10 h_law_
-- law_: 0 _law_script, 1 _law_k, 2 _law_hand_here*, 3 _law_few, 4 _law_many, 5 _law_fires_here, 6 _law_web, 7 _law_things, 8 _law_more, 9 _law_thing
end K03
set_option maxHeartbeats 2000000
namespace VS
open PySem L2
/-! ### the functions upon slots, unfolded where they are applied -/
@[simp] theorem a_mVar (i : Nat) (ρ : VEnv) : mVar i ρ = (match ρ[i]? with
  | some (some (Sl.val d)) => .ok d ρ
  | _ => .stuck) := id rfl
@[simp] theorem a_mC (d : D) (ρ : VEnv) : mC d ρ = .ok d ρ := id rfl
@[simp] theorem a_mOp (f : D → D → Option D) (ga gb : Ev D) (ρ : VEnv) : mOp f ga gb ρ = (ga ρ).bind fun x ρ1 => (gb ρ1).bind fun y ρ2 => R.of (f x y) ρ2 := id rfl
@[simp] theorem a_mOwn (i : Nat) (ρ : VEnv) : mOwn i ρ = (match ρ[i]? with
  | some (some (Sl.own _ m)) => .ok m.frz ρ
  | _ => .stuck) := id rfl
@[simp] theorem a_mOpO (f : D → D → Option D) (i : Nat) (gb : Ev D) (ρ : VEnv) : mOpO f i gb ρ = (match ρ[i]? with
  | some (some (Sl.own _ _)) => (gb ρ).bind fun y ρ2 => (mOwn i ρ2).bind fun x ρ3 => R.of (f x y) ρ3
  | _ => .stuck) := id rfl
@[simp] theorem a_mTest (g : Ev D) (ρ : VEnv) : mTest g ρ = (g ρ).bind asB := id rfl
@[simp] theorem a_asB (b : Bool) (ρ : VEnv) : asB (.bl b) ρ = .ok b ρ := id rfl
@[simp] theorem a_mTruth (g : Ev D) (ρ : VEnv) : mTruth g ρ = (g ρ).bind fun d ρ' => R.of (truD d) ρ' := id rfl
@[simp] theorem a_mAnd (g h : Ev Bool) (ρ : VEnv) : mAnd g h ρ = (g ρ).bind fun b ρ' => if b = true then h ρ' else .ok false ρ' := id rfl
@[simp] theorem a_mOr (g h : Ev Bool) (ρ : VEnv) : mOr g h ρ = (g ρ).bind fun b ρ' => if b = true then .ok true ρ' else h ρ' := id rfl
@[simp] theorem a_mNot (g : Ev Bool) (ρ : VEnv) : mNot g ρ = (g ρ).bind fun b ρ' => .ok (!b) ρ' := id rfl
@[simp] theorem a_mAndV (g h : Ev D) (ρ : VEnv) : mAndV g h ρ = (g ρ).bind fun d ρ' => (match truD d with
  | some true => h ρ'
  | some false => .ok d ρ'
  | none => .stuck) := id rfl
@[simp] theorem a_mNotV (g : Ev D) (ρ : VEnv) : mNotV g ρ = (g ρ).bind fun d ρ' => R.of ((truD d).map fun b => .bl (!b)) ρ' := id rfl
@[simp] theorem a_mIf (t : Ev Bool) (g h : Ev D) (ρ : VEnv) : mIf t g h ρ = (t ρ).bind fun b ρ' => if b = true then g ρ' else h ρ' := id rfl
@[simp] theorem a_mNil (ρ : VEnv) : mNil ρ = .ok [] ρ := id rfl
@[simp] theorem a_mCons (g : Ev D) (h : Ev (List D)) (ρ : VEnv) : mCons g h ρ = (g ρ).bind fun d ρ1 => (h ρ1).bind fun ds ρ2 => .ok (d :: ds) ρ2 := id rfl
@[simp] theorem a_mTup (g : Ev (List D)) (ρ : VEnv) : mTup g ρ = (g ρ).bind fun ds ρ' => if ds.length ≤ lim then .ok (.tup ds) ρ' else .stuck := id rfl
@[simp] theorem a_mLst (g : Ev (List D)) (ρ : VEnv) : mLst g ρ = (g ρ).bind fun ds ρ' => if ds.length ≤ lim then .ok (.lst ds) ρ' else .stuck := id rfl
@[simp] theorem a_mLstO (g : Ev (List D)) (ρ : VEnv) : mLstO g ρ = (g ρ).bind fun ds ρ' => if ds.length ≤ lim then .ok (.lst ds) ρ' else .stuck := id rfl
@[simp] theorem a_mDictO (ρ : VEnv) : mDictO ρ = .ok (.dct []) ρ := id rfl
@[simp] theorem a_mFrz (g : Ev MO) (ρ : VEnv) : mFrz g ρ = (g ρ).bind fun m ρ' => .ok m.frz ρ' := id rfl
@[simp] theorem a_mCall (f : List D → Option D) (g : Ev (List D)) (ρ : VEnv) : mCall f g ρ = (g ρ).bind fun ds ρ' => R.of (f ds) ρ' := id rfl
@[simp] theorem a_mCall1 (f : D → Option D) (g : Ev D) (ρ : VEnv) : mCall1 f g ρ = (g ρ).bind fun d ρ' => R.of (f d) ρ' := id rfl
@[simp] theorem a_mIsi (f : D → Option Bool) (g : Ev D) (ρ : VEnv) : mIsi f g ρ = (g ρ).bind fun d ρ' => R.of ((f d).map .bl) ρ' := id rfl
@[simp] theorem a_mSeqOf (g : Ev D) (ρ : VEnv) : mSeqOf g ρ = (g ρ).bind fun d ρ' => R.of (seqOf d) ρ' := id rfl
@[simp] theorem a_mRange1 (g : Ev D) (ρ : VEnv) : mRange1 g ρ = (g ρ).bind fun d ρ' => R.of (range1D d) ρ' := id rfl
@[simp] theorem a_mZip (ga gb : Ev D) (ρ : VEnv) : mZip ga gb ρ = (ga ρ).bind fun x ρ1 => (gb ρ1).bind fun y ρ2 => R.of (zipD x y) ρ2 := id rfl
@[simp] theorem a_mPart (g : Ev D) (ρ : VEnv) : mPart g ρ = (g ρ).bind fun d ρ' => (match d with
  | .int i => .ok (some i) ρ'
  | _ => .stuck) := id rfl
@[simp] theorem a_mNoPart (ρ : VEnv) : mNoPart ρ = .ok none ρ := id rfl
@[simp] theorem a_mSlice (g : Ev D) (lo hi : Ev (Option Int)) (ρ : VEnv) : mSlice g lo hi ρ = (g ρ).bind fun d ρ1 => (lo ρ1).bind fun l ρ2 => (hi ρ2).bind fun u ρ3 => R.of (slD d l u) ρ3 := id rfl
@[simp] theorem a_mCN (ρ : VEnv) : mCN ρ = .ok [] ρ := id rfl
@[simp] theorem a_mCV (g : Ev D) (h : Ev (List AR)) (ρ : VEnv) : mCV g h ρ = (g ρ).bind fun d ρ1 => (h ρ1).bind fun as ρ2 => .ok (.v d :: as) ρ2 := id rfl
@[simp] theorem a_mCL (i : Nat) (h : Ev (List AR)) (ρ : VEnv) : mCL i h ρ = (match ρ[i]? with
  | some (some (Sl.own _ _)) => (h ρ).bind fun as ρ2 => .ok (.l i :: as) ρ2
  | _ => .stuck) := id rfl
@[simp] theorem a_mRes (G : Fn) (n : Nat) (dd : List D) (g : Ev (List AR)) (ρ : VEnv) : mRes G n dd g ρ = (g ρ).bind fun ars ρ1 => callR G n (ars ++ dd.map AR.v) ρ1 := id rfl
@[simp] theorem a_mResK (G : Fn) (n kn : Nat) (idx : List Nat) (g : Ev (List D)) (ρ : VEnv) : mResK G n kn idx g ρ = (g ρ).bind fun ds ρ1 => if ds.length = kn then callR G n ((permL idx ds).map AR.v) ρ1 else .stuck := id rfl
@[simp] theorem a_mVal (g : Ev Res) (ρ : VEnv) : mVal g ρ = (g ρ).bind fun r ρ' => (match r with
  | .ok d => .ok d ρ'
  | .nw m => .ok m.frz ρ'
  | .ex _ _ => .stuck) := id rfl
@[simp] theorem a_mNew (g : Ev Res) (ρ : VEnv) : mNew g ρ = (g ρ).bind fun r ρ' => (match r with
  | .nw m => .ok m ρ'
  | _ => .stuck) := id rfl
@[simp] theorem a_mSeq (h k : VEnv → RS) (ρ : VEnv) : mSeq h k ρ = (match h ρ with
  | .nx ρ' => k ρ'
  | r => r) := id rfl
@[simp] theorem a_mNext (ρ : VEnv) : mNext ρ = .nx ρ := id rfl
@[simp] theorem a_mNever (ρ : VEnv) : mNever ρ = .stuck := id rfl
@[simp] theorem a_mExpr (g : Ev D) (ρ : VEnv) : mExpr g ρ = (g ρ).thenS fun _ ρ' => .nx ρ' := id rfl
@[simp] theorem a_mRet (g : Ev D) (ρ : VEnv) : mRet g ρ = (g ρ).thenS fun d ρ' => .rt d ρ' := id rfl
@[simp] theorem a_mRetO (i : Nat) (ρ : VEnv) : mRetO i ρ = (match ρ[i]? with
  | some (some (Sl.own false m)) => .rn m (ρ.set i none)
  | _ => .stuck) := id rfl
@[simp] theorem a_mRetF (g : Ev MO) (ρ : VEnv) : mRetF g ρ = (g ρ).thenM fun m ρ1 => .rn m ρ1 := id rfl
@[simp] theorem a_mIfS (t : Ev Bool) (h k : VEnv → RS) (ρ : VEnv) : mIfS t h k ρ = (t ρ).thenB fun b ρ' => if b = true then h ρ' else k ρ' := id rfl
@[simp] theorem a_mAsg (g : Ev D) (t : D → VEnv → Option VEnv) (ρ : VEnv) : mAsg g t ρ = (g ρ).thenS fun d ρ1 => (match t d ρ1 with
  | some ρ2 => .nx ρ2
  | none => .stuck) := id rfl
@[simp] theorem a_mSetO (i : Nat) (g : Ev MO) (ρ : VEnv) : mSetO i g ρ = (g ρ).thenM fun m ρ1 => (match setO i m ρ1 with
  | some ρ2 => .nx ρ2
  | none => .stuck) := id rfl
@[simp] theorem thenM_ok (m : MO) (ρ : VEnv) (k : MO → VEnv → RS) : (R.ok m ρ).thenM k = k m ρ := id rfl
@[simp] theorem thenL_ok (m : List D) (ρ : VEnv) (k : List D → VEnv → RS) : (R.ok m ρ).thenL k = k m ρ := id rfl
@[simp] theorem a_mFor (src : Ev (List D)) (t : D → VEnv → Option VEnv) (body : VEnv → RS) (ρ : VEnv) : mFor src t body ρ = (src ρ).thenL fun ds ρ' => forGo t body ds ρ' := id rfl
@[simp] theorem a_mAppend (i : Nat) (g : Ev D) (ρ : VEnv) : mAppend i g ρ = (match ρ[i]? with
  | some (some (Sl.own _ (.lst _))) => (g ρ).thenS fun d ρ' => (match ρ'[i]? with
    | some (some (Sl.own l (.lst xs))) => if xs.length < lim then .nx (ρ'.set i (some (Sl.own l (.lst (xs ++ [d]))))) else .stuck
    | _ => .stuck)
  | _ => .stuck) := id rfl
@[simp] theorem a_mParEE (i j : Nat) (ga gb : Ev D) (ρ : VEnv) : mParEE i j ga gb ρ = (ga ρ).thenS fun x ρ1 => (gb ρ1).thenS fun y ρ2 => setVS i x ρ2 fun ρ3 => setVS j y ρ3 .nx := id rfl
@[simp] theorem a_mParEF (i j : Nat) (ga : Ev D) (gb : Ev MO) (ρ : VEnv) : mParEF i j ga gb ρ = (ga ρ).thenS fun x ρ1 => (gb ρ1).thenM fun y ρ2 => setVS i x ρ2 fun ρ3 => setOS j y ρ3 .nx := id rfl
@[simp] theorem a_mYes (ρ : VEnv) : mYes ρ = .ok true ρ := id rfl
@[simp] theorem a_mLcO (src : Ev (List D)) (vs : List Nat) (t : D → VEnv → Option VEnv) (tt : Ev Bool) (te : Ev D) (ρ : VEnv) : mLcO src vs t tt te ρ = (mLcL src vs t tt te ρ).bind fun zs ρf => .ok (.lst zs) ρf := id rfl
@[simp] theorem a_mLc (src : Ev (List D)) (vs : List Nat) (t : D → VEnv → Option VEnv) (tt : Ev Bool) (te : Ev D) (ρ : VEnv) : mLc src vs t tt te ρ = (mLcL src vs t tt te ρ).bind fun zs ρf => .ok (.lst zs) ρf := id rfl
@[simp] theorem a_mLcL (src : Ev (List D)) (vs : List Nat) (t : D → VEnv → Option VEnv) (tt : Ev Bool) (te : Ev D) (ρ : VEnv) : mLcL src vs t tt te ρ = (src ρ).bind fun ds ρ' => if cleared ρ' vs = true then (lcGo vs t tt te ds [] (wipeE ρ' vs)).bind fun zs ρf => .ok zs (restoreE ρ' ρf vs) else .stuck := id rfl
end VS
namespace K03
open PySem L2 PySem.Spec PyProof.Rows VS
/-! ### the hand -/
def Hand (n : Nat) (m : MO) : Prop := ∃ a b c : Int, m = .lst [.int a, .int b, .int c] ∧ 0 ≤ c ∧ c + n ≤ 2 ^ 200
theorem Hand.mono {n k : Nat} {m : MO} (h : Hand n m) (hk : k ≤ n) : Hand k m := by
  obtain ⟨a, b, c, e, h0, h1⟩ := h
  exact ⟨a, b, c, e, h0, by omega⟩
theorem draw_ok {n : Nat} {m : MO} {many : Int} (h : Hand (n + 1) m) (h0 : 0 < many) (h1 : many < 1000000) : ∃ m' k, Hand n m' ∧ 0 ≤ k ∧ k < many ∧ g_l_draw [.l m, .v (.int many)] = some (.ok (.int k), [m']) := by
  obtain ⟨a, b, c, rfl, hc0, hc1⟩ := h
  have hb : many.natAbs < big := by unfold big; omega
  by_cases ha : 0 < a
  · refine ⟨.lst [.int (a / many), .int b, .int (c + 1)], a % many, ⟨_, _, _, rfl, by omega, by omega⟩, Int.emod_nonneg _ (by omega), Int.emod_lt_of_pos _ h0, ?_⟩
    simp [g_l_draw, runG, h_l_draw, startE, slotOf, lents, tgItem, ixD, atI, ixN, addD, gtD, MO.frz, ha, divmodD, h0, hb, tgTup, tgCons, tgNil, setV]
  · have s0 := Int.emod_nonneg b (show (1000000087 : Int) ≠ 0 by decide)
    have s1 := Int.emod_lt_of_pos b (show (0 : Int) < 1000000087 by decide)
    have t0 := Int.emod_nonneg (b % 1000000087) (show (46027 : Int) ≠ 0 by decide)
    have t1 := Int.emod_lt_of_pos (b % 1000000087) (show (0 : Int) < 46027 by decide)
    have e1 : (b % 1000000087).natAbs < big := by unfold big; omega
    have e2 : (b % 1000000087 % 46027 + 30011).natAbs < big := by unfold big; omega
    have e3 : (c + 1).natAbs < big := by unfold big; omega
    have e4 : 80039 < big := by unfold big; decide
    have e5 : 16 < big := by unfold big; decide
    refine ⟨.lst [.int a, .int (b % 1000000087 * (b % 1000000087 % 46027 + 30011) + 80039 * (c + 1)), .int (c + 1)], _, ⟨_, _, _, rfl, by omega, by omega⟩, Int.emod_nonneg ((b % 1000000087 * (b % 1000000087 % 46027 + 30011) + 80039 * (c + 1)) % 1000000087 / 16) (by omega), Int.emod_lt_of_pos _ h0, ?_⟩
    simp [g_l_draw, runG, h_l_draw, startE, slotOf, lents, tgItem, ixD, atI, ixN, addD, gtD, MO.frz, ha, modD, h0, setV, mulE, mulD, fdivD, e1, e2, e3, e4, e5]
end K03
set_option maxHeartbeats 2000000
namespace VS
open PySem L2
@[simp] theorem sv_succ (i : Nat) (d : D) (x : Option Sl) (ρ : VEnv) : setV (i + 1) d (x :: ρ) = (setV i d ρ).map (x :: ·) := by
  unfold setV
  rw [List.getElem?_cons_succ]
  split <;> rename_i h <;> simp [h]
@[simp] theorem sv_none (d : D) (ρ : VEnv) : setV 0 d (none :: ρ) = some (some (.val d) :: ρ) := id rfl
@[simp] theorem sv_val (d e : D) (ρ : VEnv) : setV 0 d (some (.val e) :: ρ) = some (some (.val d) :: ρ) := id rfl
@[simp] theorem sv_own (d : D) (m : MO) (ρ : VEnv) : setV 0 d (some (.own false m) :: ρ) = some (some (.val d) :: ρ) := id rfl
@[simp] theorem sv_map (d : D) (o : Option D) (ρ : VEnv) : setV 0 d (o.map Sl.val :: ρ) = some (some (.val d) :: ρ) := by cases o <;> rfl
@[simp] theorem so_succ (i : Nat) (d : MO) (x : Option Sl) (ρ : VEnv) : setO (i + 1) d (x :: ρ) = (setO i d ρ).map (x :: ·) := by
  unfold setO
  rw [List.getElem?_cons_succ]
  split <;> rename_i h <;> simp [h]
@[simp] theorem so_none (d : MO) (ρ : VEnv) : setO 0 d (none :: ρ) = some (some (.own false d) :: ρ) := id rfl
@[simp] theorem so_val (d : MO) (e : D) (ρ : VEnv) : setO 0 d (some (.val e) :: ρ) = some (some (.own false d) :: ρ) := id rfl
@[simp] theorem so_own (d m : MO) (ρ : VEnv) : setO 0 d (some (.own false m) :: ρ) = some (some (.own false d) :: ρ) := id rfl
@[simp] theorem so_map (d : MO) (o : Option D) (ρ : VEnv) : setO 0 d (o.map Sl.val :: ρ) = some (some (.own false d) :: ρ) := by cases o <;> rfl
@[simp] theorem so_mapO (d : MO) (o : Option MO) (ρ : VEnv) : setO 0 d (o.map (Sl.own false) :: ρ) = some (some (.own false d) :: ρ) := by cases o <;> rfl
@[simp] theorem svs_ok (i : Nat) (d : D) (ρ : VEnv) (k : VEnv → RS) : setVS i d ρ k = (match setV i d ρ with
  | some ρ' => k ρ'
  | none => .stuck) := id rfl
@[simp] theorem sos_ok (i : Nat) (d : MO) (ρ : VEnv) (k : VEnv → RS) : setOS i d ρ k = (match setO i d ρ with
  | some ρ' => k ρ'
  | none => .stuck) := id rfl
/-! ### loops -/
theorem forGo_inv {t : D → VEnv → Option VEnv} {body : VEnv → RS} (I : Nat → VEnv → Prop) : ∀ (ds : List D) (i : Nat) (ρ : VEnv), I i ρ → (∀ j d ρ, i ≤ j → ds[j - i]? = some d → I j ρ → ∃ ρ1 ρ2, t d ρ = some ρ1 ∧ (body ρ1 = .nx ρ2 ∨ body ρ1 = .ct ρ2) ∧ I (j + 1) ρ2) →
    ∃ ρ', forGo t body ds ρ = .nx ρ' ∧ I (i + ds.length) ρ'
  | [], i, ρ, h0, _ => ⟨ρ, rfl, h0⟩
  | d :: ds, i, ρ, h0, step => by
    obtain ⟨ρ1, ρ2, h1, h2, h3⟩ := step i d ρ (Nat.le_refl _) (by simp) h0
    obtain ⟨ρ', h4, h5⟩ := forGo_inv I ds (i + 1) ρ2 h3 fun j e ρ hj he hI => step j e ρ (by omega) (by
      have : j - i = (j - (i + 1)) + 1 := by omega
      rw [this, List.getElem?_cons_succ]; exact he) hI
    refine ⟨ρ', ?_, by rw [List.length_cons, show i + (ds.length + 1) = i + 1 + ds.length by omega]; exact h5⟩
    rcases h2 with h2 | h2 <;> simp [forGo, h1, h2, h4]
theorem forGo_inv0 {t : D → VEnv → Option VEnv} {body : VEnv → RS} (I : Nat → VEnv → Prop) (ds : List D) (ρ : VEnv) (h0 : I 0 ρ) (step : ∀ j d ρ, ds[j]? = some d → I j ρ → ∃ ρ1 ρ2, t d ρ = some ρ1 ∧ (body ρ1 = .nx ρ2 ∨ body ρ1 = .ct ρ2) ∧ I (j + 1) ρ2) :
    ∃ ρ', forGo t body ds ρ = .nx ρ' ∧ I ds.length ρ' := by
  have := forGo_inv I ds 0 ρ h0 fun j d ρ _ hd hI => step j d ρ (by simpa using hd) hI
  simpa using this
theorem lcGo_inv {vs : List Nat} {t : D → VEnv → Option VEnv} {tt : Ev Bool} {te : Ev D} (I : Nat → List D → VEnv → Prop) : ∀ (ds : List D) (i : Nat) (acc : List D) (ρ : VEnv), acc.length + ds.length ≤ lim → I i acc ρ →
    (∀ j d acc ρ, i ≤ j → ds[j - i]? = some d → I j acc ρ → ∃ ρ1 ρ2 b, t d ρ = some ρ1 ∧ tt ρ1 = .ok b ρ2 ∧ (b = true → ∃ y ρ3, te ρ2 = .ok y ρ3 ∧ I (j + 1) (acc ++ [y]) (wipeE ρ3 vs)) ∧ (b = false → I (j + 1) acc (wipeE ρ2 vs))) →
    ∃ zs ρ', lcGo vs t tt te ds acc ρ = .ok zs ρ' ∧ I (i + ds.length) zs ρ'
  | [], i, acc, ρ, _, h0, _ => ⟨acc, ρ, rfl, h0⟩
  | d :: ds, i, acc, ρ, hl, h0, step => by
    obtain ⟨ρ1, ρ2, b, h1, h2, h3, h4⟩ := step i d acc ρ (Nat.le_refl _) (by simp) h0
    have next : ∀ acc' ρ', acc'.length + ds.length ≤ lim → I (i + 1) acc' ρ' → ∃ zs ρ2, lcGo vs t tt te ds acc' ρ' = .ok zs ρ2 ∧ I (i + (d :: ds).length) zs ρ2 := fun acc' ρ' hl' hI => by
      obtain ⟨zs, ρ3, h5, h6⟩ := lcGo_inv I ds (i + 1) acc' ρ' hl' hI fun j e a ρ hj he hI => step j e a ρ (by omega) (by
        have : j - i = (j - (i + 1)) + 1 := by omega
        rw [this, List.getElem?_cons_succ]; exact he) hI
      exact ⟨zs, ρ3, h5, by rw [List.length_cons, show i + (ds.length + 1) = i + 1 + ds.length by omega]; exact h6⟩
    simp only [List.length_cons] at hl
    cases b with
    | true =>
      obtain ⟨y, ρ3, h5, h6⟩ := h3 rfl
      obtain ⟨zs, ρ4, h7, h8⟩ := next _ _ (by simp; omega) h6
      exact ⟨zs, ρ4, by simp only [lcGo, h1, h2, h5]; rw [if_pos (by omega)]; exact h7, h8⟩
    | false =>
      obtain ⟨zs, ρ4, h7, h8⟩ := next _ _ (by omega) (h4 rfl)
      exact ⟨zs, ρ4, by simp only [lcGo, h1, h2]; exact h7, h8⟩
theorem lcGo_pure {vs : List Nat} {t : D → VEnv → Option VEnv} {tt : Ev Bool} {te : Ev D} {ρ : VEnv} (p : D → Bool) (f : D → D) : ∀ (ds acc : List D), acc.length + ds.length ≤ lim → (∀ d ∈ ds, ∃ ρ1, t d ρ = some ρ1 ∧ tt ρ1 = .ok (p d) ρ1 ∧ (p d = true → te ρ1 = .ok (f d) ρ1) ∧ wipeE ρ1 vs = ρ) →
    lcGo vs t tt te ds acc ρ = .ok (acc ++ (ds.filter p).map f) ρ
  | [], acc, _, _ => by simp [lcGo]
  | d :: ds, acc, hl, h => by
    obtain ⟨ρ1, h1, h2, h3, h4⟩ := h d List.mem_cons_self
    have ih := fun acc' hl' => lcGo_pure (vs := vs) (t := t) (tt := tt) (te := te) (ρ := ρ) p f ds acc' hl' fun e he => h e (List.mem_cons_of_mem _ he)
    simp only [List.length_cons] at hl
    cases q : p d with
    | true =>
      rw [q] at h2
      simp only [lcGo, h1, h2, h3 q, h4]
      rw [if_pos (by omega), ih _ (by simp; omega)]
      simp [q]
    | false =>
      rw [q] at h2
      simp only [lcGo, h1, h2, h4]
      rw [ih _ (by omega)]
      simp [q]
@[simp] theorem lim_le_n (n : Nat) : (n ≤ lim) = (n ≤ 16000000) := id rfl
@[simp] theorem lim_lt_n (n : Nat) : (n < lim) = (n < 16000000) := id rfl
/-! ### what a def answers, by its body's answer -/
def finG (as : List Arg) : RS → Option (Res × List MO)
  | .nx ρ => (lents 0 as ρ).map fun ms => (.ok .non, ms)
  | .rt d ρ => (lents 0 as ρ).map fun ms => (.ok d, ms)
  | .rn m ρ => (lents 0 as ρ).map fun ms => (.nw m, ms)
  | .ex c ds ρ => (lents 0 as ρ).map fun ms => (.ex c ds, ms)
  | _ => none
theorem runG_fin (n : Nat) (h : VEnv → RS) (as : List Arg) : runG n h as = finG as (h (startE n as)) := by
  unfold runG
  cases h (startE n as) <;> rfl
/-! ### calls -/
theorem callR0_ok {G : Fn} {n : Nat} {m m' : MO} {ds : List D} {d : D} (hG : G (.l m :: ds.map Arg.v) = some (.ok d, [m'])) (hn : ds.length + 1 = n) (l : Bool) (ρ : VEnv) : callR G n (AR.l 0 :: ds.map AR.v) (some (Sl.own l m) :: ρ) = .ok (.ok d) (some (Sl.own l m') :: ρ) := by
  have h1 : resolve (some (Sl.own l m) :: ρ) (AR.l 0 :: ds.map AR.v) = some (.l m :: ds.map Arg.v) := by rw [resolve]; simp [resolve_vs]
  have h2 : (lentIx (AR.l 0 :: ds.map AR.v)).Nodup ∧ (AR.l 0 :: ds.map AR.v).length = n := by rw [lentIx, lentIx_vs]; exact ⟨by simp, by simpa using hn⟩
  unfold callR
  rw [if_pos h2, h1]
  simp only [hG, putBack, putBack_vs]
  simp [setM]
theorem callR0_nw {G : Fn} {n : Nat} {m m' x : MO} {ds : List D} (hG : G (.l m :: ds.map Arg.v) = some (.nw x, [m'])) (hn : ds.length + 1 = n) (l : Bool) (ρ : VEnv) : callR G n (AR.l 0 :: ds.map AR.v) (some (Sl.own l m) :: ρ) = .ok (.nw x) (some (Sl.own l m') :: ρ) := by
  have h1 : resolve (some (Sl.own l m) :: ρ) (AR.l 0 :: ds.map AR.v) = some (.l m :: ds.map Arg.v) := by rw [resolve]; simp [resolve_vs]
  have h2 : (lentIx (AR.l 0 :: ds.map AR.v)).Nodup ∧ (AR.l 0 :: ds.map AR.v).length = n := by rw [lentIx, lentIx_vs]; exact ⟨by simp, by simpa using hn⟩
  unfold callR
  rw [if_pos h2, h1]
  simp only [hG, putBack, putBack_vs]
  simp [setM]
theorem callRv_ok {G : Fn} {n : Nat} {ds : List D} {d : D} (hG : G (ds.map Arg.v) = some (.ok d, [])) (hn : ds.length = n) (ρ : VEnv) : callR G n (ds.map AR.v) ρ = .ok (.ok d) ρ := by
  have h2 : (lentIx (ds.map AR.v)).Nodup ∧ (ds.map AR.v).length = n := by rw [lentIx_vs]; exact ⟨by simp, by simpa using hn⟩
  unfold callR
  rw [if_pos h2, resolve_vs]
  simp only [hG, putBack_vs]
theorem callRv_nw {G : Fn} {n : Nat} {ds : List D} {x : MO} (hG : G (ds.map Arg.v) = some (.nw x, [])) (hn : ds.length = n) (ρ : VEnv) : callR G n (ds.map AR.v) ρ = .ok (.nw x) ρ := by
  have h2 : (lentIx (ds.map AR.v)).Nodup ∧ (ds.map AR.v).length = n := by rw [lentIx_vs]; exact ⟨by simp, by simpa using hn⟩
  unfold callR
  rw [if_pos h2, resolve_vs]
  simp only [hG, putBack_vs]
/-! ### texts in sequences -/
theorem flats_strs : ∀ ns : List Str, flats (ns.map D.str) = some (ns.map V.str)
  | [] => rfl
  | n :: ns => by simp [flats, flatD, flats_strs ns]
theorem inV_strs (z : Str) : ∀ ns : List Str, inV (.str z) (ns.map V.str) = decide (z ∈ ns)
  | [] => by simp [inV]
  | n :: ns => by
    have ih := inV_strs z ns
    unfold inV at ih ⊢
    rw [List.map_cons, List.any_cons, ih]
    have e : eqV (.str n) (.str z) = decide (z = n) := by
      by_cases h : z = n
      · subst h; simp [eqV]
      · simp [eqV, h, Ne.symm h]
    rw [e]
    simp
theorem in_lst (z : Str) (ns : List Str) : inB (.str z) (.lst (ns.map D.str)) = some (decide (z ∈ ns)) := by simp only [inB, flats_strs, flatD, Option.bind_some, Option.map_some, inV_strs]
theorem in_tup (z : Str) (ns : List Str) : inB (.str z) (.tup (ns.map D.str)) = some (decide (z ∈ ns)) := by simp only [inB, flats_strs, flatD, Option.bind_some, Option.map_some, inV_strs]
theorem strsOf_map : ∀ ns : List Str, strsOf (ns.map D.str) = some ns
  | [] => rfl
  | n :: ns => by simp [strsOf, strsOf_map ns]
theorem intsOf_map : ∀ ns : List Int, intsOf (ns.map D.int) = some ns
  | [] => rfl
  | n :: ns => by simp [intsOf, intsOf_map ns]
theorem blsOf_map : ∀ ns : List Bool, blsOf (ns.map D.bl) = some ns
  | [] => rfl
  | n :: ns => by simp [blsOf, blsOf_map ns]
end VS
namespace K03
open PySem L2 PySem.Spec PyProof.Rows VS
theorem draw0 {n : Nat} {m : MO} {many : Int} (h : Hand (n + 1) m) (h0 : 0 < many) (h1 : many < 1000000) : ∃ m' k, Hand n m' ∧ 0 ≤ k ∧ k < many ∧ ∀ l ρ, callR g_l_draw 2 [AR.l 0, AR.v (.int many)] (some (Sl.own l m) :: ρ) = .ok (.ok (.int k)) (some (Sl.own l m') :: ρ) := by
  obtain ⟨m', k, h2, h3, h4, h5⟩ := draw_ok h h0 h1
  refine ⟨m', k, h2, h3, h4, fun l ρ => ?_⟩
  simp [callR, lentIx, resolve, h5, putBack, setM]
/-! ### names -/
structure IsName (z : Str) : Prop where
  lo : 1 ≤ z.length
  hi : z.length ≤ 6
  az : ∀ c ∈ z.cps.toList, 97 ≤ c ∧ c ≤ 122
end K03
set_option maxHeartbeats 4000000
namespace K03
open PySem L2 VS
def wordsD : List D := [.str "over", .str "hearth", .str "out", .str "kindle", .str "gust", .str "spark", .str "give", .str "back", .str "here", .str "never", .str "to", .str "stores"]
def az : Str := "abcdefghijklmnopqrstuvwxyz"
theorem az_cps : az.cps.toList = (List.range 26).map (97 + ·) := by decide +kernel
theorem az_len : az.length = 26 := by decide +kernel
theorem nm (z : Str) (h : (decide (1 ≤ z.length) && decide (z.length ≤ 6) && z.cps.toList.all fun c => decide (97 ≤ c) && decide (c ≤ 122)) = true) : IsName z := by
  simp only [Bool.and_eq_true, decide_eq_true_eq, List.all_eq_true] at h
  exact ⟨h.1.1, h.1.2, fun c hc => h.2 c hc⟩
theorem word_at {k : Int} (h0 : 0 ≤ k) (h1 : k < 12) : ∃ z, IsName z ∧ ixD (.lst wordsD) (.int k) = some (.str z) := by
  have : k = 0 ∨ k = 1 ∨ k = 2 ∨ k = 3 ∨ k = 4 ∨ k = 5 ∨ k = 6 ∨ k = 7 ∨ k = 8 ∨ k = 9 ∨ k = 10 ∨ k = 11 := by omega
  rcases this with rfl | rfl | rfl | rfl | rfl | rfl | rfl | rfl | rfl | rfl | rfl | rfl
  · exact ⟨"over", nm _ (by decide +kernel), rfl⟩
  · exact ⟨"hearth", nm _ (by decide +kernel), rfl⟩
  · exact ⟨"out", nm _ (by decide +kernel), rfl⟩
  · exact ⟨"kindle", nm _ (by decide +kernel), rfl⟩
  · exact ⟨"gust", nm _ (by decide +kernel), rfl⟩
  · exact ⟨"spark", nm _ (by decide +kernel), rfl⟩
  · exact ⟨"give", nm _ (by decide +kernel), rfl⟩
  · exact ⟨"back", nm _ (by decide +kernel), rfl⟩
  · exact ⟨"here", nm _ (by decide +kernel), rfl⟩
  · exact ⟨"never", nm _ (by decide +kernel), rfl⟩
  · exact ⟨"to", nm _ (by decide +kernel), rfl⟩
  · exact ⟨"stores", nm _ (by decide +kernel), rfl⟩
theorem letter_at {k : Int} (h0 : 0 ≤ k) (h1 : k < 26) : ∃ c : Nat, 97 ≤ c ∧ c ≤ 122 ∧ ixD (.str az) (.int k) = some (.str ⟨#[c]⟩) := by
  refine ⟨97 + k.toNat, by omega, by omega, ?_⟩
  have hl : az.cps.toList.length = 26 := by rw [az_cps]; simp
  have hz : az.length ≤ lim := by rw [az_len]; decide
  simp only [ixD, atI, ixN, hl, hz, if_true]
  rw [if_pos h0, if_pos (by omega), az_cps]
  simp [show k.toNat < 26 by omega]
theorem signs_az : signs az = (List.range 26).map fun i => .str ⟨#[97 + i]⟩ := by
  unfold signs
  rw [az_cps, List.map_map]
  rfl
theorem join_az (cs : List Nat) (hl : cs.length ≤ 6) : joinD "" (.lst (cs.map fun c => .str ⟨#[c]⟩)) = some (.str ⟨cs.toArray⟩) := by
  have e1 : (cs.map fun c => D.str ⟨#[c]⟩) = (cs.map fun c => (⟨#[c]⟩ : Str)).map D.str := by rw [List.map_map]; rfl
  have e2 : ∀ cs : List Nat, TL.joinL (TL.tl "") ((cs.map fun c => (⟨#[c]⟩ : Str)).map TL.tl) = cs := by
    intro cs
    induction cs with
    | nil => rfl
    | cons c r ih =>
      cases r with
      | nil => rfl
      | cons c' r => 
        show TL.tl ⟨#[c]⟩ ++ (TL.tl "" ++ TL.joinL (TL.tl "") (((c' :: r).map fun c => (⟨#[c]⟩ : Str)).map TL.tl)) = _
        rw [ih]; rfl
  have e3 : Txt.join "" (cs.map fun c => (⟨#[c]⟩ : Str)) = ⟨cs.toArray⟩ := by
    rw [TL.join_eq]
    apply str_ext
    have := TL.tl_join "" (cs.map fun c => (⟨#[c]⟩ : Str))
    rw [e2] at this
    simpa using this
  unfold joinD
  simp only [seqOf]
  rw [e1, strsOf_map]
  simp only [Option.bind_some]
  rw [e3, if_pos]
  have e4 : ∀ cs : List Nat, ((cs.map fun c => (⟨#[c]⟩ : Str)).map (·.length)).sum = cs.length := by
    intro cs
    induction cs with
    | nil => rfl
    | cons c r ih => rw [List.map_cons, List.map_cons, List.sum_cons, ih]; simp [Str.length]; omega
  rw [e4]
  have : (Str.ofString "").length = 0 := rfl
  rw [this]; omega
end K03
set_option maxHeartbeats 4000000
namespace K03
open PySem L2 VS
/-- what calls makes of a word: itself, and its first five signs with a letter behind -/
def w5 (w : Str) : Str := cutS w none (some 5)
def cands (w : Str) : List Str := w :: (List.range 26).map fun i => w5 w ++ ⟨#[97 + i]⟩
theorem app_cps (x y : Str) : (x ++ y).cps = x.cps ++ y.cps := rfl
theorem len_cps (x : Str) : x.length = x.cps.toList.length := by simp [Str.length]
theorem w5_cps (w : Str) : (w5 w).cps.toList = w.cps.toList.take 5 := by
  unfold w5 cutS
  simp only [HT.sIx]
  rw [List.drop_zero, len_cps]
  show List.take _ _ = _
  by_cases h : 5 ≤ w.cps.toList.length
  · simp only [show ¬ ((5 : Int) < 0) by decide, if_false]
    congr 1
    omega
  · simp only [show ¬ ((5 : Int) < 0) by decide, if_false]
    rw [List.take_of_length_le (by omega), List.take_of_length_le (by omega)]
theorem cand_name {w : Str} (h : IsName w) : ∀ z ∈ cands w, IsName z := by
  intro z hz
  rcases List.mem_cons.mp hz with e | e
  · rw [e]; exact h
  · obtain ⟨i, hi, rfl⟩ := List.mem_map.mp e
    have hi' := List.mem_range.mp hi
    have h1 := h.lo
    rw [len_cps] at h1
    have e1 : (w5 w ++ (⟨#[97 + i]⟩ : Str)).cps.toList = w.cps.toList.take 5 ++ [97 + i] := by rw [app_cps, Array.toList_append, w5_cps]
    refine ⟨?_, ?_, ?_⟩
    · rw [len_cps, e1]; simp
    · rw [len_cps, e1]; simp; omega
    · rw [e1]
      intro c hc
      rcases List.mem_append.mp hc with q | q
      · exact h.az c (List.mem_of_mem_take q)
      · have : c = 97 + i := by simpa using q
        omega
theorem nodup_sub_len {α : Type} [DecidableEq α] : ∀ {xs ys : List α}, xs.Nodup → (∀ x ∈ xs, x ∈ ys) → xs.length ≤ ys.length
  | [], ys, _, _ => Nat.zero_le _
  | x :: xs, ys, nd, h => by
    obtain ⟨n1, n2⟩ := List.nodup_cons.mp nd
    have hx := h x List.mem_cons_self
    have ih := nodup_sub_len (xs := xs) (ys := ys.erase x) n2 fun y hy => (List.mem_erase_of_ne (fun (z : y = x) => n1 (z ▸ hy))).mpr (h y (List.mem_cons_of_mem _ hy))
    have hl := List.length_erase_of_mem hx
    have hp : 0 < ys.length := List.length_pos_of_mem hx
    simp only [List.length_cons]
    omega
theorem cand_free (w : Str) (names : List Str) (hl : names.length < 26) : ∃ z r, (cands w).filter (fun z => !decide (z ∈ names)) = z :: r := by
  cases q : (cands w).filter (fun z => !decide (z ∈ names)) with
  | cons z r => exact ⟨z, r, rfl⟩
  | nil =>
    exfalso
    have all : ∀ z ∈ cands w, z ∈ names := fun z hz => by
      have := List.filter_eq_nil_iff.mp q z hz
      simpa using this
    have nd : ((List.range 26).map fun i => w5 w ++ (⟨#[97 + i]⟩ : Str)).Nodup := by
      refine List.Pairwise.map _ ?_ List.nodup_range
      intro i j hij e
      have : (w5 w ++ (⟨#[97 + i]⟩ : Str)).cps.toList = (w5 w ++ (⟨#[97 + j]⟩ : Str)).cps.toList := by rw [e]
      rw [app_cps, app_cps, Array.toList_append, Array.toList_append] at this
      have := List.append_cancel_left this
      simp at this
      exact hij this
    have := nodup_sub_len nd fun z hz => all z (List.mem_cons_of_mem _ hz)
    simp at this
    omega
theorem str_len_lim {z : Str} (h : IsName z) : z.length ≤ lim := Nat.le_trans h.hi (by decide)
abbrev callsE (m : MO) (many : Int) (names : List Str) (o5 o6 o7 : Option D) : VEnv :=
  [some (Sl.own true m), some (Sl.val (.int many)), some (Sl.val (.lst wordsD)), some (Sl.val (.str az)), some (Sl.own false (.lst (names.map D.str))), o5.map Sl.val, o6.map Sl.val, o7.map Sl.val, none, none, none]
/-- the word by letters -/
theorem letters_ok {n : Nat} {m : MO} {many i : Int} {names : List Str} {o7 : Option D} {w0 : D} (k : Nat) (hk : k ≤ 6) (h : Hand (n + k) m) :
    ∃ (m' : MO) (cs : List Nat), Hand n m' ∧ cs.length = k ∧ (∀ c ∈ cs, 97 ≤ c ∧ c ≤ 122) ∧ lcGo [8] (setV 8) mYes (mOp ixD (mVar 3) (mVal (mRes g_l_draw 2 [] (mCL 0 (mCV (mC (.int 26)) mCN))))) (upFrom 0 k) [] (callsE m many names (some (.int i)) (some w0) o7) =
      .ok (cs.map fun c => .str ⟨#[c]⟩) (callsE m' many names (some (.int i)) (some w0) o7) := by
  obtain ⟨zs, ρ', h1, m', cs, h2, h3, h4, h5, h6⟩ := lcGo_inv (vs := [8]) (t := setV 8) (tt := mYes) (te := mOp ixD (mVar 3) (mVal (mRes g_l_draw 2 [] (mCL 0 (mCV (mC (.int 26)) mCN)))))
    (fun j acc ρ => ∃ (m' : MO) (cs : List Nat), Hand (n + (k - j)) m' ∧ cs.length = j ∧ (∀ c ∈ cs, 97 ≤ c ∧ c ≤ 122) ∧ acc = cs.map (fun c => D.str ⟨#[c]⟩) ∧ ρ = callsE m' many names (some (.int i)) (some w0) o7) (upFrom 0 k) 0 [] (callsE m many names (some (.int i)) (some w0) o7)
    (by rw [upFrom_length]; simp; exact Nat.le_trans hk (by decide)) ⟨m, [], h, rfl, by simp, rfl, rfl⟩ (by
      rintro j d acc ρ - hd ⟨m1, cs, a1, a2, a3, rfl, rfl⟩
      have hj : j < k := by have := (List.getElem?_eq_some_iff.mp hd).1; rw [upFrom_length] at this; omega
      obtain ⟨m2, c, b1, b2, b3, b4⟩ := draw0 (n := n + (k - (j + 1))) (m := m1) (many := 26) (a1.mono (by omega)) (by decide) (by decide)
      obtain ⟨c', c1, c2, c3⟩ := letter_at b2 b3
      refine ⟨_, _, true, by simp [callsE]; rfl, rfl, fun _ => ⟨.str ⟨#[c']⟩, _, by simp [callsE, b4, c3]; rfl, m2, cs ++ [c'], b1, by simp [a2], ?_, by simp, ?_⟩, fun z => nomatch z⟩
      · intro x hx
        rcases List.mem_append.mp hx with q | q
        · exact a3 x q
        · have : x = c' := by simpa using q
          omega
      · simp [callsE, wipeE])
  rw [upFrom_length] at h2 h3
  refine ⟨m', cs, h2.mono (by omega), by omega, h4, ?_⟩
  rw [h1, h5, h6]
end K03
set_option maxHeartbeats 4000000
namespace K03
open PySem L2 VS
theorem cands_lc {m : MO} {many j : Int} {names : List Str} {o7 : Option D} {w : Str} (hw : IsName w) :
    lcGo [9] (setV 9) mYes (mOp addD (mSlice (mVar 6) mNoPart (mPart (mC (.int 5)))) (mVar 9)) (signs az) [] (callsE m many names (some (.int j)) (some (.str w)) o7) =
      .ok (((List.range 26).map fun i => w5 w ++ (⟨#[97 + i]⟩ : Str)).map D.str) (callsE m many names (some (.int j)) (some (.str w)) o7) := by
  rw [signs_az]
  have h5 : (w5 w).length ≤ 5 := by rw [len_cps, w5_cps]; simp; omega
  rw [lcGo_pure (fun _ => true) (fun d => match d with
    | .str x => .str (w5 w ++ x)
    | d => d) _ [] (by simp) ?_]
  · rw [List.nil_append, List.filter_eq_self.mpr (fun _ _ => rfl), List.map_map, List.map_map]
    rfl
  · intro d hd
    obtain ⟨i, hi, rfl⟩ := List.mem_map.mp hd
    refine ⟨_, by simp [callsE]; rfl, rfl, fun _ => ?_, by simp [callsE, wipeE]⟩
    have hwl := str_len_lim hw
    have hs : slD (.str w) none (some 5) = some (.str (w5 w)) := by simp only [slD, hwl, if_true, w5]
    have hl : (w5 w).length + (⟨#[97 + i]⟩ : Str).length ≤ 16000000 := by
      have : (⟨#[97 + i]⟩ : Str).length = 1 := rfl
      rw [this]
      omega
    simp [callsE, hs, addD, hl]
theorem tail_ok {m : MO} {many j : Int} {names : List Str} {o7 : Option D} {w : Str} (hw : IsName w) (hl : names.length < 26) :
    ∃ z d7, z ∈ cands w ∧ z ∉ names ∧ (mSeq (mAsg (mOp addD (mLst (mCons (mVar 6) mNil)) (mLc (mSeqOf (mVar 3)) [9] (setV 9) mYes (mOp addD (mSlice (mVar 6) mNoPart (mPart (mC (.int 5)))) (mVar 9)))) (setV 7))
      (mAppend 4 (mOp ixD (mLc (mSeqOf (mVar 7)) [10] (setV 10) (mTest (mOp notInD (mVar 10) (mOwn 4))) (mVar 10)) (mC (.int 0))))) (callsE m many names (some (.int j)) (some (.str w)) o7) =
      .nx (callsE m many (names ++ [z]) (some (.int j)) (some (.str w)) (some d7)) := by
  obtain ⟨z, r, hf⟩ := cand_free w names hl
  have hz : z ∈ (cands w).filter (fun z => !decide (z ∈ names)) := by rw [hf]; exact List.mem_cons_self
  obtain ⟨hz1, hz2⟩ := List.mem_filter.mp hz
  refine ⟨z, .lst ((cands w).map D.str), hz1, by simpa using hz2, ?_⟩
  have c1 := cands_lc (m := m) (many := many) (j := j) (names := names) (o7 := o7) hw
  have c2 : lcGo [10] (setV 10) (mTest (mOp notInD (mVar 10) (mOwn 4))) (mVar 10) ((cands w).map D.str) [] (callsE m many names (some (.int j)) (some (.str w)) (some (.lst ((cands w).map D.str)))) =
      .ok (((cands w).filter fun z => !decide (z ∈ names)).map D.str) (callsE m many names (some (.int j)) (some (.str w)) (some (.lst ((cands w).map D.str)))) := by
    rw [lcGo_pure (fun d => match d with
      | .str x => !decide (x ∈ names)
      | _ => true) id _ [] (by simp [cands]) ?_]
    · rw [List.nil_append, List.map_id, List.filter_map]
      rfl
    · intro d hd
      obtain ⟨x, hx, rfl⟩ := List.mem_map.mp hd
      refine ⟨_, by simp [callsE]; rfl, ?_, fun _ => by simp [callsE], by simp [callsE, wipeE]⟩
      simp [callsE, notInD, MO.frz, in_lst]
  simp only [callsE, List.map_cons, Option.map_some] at c1 c2
  have hl2 : names.length < 16000000 := Nat.lt_trans hl (by decide)
  have e1 : addD (.lst [.str w]) (.lst (((List.range 26).map fun i => w5 w ++ (⟨#[97 + i]⟩ : Str)).map D.str)) = some (.lst ((cands w).map D.str)) := by
    simp only [addD]
    rw [if_pos (by simp)]
    rfl
  have e2 : ixD (.lst (((cands w).filter fun z => !decide (z ∈ names)).map D.str)) (.int 0) = some (.str z) := by
    rw [hf]
    simp [ixD, atI, ixN]
  have e3 : (cleared (callsE m many names (some (.int j)) (some (.str w)) o7) [9]) = true := rfl
  simp [-List.map_map, callsE, seqOf, cleared, wipeE, restoreE, c1, e1, c2, e2, hl2]
end K03
set_option maxHeartbeats 4000000
namespace K03
open PySem L2 VS
theorem range1 {n : Nat} (h : n ≤ 1000000) : range1D (.int n) = some (upFrom 0 n) := by
  have : small (n : Int) = true := by unfold small; simp; omega
  simp [range1D, this]
theorem upFrom_get {n j : Nat} {d : D} (h : (upFrom 0 n)[j]? = some d) : j < n ∧ d = .int (j : Int) := by
  have hj : j < n := by have := (List.getElem?_eq_some_iff.mp h).1; rw [upFrom_length] at this; exact this
  refine ⟨hj, ?_⟩
  unfold upFrom at h
  rw [List.getElem?_map, List.getElem?_range hj] at h
  simpa using h.symm
theorem calls_step {n : Nat} {m : MO} {many : Int} {names : List Str} {o5 o6 o7 : Option D} {j : Nat} (h : Hand (n + 9) m) (hl : names.length < 26) (hd : names.Nodup) (hn : ∀ z ∈ names, IsName z) :
    ∃ ρ1 m' z o6' o7', setV 5 (.int j) (callsE m many names o5 o6 o7) = some ρ1 ∧ Hand n m' ∧ IsName z ∧ z ∉ names ∧
      (mSeq (mAsg (mOp ixD (mVar 2) (mVal (mRes g_l_draw 2 [] (mCL 0 (mCV (mC (.int 12)) mCN))))) (setV 6))
    (mSeq (mIfS (mTest (mOp gtD (mVal (mRes g_l_draw 2 [] (mCL 0 (mCV (mC (.int 3)) mCN)))) (mC (.int 0)))) (mAsg (mCall1 (joinD "") (mLc (mRange1 (mOp addD (mC (.int 1)) (mVal (mRes g_l_draw 2 [] (mCL 0 (mCV (mC (.int 6)) mCN)))))) [8] (setV 8) mYes (mOp ixD (mVar 3) (mVal (mRes g_l_draw 2 [] (mCL 0 (mCV (mC (.int 26)) mCN))))))) (setV 6)) mNext)
    (mSeq (mAsg (mOp addD (mLst (mCons (mVar 6) mNil)) (mLc (mSeqOf (mVar 3)) [9] (setV 9) mYes (mOp addD (mSlice (mVar 6) mNoPart (mPart (mC (.int 5)))) (mVar 9)))) (setV 7))
    (mAppend 4 (mOp ixD (mLc (mSeqOf (mVar 7)) [10] (setV 10) (mTest (mOp notInD (mVar 10) (mOwn 4))) (mVar 10)) (mC (.int 0))))))) ρ1 = .nx (callsE m' many (names ++ [z]) (some (.int j)) o6' o7') := by
  obtain ⟨m1, k1, a1, a2, a3, a4⟩ := draw0 (n := n + 8) (m := m) (many := 12) h (by decide) (by decide)
  obtain ⟨w0, b1, b2⟩ := word_at a2 a3
  obtain ⟨m2, k2, c1, c2, c3, c4⟩ := draw0 (n := n + 7) (m := m1) (many := 3) a1 (by decide) (by decide)
  have fin : ∀ m' w, Hand n m' → IsName w → ∃ z d7, IsName z ∧ z ∉ names ∧ (mSeq (mAsg (mOp addD (mLst (mCons (mVar 6) mNil)) (mLc (mSeqOf (mVar 3)) [9] (setV 9) mYes (mOp addD (mSlice (mVar 6) mNoPart (mPart (mC (.int 5)))) (mVar 9)))) (setV 7))
      (mAppend 4 (mOp ixD (mLc (mSeqOf (mVar 7)) [10] (setV 10) (mTest (mOp notInD (mVar 10) (mOwn 4))) (mVar 10)) (mC (.int 0))))) (callsE m' many names (some (.int j)) (some (.str w)) o7) = .nx (callsE m' many (names ++ [z]) (some (.int j)) (some (.str w)) (some d7)) := fun m' w hm hw => by
    obtain ⟨z, d7, e1, e2, e3⟩ := tail_ok (m := m') (many := many) (j := j) (names := names) (o7 := o7) hw hl
    exact ⟨z, d7, cand_name hw z e1, e2, e3⟩
  by_cases hk : 0 < k2
  · obtain ⟨m3, k3, d1, d2, d3, d4⟩ := draw0 (n := n + 6) (m := m2) (many := 6) c1 (by decide) (by decide)
    obtain ⟨q, rfl⟩ : ∃ q : Nat, k3 = (q : Int) := ⟨k3.toNat, by omega⟩
    obtain ⟨m4, cs, f1, f2, f3, f4⟩ := letters_ok (n := n) (m := m3) (many := many) (i := j) (names := names) (o7 := o7) (w0 := .str w0) (1 + q) (by omega) (d1.mono (by omega))
    have hw : IsName ⟨cs.toArray⟩ := ⟨by simp [Str.length]; omega, by simp [Str.length]; omega, by simpa using f3⟩
    obtain ⟨z, d7, g1, g2, g3⟩ := fin m4 _ f1 hw
    have e1 := join_az cs (by omega)
    have e2 : addD (.int 1) (.int q) = some (.int (1 + (q : Int))) := rfl
    have e3 : range1D (.int (1 + (q : Int))) = some (upFrom 0 (1 + q)) := by
      have := range1 (n := 1 + q) (by omega)
      rwa [Int.natCast_add] at this
    have e4 : gtD (.int k2) (.int 0) = some (.bl true) := by simp [gtD, hk]
    refine ⟨_, m4, z, some (.str ⟨cs.toArray⟩), some d7, by simp [callsE]; rfl, f1, g1, g2, ?_⟩
    have s0 : (mVal (mRes g_l_draw 2 [] (mCL 0 (mCV (mC (.int 6)) mCN)))) (callsE m2 many names (some (.int j)) (some (.str w0)) o7) = .ok (.int q) (callsE m3 many names (some (.int j)) (some (.str w0)) o7) := by
      simp [callsE, d4]
    have s1 : (mRange1 (mOp addD (mC (.int 1)) (mVal (mRes g_l_draw 2 [] (mCL 0 (mCV (mC (.int 6)) mCN)))))) (callsE m2 many names (some (.int j)) (some (.str w0)) o7) = .ok (upFrom 0 (1 + q)) (callsE m3 many names (some (.int j)) (some (.str w0)) o7) := by
      rw [a_mRange1, a_mOp, a_mC, R.bind_ok, s0, R.bind_ok, e2, R.of_some, R.bind_ok, e3, R.of_some]
    have s2 : (mLc (mRange1 (mOp addD (mC (.int 1)) (mVal (mRes g_l_draw 2 [] (mCL 0 (mCV (mC (.int 6)) mCN)))))) [8] (setV 8) mYes (mOp ixD (mVar 3) (mVal (mRes g_l_draw 2 [] (mCL 0 (mCV (mC (.int 26)) mCN)))))) (callsE m2 many names (some (.int j)) (some (.str w0)) o7) = .ok (.lst (cs.map fun c => .str ⟨#[c]⟩)) (callsE m4 many names (some (.int j)) (some (.str w0)) o7) := by
      rw [a_mLc, a_mLcL, s1, R.bind_ok, if_pos (by rfl), show wipeE (callsE m3 many names (some (.int j)) (some (.str w0)) o7) [8] = callsE m3 many names (some (.int j)) (some (.str w0)) o7 from rfl, f4]
      rfl
    have s3 : (mIfS (mTest (mOp gtD (mVal (mRes g_l_draw 2 [] (mCL 0 (mCV (mC (.int 3)) mCN)))) (mC (.int 0)))) (mAsg (mCall1 (joinD "") (mLc (mRange1 (mOp addD (mC (.int 1)) (mVal (mRes g_l_draw 2 [] (mCL 0 (mCV (mC (.int 6)) mCN)))))) [8] (setV 8) mYes (mOp ixD (mVar 3) (mVal (mRes g_l_draw 2 [] (mCL 0 (mCV (mC (.int 26)) mCN))))))) (setV 6)) mNext) (callsE m1 many names (some (.int j)) (some (.str w0)) o7) = .nx (callsE m4 many names (some (.int j)) (some (.str ⟨cs.toArray⟩)) o7) := by
      have s4 : (mVal (mRes g_l_draw 2 [] (mCL 0 (mCV (mC (.int 3)) mCN)))) (callsE m1 many names (some (.int j)) (some (.str w0)) o7) = .ok (.int k2) (callsE m2 many names (some (.int j)) (some (.str w0)) o7) := by
        simp [callsE, c4]
      rw [a_mIfS, a_mTest, a_mOp, s4, R.bind_ok, a_mC, R.bind_ok, e4, R.of_some, R.bind_ok, a_asB, R.thenB_ok, if_pos rfl, a_mAsg, a_mCall1, s2, R.bind_ok, e1, R.of_some, R.thenS_ok]
      rfl
    rw [a_mSeq]
    simp only [callsE, Option.map_some] at s3 g3
    simp [-a_mSeq, -List.map_append, callsE, a4, b2]
    rw [a_mSeq, s3]
    exact g3
  · have e4 : gtD (.int k2) (.int 0) = some (.bl false) := by simp [gtD, hk]
    obtain ⟨z, d7, g1, g2, g3⟩ := fin m2 w0 (c1.mono (by omega)) b1
    refine ⟨_, m2, z, some (.str w0), some d7, by simp [callsE]; rfl, c1.mono (by omega), g1, g2, ?_⟩
    simp only [callsE, Option.map_some] at g3
    rw [a_mSeq]
    simp [-a_mSeq, -List.map_append, callsE, a4, b2]
    rw [a_mSeq]
    simp [-a_mSeq, -List.map_append, callsE, c4, e4]
    exact g3
end K03
set_option maxHeartbeats 4000000
namespace K03
open PySem L2 VS
theorem for_range {g : Ev D} {t : D → VEnv → Option VEnv} {body : VEnv → RS} {ρ ρ' : VEnv} {n : Nat} (hg : g ρ = .ok (.int n) ρ') (h : n ≤ 1000000) : mFor (mRange1 g) t body ρ = forGo t body (upFrom 0 n) ρ' := by
  rw [a_mFor, a_mRange1, hg, R.bind_ok, range1 h, R.of_some, thenL_ok]
theorem lc_range {g : Ev D} {vs : List Nat} {t : D → VEnv → Option VEnv} {tt : Ev Bool} {te : Ev D} {ρ ρ' ρ2 : VEnv} {n : Nat} {zs : List D} (hg : g ρ = .ok (.int n) ρ') (h : n ≤ 1000000) (hc : cleared ρ' vs = true) (hz : lcGo vs t tt te (upFrom 0 n) [] (wipeE ρ' vs) = .ok zs ρ2) :
    mLcL (mRange1 g) vs t tt te ρ = .ok zs (restoreE ρ' ρ2 vs) := by
  rw [a_mLcL, a_mRange1, hg, R.bind_ok, range1 h, R.of_some, R.bind_ok, if_pos hc, hz, R.bind_ok]
theorem seq_nx {h k : VEnv → RS} {ρ ρ' : VEnv} (e : h ρ = .nx ρ') : mSeq h k ρ = k ρ' := by rw [a_mSeq, e]
theorem calls_ok {n : Nat} {m : MO} {many : Nat} (hm : many ≤ 17) (h : Hand (n + 9 * many) m) : ∃ (m' : MO) (names : List Str), Hand n m' ∧ names.length = many ∧ names.Nodup ∧ (∀ z ∈ names, IsName z) ∧
    g_l_calls [.l m, .v (.int many)] = some (.nw (.lst (names.map D.str)), [m']) := by
  obtain ⟨ρ', h1, m', names, o5, o6, o7, a1, a2, a3, a4, rfl⟩ := forGo_inv0 (t := setV 5) (body := _) (fun j ρ => ∃ (m' : MO) (names : List Str) (o5 o6 o7 : Option D), Hand (n + 9 * (many - j)) m' ∧ names.length = j ∧ names.Nodup ∧ (∀ z ∈ names, IsName z) ∧ ρ = callsE m' many names o5 o6 o7)
    (upFrom 0 many) (callsE m many [] none none none) ⟨m, [], none, none, none, h, rfl, .nil, by simp, rfl⟩ (by
      rintro j d ρ hd ⟨m1, names, o5, o6, o7, b1, b2, b3, b4, rfl⟩
      obtain ⟨hj, rfl⟩ := upFrom_get hd
      obtain ⟨ρ1, m2, z, o6', o7', c1, c2, c3, c4, c5⟩ := calls_step (n := n + 9 * (many - (j + 1))) (m := m1) (many := many) (o5 := o5) (o6 := o6) (o7 := o7) (j := j) (b1.mono (by omega)) (by omega) b3 b4
      refine ⟨ρ1, _, c1, .inl c5, m2, names ++ [z], _, _, _, c2, by simp [b2], ?_, ?_, rfl⟩
      · exact List.nodup_append.mpr ⟨b3, by simp, fun a ha b hb e => by
          obtain rfl : b = z := by simpa using hb
          exact c4 (e ▸ ha)⟩
      · intro y hy
        rcases List.mem_append.mp hy with q | q
        · exact b4 y q
        · have : y = z := by simpa using q
          rw [this]; exact c3)
  rw [upFrom_length] at a1 a2
  refine ⟨m', names, a1.mono (by omega), a2, a3, a4, ?_⟩
  rw [g_l_calls, runG_fin, h_l_calls]
  have s1 : ∀ k, mSeq (mAsg (mLst (mCons (mC (.str "over")) (mCons (mC (.str "hearth")) (mCons (mC (.str "out")) (mCons (mC (.str "kindle")) (mCons (mC (.str "gust")) (mCons (mC (.str "spark")) (mCons (mC (.str "give")) (mCons (mC (.str "back")) (mCons (mC (.str "here")) (mCons (mC (.str "never")) (mCons (mC (.str "to")) (mCons (mC (.str "stores")) mNil))))))))))))) (setV 2)) k (startE 11 [.l m, .v (.int many)]) = k [some (Sl.own true m), some (Sl.val (.int many)), some (Sl.val (.lst wordsD)), none, none, none, none, none, none, none, none] := fun k => seq_nx (by simp [startE, slotOf, wordsD])
  have s2 : ∀ k, mSeq (mParEF 3 4 (mC (.str "abcdefghijklmnopqrstuvwxyz")) (mLstO mNil)) k [some (Sl.own true m), some (Sl.val (.int many)), some (Sl.val (.lst wordsD)), none, none, none, none, none, none, none, none] = k (callsE m many [] none none none) := fun k => seq_nx (by simp [callsE, az])
  rw [s1, s2, a_mSeq, for_range (g := mVar 1) (ρ' := callsE m many [] none none none) (n := many) rfl (by omega), h1]
  simp [finG, lents, callsE]
end K03
set_option maxHeartbeats 4000000
namespace K03
open PySem L2 VS
structure Fire where
  name : Str
  hung : List Int
  feed : List Str
def Fire.d (f : Fire) : D := .tup [.str f.name, .tup (f.hung.map D.int), .tup (f.feed.map D.str)]
structure Hung (few : Nat) (hs : List Int) : Prop where
  len : hs.length = few
  bd : ∀ x ∈ hs, 0 ≤ x ∧ x ≤ 9
  pos : ∃ x ∈ hs, 0 < x
structure Fires (few : Nat) (fs : List Fire) : Prop where
  nd : (fs.map Fire.name).Nodup
  nm : ∀ f ∈ fs, IsName f.name
  hg : ∀ f ∈ fs, Hung few f.hung
  fd : ∀ i f, fs[i]? = some f → f.feed.Nodup ∧ ∀ z ∈ f.feed, z ∈ (fs.take i).map Fire.name
abbrev firesE (m : MO) (many few : Int) (names : List Str) (found : List Fire) (s : Bool) (o6 : Option D) (o7 o8 : Option MO) (o9 o10 : Option D) : VEnv :=
  [some (Sl.own true m), some (Sl.val (.int many)), some (Sl.val (.int few)), some (Sl.val (.lst (names.map D.str))), some (Sl.own false (.lst (found.map Fire.d))), some (Sl.val (.bl s)), o6.map Sl.val, o7.map (Sl.own false), o8.map (Sl.own false), o9.map Sl.val, o10.map Sl.val, none]
theorem pick6 {k : Int} (h0 : 0 ≤ k) (h1 : k < 6) : ∃ x : Int, 0 ≤ x ∧ x ≤ 3 ∧ ixD (.lst [.int 1, .int 1, .int 1, .int 2, .int 3, .int 0]) (.int k) = some (.int x) := by
  have : k = 0 ∨ k = 1 ∨ k = 2 ∨ k = 3 ∨ k = 4 ∨ k = 5 := by omega
  rcases this with rfl | rfl | rfl | rfl | rfl | rfl
  · exact ⟨1, by decide, by decide, rfl⟩
  · exact ⟨1, by decide, by decide, rfl⟩
  · exact ⟨1, by decide, by decide, rfl⟩
  · exact ⟨2, by decide, by decide, rfl⟩
  · exact ⟨3, by decide, by decide, rfl⟩
  · exact ⟨0, by decide, by decide, rfl⟩
theorem pick4 {k : Int} (h0 : 0 ≤ k) (h1 : k < 4) : ∃ x : Nat, x ≤ 3 ∧ ixD (.lst [.int 1, .int 1, .int 2, .int 3]) (.int k) = some (.int x) := by
  have : k = 0 ∨ k = 1 ∨ k = 2 ∨ k = 3 := by omega
  rcases this with rfl | rfl | rfl | rfl
  · exact ⟨1, by decide, rfl⟩
  · exact ⟨1, by decide, rfl⟩
  · exact ⟨2, by decide, rfl⟩
  · exact ⟨3, by decide, rfl⟩
theorem max_mem : ∀ (r : List Int) (n : Int), r.foldl max n ∈ n :: r
  | [], n => by simp
  | a :: r, n => by
    have := max_mem r (max n a)
    rw [List.foldl_cons]
    rcases List.mem_cons.mp this with e | e
    · rw [e]
      by_cases h : n ≤ a
      · rw [Int.max_eq_right h]; simp
      · rw [Int.max_eq_left (by omega)]; simp
    · exact List.mem_cons_of_mem _ (List.mem_cons_of_mem _ e)
theorem ixN_lt {n : Nat} {k : Int} (h0 : 0 ≤ k) (h1 : k < n) : ixN n k = some k.toNat := by unfold ixN; rw [if_pos h0, if_pos h1]
/-- the hungers by draws -/
theorem hung_lc {n few : Nat} {m : MO} {many : Int} {names : List Str} {found : List Fire} {s : Bool} {o6 : Option D} {o7 o8 : Option MO} {o9 o10 : Option D} (hf : few ≤ 3) (h : Hand (n + few) m) :
    ∃ (m' : MO) (hs : List Int), Hand n m' ∧ hs.length = few ∧ (∀ x ∈ hs, 0 ≤ x ∧ x ≤ 3) ∧
      lcGo [11] (setV 11) mYes (mOp ixD (mLst (mCons (mC (.int 1)) (mCons (mC (.int 1)) (mCons (mC (.int 1)) (mCons (mC (.int 2)) (mCons (mC (.int 3)) (mCons (mC (.int 0)) mNil))))))) (mVal (mRes g_l_draw 2 [] (mCL 0 (mCV (mC (.int 6)) mCN))))) (upFrom 0 few) [] (firesE m many few names found s o6 o7 o8 o9 o10) =
      .ok (hs.map D.int) (firesE m' many few names found s o6 o7 o8 o9 o10) := by
  obtain ⟨zs, ρ', h1, m', hs, h2, h3, h4, h5, h6⟩ := lcGo_inv (vs := [11]) (t := setV 11) (tt := mYes) (te := mOp ixD (mLst (mCons (mC (.int 1)) (mCons (mC (.int 1)) (mCons (mC (.int 1)) (mCons (mC (.int 2)) (mCons (mC (.int 3)) (mCons (mC (.int 0)) mNil))))))) (mVal (mRes g_l_draw 2 [] (mCL 0 (mCV (mC (.int 6)) mCN)))))
    (fun j acc ρ => ∃ (m' : MO) (hs : List Int), Hand (n + (few - j)) m' ∧ hs.length = j ∧ (∀ x ∈ hs, 0 ≤ x ∧ x ≤ 3) ∧ acc = hs.map D.int ∧ ρ = firesE m' many few names found s o6 o7 o8 o9 o10) (upFrom 0 few) 0 [] (firesE m many few names found s o6 o7 o8 o9 o10)
    (by rw [upFrom_length]; exact Nat.le_trans (by simp; omega) (show 3 ≤ lim by decide)) ⟨m, [], h, rfl, by simp, rfl, rfl⟩ (by
      rintro j d acc ρ - hd ⟨m1, hs, a1, a2, a3, rfl, rfl⟩
      have hj : j < few := by have := (List.getElem?_eq_some_iff.mp hd).1; rw [upFrom_length] at this; omega
      obtain ⟨m2, c, b1, b2, b3, b4⟩ := draw0 (n := n + (few - (j + 1))) (m := m1) (many := 6) (a1.mono (by omega)) (by decide) (by decide)
      obtain ⟨x, c1, c2, c3⟩ := pick6 b2 b3
      refine ⟨_, _, true, by simp [firesE]; rfl, rfl, fun _ => ⟨.int x, _, by simp [firesE, b4, c3]; rfl, m2, hs ++ [x], b1, by simp [a2], ?_, by simp, ?_⟩, fun z => nomatch z⟩
      · intro y hy
        rcases List.mem_append.mp hy with q | q
        · exact a3 y q
        · obtain rfl : y = x := by simpa using q
          exact ⟨c1, c2⟩
      · simp [firesE, wipeE])
  rw [upFrom_length] at h2 h3
  exact ⟨m', hs, h2.mono (by omega), by omega, h4, by rw [h1, h5, h6]⟩
end K03
set_option maxHeartbeats 4000000
namespace K03
open PySem L2 VS
theorem eq_int (i j : Int) : eqD (.int i) (.int j) = some (.bl (decide (i = j))) := id rfl
theorem eq_bool (i j : Bool) : eqD (.bl i) (.bl j) = some (.bl (i == j)) := by cases i <;> cases j <;> rfl
abbrev S1 : VEnv → RS := (mSetO 7 (mLcO (mRange1 (mVar 2)) [11] (setV 11) mYes (mOp ixD (mLst (mCons (mC (.int 1)) (mCons (mC (.int 1)) (mCons (mC (.int 1)) (mCons (mC (.int 2)) (mCons (mC (.int 3)) (mCons (mC (.int 0)) mNil))))))) (mVal (mRes g_l_draw 2 [] (mCL 0 (mCV (mC (.int 6)) mCN)))))))
abbrev S2 : VEnv → RS := (mIfS (mTest (mOp eqD (mCall1 maxD (mOwn 7)) (mC (.int 0)))) (mAsg (mOp addD (mC (.int 1)) (mVal (mRes g_l_draw 2 [] (mCL 0 (mCV (mC (.int 9)) mCN))))) (tgItem 7 (mVal (mRes g_l_draw 2 [] (mCL 0 (mCV (mVar 2) mCN)))))) mNext)
theorem hung_ok {n few : Nat} {m : MO} {many : Int} {names : List Str} {found : List Fire} {s : Bool} {o6 : Option D} {o7 o8 : Option MO} {o9 o10 : Option D} (h1 : 1 ≤ few) (hf : few ≤ 3) (h : Hand (n + 5) m) :
    ∃ (m' : MO) (hs : List Int), Hand n m' ∧ Hung few hs ∧ ∀ k, mSeq S1 (mSeq S2 k) (firesE m many few names found s o6 o7 o8 o9 o10) = k (firesE m' many few names found s o6 (some (.lst (hs.map D.int))) o8 o9 o10) := by
  obtain ⟨m1, hs, a1, a2, a3, a4⟩ := hung_lc (n := n + 2) (few := few) (m := m) (many := many) (names := names) (found := found) (s := s) (o6 := o6) (o7 := o7) (o8 := o8) (o9 := o9) (o10 := o10) hf (h.mono (by omega))
  have s1 : S1 (firesE m many few names found s o6 o7 o8 o9 o10) = .nx (firesE m1 many few names found s o6 (some (.lst (hs.map D.int))) o8 o9 o10) := by
    unfold S1
    rw [a_mSetO, a_mLcO, lc_range (g := mVar 2) (ρ' := firesE m many few names found s o6 o7 o8 o9 o10) (n := few) (by simp [firesE]) (by omega) (by simp [cleared, firesE]) (by rw [show wipeE (firesE m many few names found s o6 o7 o8 o9 o10) [11] = firesE m many few names found s o6 o7 o8 o9 o10 from rfl]; exact a4), R.bind_ok, thenM_ok]
    simp [firesE, restoreE]
  obtain ⟨x0, r0, rfl⟩ : ∃ x r, hs = x :: r := by
    cases hs with
    | nil => simp at a2; omega
    | cons x r => exact ⟨x, r, rfl⟩
  have mx : maxD (.lst ((x0 :: r0).map D.int)) = some (.int (r0.foldl max x0)) := by
    simp only [maxD, intsOf_map, Option.bind_some]
  have mm := max_mem r0 x0
  by_cases hz : r0.foldl max x0 = 0
  · obtain ⟨m2, k1, b1, b2, b3, b4⟩ := draw0 (n := n + 1) (m := m1) (many := 9) a1 (by decide) (by decide)
    obtain ⟨m3, k2, c1, c2, c3, c4⟩ := draw0 (n := n) (m := m2) (many := few) b1 (by omega) (by omega)
    refine ⟨m3, (x0 :: r0).set k2.toNat (1 + k1), c1, ⟨by simpa using a2, ?_, ?_⟩, fun k => ?_⟩
    · intro y hy
      rcases List.mem_or_eq_of_mem_set hy with q | q
      · have := a3 y q; omega
      · omega
    · refine ⟨1 + k1, ?_, by omega⟩
      have hl : k2.toNat < (x0 :: r0).length := by rw [a2]; omega
      exact List.mem_iff_getElem?.mpr ⟨k2.toNat, List.getElem?_set_self hl⟩
    · rw [seq_nx s1]
      refine seq_nx ?_
      have e1 : addD (.int 1) (.int k1) = some (.int (1 + k1)) := rfl
      have e2 : ixN ((x0 :: r0).map D.int).length k2 = some k2.toNat := ixN_lt c2 (by rw [List.length_map, a2]; exact c3)
      have e3 : ((x0 :: r0).map D.int).set k2.toNat (.int (1 + k1)) = ((x0 :: r0).set k2.toNat (1 + k1)).map D.int := by rw [List.map_set]
      have e0 : eqD (.int (r0.foldl max x0)) (.int 0) = some (.bl true) := by rw [eq_int]; simp [hz]
      unfold S2
      rw [a_mIfS, a_mTest, a_mOp, a_mCall1]
      rw [show mOwn 7 (firesE m1 many few names found s o6 (some (.lst ((x0 :: r0).map D.int))) o8 o9 o10) = .ok (.lst ((x0 :: r0).map D.int)) (firesE m1 many few names found s o6 (some (.lst ((x0 :: r0).map D.int))) o8 o9 o10) from rfl, R.bind_ok, mx, R.of_some, R.bind_ok, a_mC, R.bind_ok, e0, R.of_some, R.bind_ok, a_asB, R.thenB_ok, if_pos rfl]
      rw [a_mAsg, a_mOp, a_mC, R.bind_ok]
      rw [show (mVal (mRes g_l_draw 2 [] (mCL 0 (mCV (mC (.int 9)) mCN)))) (firesE m1 many few names found s o6 (some (.lst ((x0 :: r0).map D.int))) o8 o9 o10) = .ok (.int k1) (firesE m2 many few names found s o6 (some (.lst ((x0 :: r0).map D.int))) o8 o9 o10) by simp [firesE, b4], R.bind_ok, e1, R.of_some, R.thenS_ok]
      have e4 : tgItem 7 (mVal (mRes g_l_draw 2 [] (mCL 0 (mCV (mVar 2) mCN)))) (.int (1 + k1)) (firesE m2 many few names found s o6 (some (.lst ((x0 :: r0).map D.int))) o8 o9 o10) = some (firesE m3 many few names found s o6 (some (.lst (((x0 :: r0).set k2.toNat (1 + k1)).map D.int))) o8 o9 o10) := by
        have e5 : (mVal (mRes g_l_draw 2 [] (mCL 0 (mCV (mVar 2) mCN)))) (firesE m2 many few names found s o6 (some (.lst ((x0 :: r0).map D.int))) o8 o9 o10) = .ok (.int k2) (firesE m3 many few names found s o6 (some (.lst ((x0 :: r0).map D.int))) o8 o9 o10) := by simp [firesE, c4]
        unfold tgItem
        rw [e5]
        show Option.map _ (ixN ((x0 :: r0).map D.int).length k2) = _
        rw [e2, Option.map_some, e3]
        rfl
      rw [e4]
  · refine ⟨m1, x0 :: r0, a1.mono (by omega), ⟨a2, fun y hy => by have := a3 y hy; omega, ⟨_, mm, by have := a3 _ mm; omega⟩⟩, fun k => ?_⟩
    rw [seq_nx s1]
    refine seq_nx ?_
    have e0 : eqD (.int (r0.foldl max x0)) (.int 0) = some (.bl false) := by rw [eq_int]; simp [hz]
    unfold S2
    rw [a_mIfS, a_mTest, a_mOp, a_mCall1]
    rw [show mOwn 7 (firesE m1 many few names found s o6 (some (.lst ((x0 :: r0).map D.int))) o8 o9 o10) = .ok (.lst ((x0 :: r0).map D.int)) (firesE m1 many few names found s o6 (some (.lst ((x0 :: r0).map D.int))) o8 o9 o10) from rfl, R.bind_ok, mx, R.of_some, R.bind_ok, a_mC, R.bind_ok, e0, R.of_some, R.bind_ok, a_asB, R.thenB_ok]
    rfl
end K03
set_option maxHeartbeats 4000000
namespace K03
open PySem L2 VS
abbrev S4b : VEnv → RS := (mSeq (mAsg (mOp ixD (mVar 3) (mCall max2D (mCons (mC (.int 0)) (mCons (mOp subD (mOp subD (mVar 6) (mC (.int 1))) (mOp mulE (mVal (mRes g_l_draw 2 [] (mCL 0 (mCV (mC (.int 3)) mCN)))) (mCall1 int1D (mNotV (mVar 5))))) mNil)))) (setV 10))
    (mIfS (mTest (mOp notInD (mVar 10) (mOwn 8))) (mAppend 8 (mVar 10)) mNext))
abbrev S4 : VEnv → RS := (mFor (mRange1 (mOp ixD (mLst (mCons (mC (.int 1)) (mCons (mC (.int 1)) (mCons (mC (.int 2)) (mCons (mC (.int 3)) mNil))))) (mVal (mRes g_l_draw 2 [] (mCL 0 (mCV (mC (.int 4)) mCN)))))) (setV 9) S4b)
abbrev S3 : VEnv → RS := (mSetO 8 (mLstO mNil))
abbrev S5 : VEnv → RS := (mIfS (mOr (mTest (mOp eqD (mVar 6) (mC (.int 0)))) (mAnd (mNot (mTruth (mVar 5))) (mTest (mOp eqD (mVal (mRes g_l_draw 2 [] (mCL 0 (mCV (mC (.int 7)) mCN)))) (mC (.int 0)))))) (mSetO 8 (mLstO mNil)) mNext)
def Feed (names : List Str) (j : Nat) (fl : List Str) : Prop := fl.Nodup ∧ fl.length ≤ 3 ∧ ∀ z ∈ fl, j = 0 ∨ z ∈ names.take j
theorem feed_step {n few : Nat} {m : MO} {many : Int} {names : List Str} {found : List Fire} {s : Bool} {j i : Nat} {o7 : Option MO} {o9 o10 : Option D} {fl : List Str} (hj : j < names.length) (h : Hand (n + 1) m) (hi : fl.length ≤ i) (h3 : i < 3) (hf : fl.Nodup ∧ ∀ z ∈ fl, j = 0 ∨ z ∈ names.take j) :
    ∃ (ρ1 : VEnv) (m' : MO) (fl' : List Str) (o10' : Option D), setV 9 (.int i) (firesE m many few names found s (some (.int j)) o7 (some (.lst (fl.map D.str))) o9 o10) = some ρ1 ∧ Hand n m' ∧ fl'.length ≤ i + 1 ∧ (fl'.Nodup ∧ ∀ z ∈ fl', j = 0 ∨ z ∈ names.take j) ∧
      S4b ρ1 = .nx (firesE m' many few names found s (some (.int j)) o7 (some (.lst (fl'.map D.str))) (some (.int i)) o10') := by
  obtain ⟨m1, k, a1, a2, a3, a4⟩ := draw0 (n := n) (m := m) (many := 3) h (by decide) (by decide)
  let b : Int := if (!s) = true then 1 else 0
  let ix : Int := if (j : Int) - 1 - k * b > 0 then (j : Int) - 1 - k * b else 0
  have hb : b = 0 ∨ b = 1 := by cases s <;> simp [b]
  have hix0 : 0 ≤ ix := by simp only [ix]; split <;> omega
  have hkb : 0 ≤ k * b := by rcases hb with e | e <;> rw [e] <;> omega
  have hix1 : ix.toNat < names.length := by simp only [ix]; split <;> omega
  have hix2 : j = 0 ∨ ix.toNat < j := by
    by_cases h0 : j = 0
    · exact .inl h0
    · right
      simp only [ix]; split <;> omega
  have e1 : subD (.int j) (.int 1) = some (.int ((j : Int) - 1)) := rfl
  have e2 : int1D (.bl (!s)) = some (.int b) := rfl
  have e3 : mulE (.int k) (.int b) = some (.int (k * b)) := by
    have h1 : k.natAbs < big := by unfold big; omega
    have h2 : b.natAbs < big := by unfold big; rcases hb with e | e <;> rw [e] <;> decide
    simp only [mulE, mulD]
    rw [if_pos ⟨h1, h2⟩]
  have e4 : subD (.int ((j : Int) - 1)) (.int (k * b)) = some (.int ((j : Int) - 1 - k * b)) := rfl
  have e5 : max2D [.int 0, .int ((j : Int) - 1 - k * b)] = some (.int ix) := rfl
  have e6 : ixD (.lst (names.map D.str)) (.int ix) = some (.str names[ix.toNat]) := by
    simp only [ixD, atI]
    rw [ixN_lt hix0 (by rw [List.length_map]; omega)]
    simp [hix1]
  have e7 : (mNotV (mVar 5)) (firesE m1 many few names found s (some (.int j)) o7 (some (.lst (fl.map D.str))) (some (.int i)) o10) = .ok (.bl (!s)) (firesE m1 many few names found s (some (.int j)) o7 (some (.lst (fl.map D.str))) (some (.int i)) o10) := by simp [firesE, truD]
  have s1 : (mAsg (mOp ixD (mVar 3) (mCall max2D (mCons (mC (.int 0)) (mCons (mOp subD (mOp subD (mVar 6) (mC (.int 1))) (mOp mulE (mVal (mRes g_l_draw 2 [] (mCL 0 (mCV (mC (.int 3)) mCN)))) (mCall1 int1D (mNotV (mVar 5))))) mNil)))) (setV 10)) (firesE m many few names found s (some (.int j)) o7 (some (.lst (fl.map D.str))) (some (.int i)) o10) =
      .nx (firesE m1 many few names found s (some (.int j)) o7 (some (.lst (fl.map D.str))) (some (.int i)) (some (.str names[ix.toNat]))) := by
    simp only [firesE, Option.map_some] at e7
    simp [-a_mNotV, firesE, e1, a4, e7, e2, e3, e4, e5, e6]
  have hz : j = 0 ∨ names[ix.toNat] ∈ names.take j := by
    rcases hix2 with q | q
    · exact .inl q
    · exact .inr (List.mem_iff_getElem?.mpr ⟨ix.toNat, by rw [List.getElem?_take]; simp [q, hix1]⟩)
  have hl16 : fl.length < 16000000 := by omega
  by_cases hm : names[ix.toNat] ∈ fl
  · refine ⟨firesE m many few names found s (some (.int j)) o7 (some (.lst (fl.map D.str))) (some (.int i)) o10, m1, fl, some (.str names[ix.toNat]), by simp [firesE], a1, by omega, hf, ?_⟩
    have e8 : notInD (.str names[ix.toNat]) (.lst (fl.map D.str)) = some (.bl false) := by simp [notInD, in_lst, hm]
    unfold S4b
    rw [seq_nx s1]
    simp [firesE, e8, MO.frz]
  · refine ⟨firesE m many few names found s (some (.int j)) o7 (some (.lst (fl.map D.str))) (some (.int i)) o10, m1, fl ++ [names[ix.toNat]], some (.str names[ix.toNat]), by simp [firesE], a1, by simp; omega, ⟨?_, ?_⟩, ?_⟩
    · exact List.nodup_append.mpr ⟨hf.1, by simp, fun a ha b hb e => by
        have : b = names[ix.toNat] := by simpa using hb
        exact hm (this ▸ e ▸ ha)⟩
    · intro z hz2
      rcases List.mem_append.mp hz2 with q | q
      · exact hf.2 z q
      · have : z = names[ix.toNat] := by simpa using q
        rw [this]; exact hz
    · have e8 : notInD (.str names[ix.toNat]) (.lst (fl.map D.str)) = some (.bl true) := by simp [notInD, in_lst, hm]
      unfold S4b
      rw [seq_nx s1]
      simp [firesE, e8, MO.frz, hl16]
end K03
set_option maxHeartbeats 4000000
namespace K03
open PySem L2 VS
abbrev S6 : VEnv → RS := (mAppend 4 (mTup (mCons (mOp ixD (mVar 3) (mVar 6)) (mCons (mCall1 tupleE (mOwn 7)) (mCons (mCall1 tupleE (mOwn 8)) mNil)))))
theorem feed_ok {n few : Nat} {m : MO} {many : Int} {names : List Str} {found : List Fire} {s : Bool} {j : Nat} {o7 o8 : Option MO} {o9 o10 : Option D} (hj : j < names.length) (h : Hand (n + 4) m) :
    ∃ (m' : MO) (fl : List Str) (o9' o10' : Option D), Hand n m' ∧ fl.length ≤ 3 ∧ (fl.Nodup ∧ ∀ z ∈ fl, j = 0 ∨ z ∈ names.take j) ∧
      ∀ k, mSeq S3 (mSeq S4 k) (firesE m many few names found s (some (.int j)) o7 o8 o9 o10) = k (firesE m' many few names found s (some (.int j)) o7 (some (.lst (fl.map D.str))) o9' o10') := by
  have s3 : S3 (firesE m many few names found s (some (.int j)) o7 o8 o9 o10) = .nx (firesE m many few names found s (some (.int j)) o7 (some (.lst (([] : List Str).map D.str))) o9 o10) := by simp [S3, firesE]
  obtain ⟨m1, k4, a1, a2, a3, a4⟩ := draw0 (n := n + 3) (m := m) (many := 4) h (by decide) (by decide)
  obtain ⟨x, b1, b2⟩ := pick4 a2 a3
  obtain ⟨ρ', h1, m', fl, o9', o10', c1, c2, c3, rfl⟩ := forGo_inv0 (t := setV 9) (body := S4b) (fun i ρ => ∃ (m' : MO) (fl : List Str) (o9' o10' : Option D), Hand (n + (3 - i)) m' ∧ fl.length ≤ i ∧ (fl.Nodup ∧ ∀ z ∈ fl, j = 0 ∨ z ∈ names.take j) ∧ ρ = firesE m' many few names found s (some (.int j)) o7 (some (.lst (fl.map D.str))) o9' o10')
    (upFrom 0 x) (firesE m1 many few names found s (some (.int j)) o7 (some (.lst (([] : List Str).map D.str))) o9 o10) ⟨m1, [], o9, o10, a1, by simp, by simp, rfl⟩ (by
      rintro i d ρ hd ⟨m2, fl, o9', o10', d1, d2, d3, rfl⟩
      obtain ⟨hi, rfl⟩ := upFrom_get hd
      obtain ⟨ρ1, m3, fl', o10'', e1, e2, e3, e4, e5⟩ := feed_step (n := n + (3 - (i + 1))) (few := few) (m := m2) (many := many) (names := names) (found := found) (s := s) (j := j) (i := i) (o7 := o7) (o9 := o9') (o10 := o10') (fl := fl) hj (d1.mono (by omega)) d2 (by omega) d3
      exact ⟨ρ1, _, e1, .inl e5, m3, fl', some (.int i), o10'', e2, e3, e4, rfl⟩)
  rw [upFrom_length] at c1 c2
  refine ⟨m', fl, o9', o10', c1.mono (by omega), by omega, c3, fun k => ?_⟩
  rw [seq_nx s3]
  refine seq_nx ?_
  have e6 : (mOp ixD (mLst (mCons (mC (.int 1)) (mCons (mC (.int 1)) (mCons (mC (.int 2)) (mCons (mC (.int 3)) mNil))))) (mVal (mRes g_l_draw 2 [] (mCL 0 (mCV (mC (.int 4)) mCN))))) (firesE m many few names found s (some (.int j)) o7 (some (.lst (([] : List Str).map D.str))) o9 o10) = .ok (.int x) (firesE m1 many few names found s (some (.int j)) o7 (some (.lst (([] : List Str).map D.str))) o9 o10) := by
    simp [firesE, a4, b2]
  unfold S4
  rw [for_range e6 (by omega), h1]
theorem ground_ok {n few : Nat} {m : MO} {many : Int} {names : List Str} {found : List Fire} {s : Bool} {j : Nat} {o7 : Option MO} {o9 o10 : Option D} {fl : List Str} (h : Hand (n + 1) m) (hl : fl.length ≤ 3) (hf : fl.Nodup ∧ ∀ z ∈ fl, j = 0 ∨ z ∈ names.take j) :
    ∃ (m' : MO) (fl' : List Str), Hand n m' ∧ fl'.length ≤ 3 ∧ (fl'.Nodup ∧ ∀ z ∈ fl', z ∈ names.take j) ∧
      ∀ k, mSeq S5 k (firesE m many few names found s (some (.int j)) o7 (some (.lst (fl.map D.str))) o9 o10) = k (firesE m' many few names found s (some (.int j)) o7 (some (.lst (fl'.map D.str))) o9 o10) := by
  by_cases h0 : j = 0
  · subst h0
    have e1 : eqD (.int ((0 : Nat) : Int)) (.int 0) = some (.bl true) := by rw [eq_int]; simp
    refine ⟨m, [], h.mono (by omega), by simp, by simp, fun k => seq_nx ?_⟩
    have e1' : eqD (.int 0) (.int 0) = some (.bl true) := e1
    simp [S5, firesE, e1']
  · have hf' : fl.Nodup ∧ ∀ z ∈ fl, z ∈ names.take j := ⟨hf.1, fun z hz => (hf.2 z hz).resolve_left h0⟩
    have e1 : eqD (.int (j : Int)) (.int 0) = some (.bl false) := by rw [eq_int]; simp [h0]
    cases s with
    | true =>
      refine ⟨m, fl, h.mono (by omega), hl, hf', fun k => seq_nx ?_⟩
      simp [S5, firesE, e1, truD]
    | false =>
      obtain ⟨m1, k7, a1, a2, a3, a4⟩ := draw0 (n := n) (m := m) (many := 7) h (by decide) (by decide)
      by_cases hk : k7 = 0
      · have e2 : eqD (.int k7) (.int 0) = some (.bl true) := by rw [eq_int]; simp [hk]
        refine ⟨m1, [], a1, by simp, by simp, fun k => seq_nx ?_⟩
        simp [S5, firesE, e1, truD, a4, e2]
      · have e2 : eqD (.int k7) (.int 0) = some (.bl false) := by rw [eq_int]; simp [hk]
        refine ⟨m1, fl, a1, hl, hf', fun k => seq_nx ?_⟩
        simp [S5, firesE, e1, truD, a4, e2]
theorem add_ok {few : Nat} {m : MO} {many : Int} {names : List Str} {found : List Fire} {s : Bool} {j : Nat} {o9 o10 : Option D} {hs : List Int} {fl : List Str} (hj : j < names.length) (hf : found.length < 1000) :
    S6 (firesE m many few names found s (some (.int j)) (some (.lst (hs.map D.int))) (some (.lst (fl.map D.str))) o9 o10) = .nx (firesE m many few names (found ++ [⟨names[j], hs, fl⟩]) s (some (.int j)) (some (.lst (hs.map D.int))) (some (.lst (fl.map D.str))) o9 o10) := by
  have e1 : ixD (.lst (names.map D.str)) (.int (j : Int)) = some (.str names[j]) := by
    simp only [ixD, atI]
    rw [ixN_lt (by omega) (by rw [List.length_map]; omega)]
    simp [hj]
  have e2 : tupleE (.lst (hs.map D.int)) = some (.tup (hs.map D.int)) := rfl
  have e3 : tupleE (.lst (fl.map D.str)) = some (.tup (fl.map D.str)) := rfl
  have e4 : found.length < 16000000 := by omega
  simp [S6, firesE, e1, e2, e3, MO.frz, e4, Fire.d]
end K03
set_option maxHeartbeats 4000000
namespace K03
open PySem L2 VS
theorem Fires.snoc {few : Nat} {fs : List Fire} {f : Fire} (h : Fires few fs) (h1 : f.name ∉ fs.map Fire.name) (h2 : IsName f.name) (h3 : Hung few f.hung) (h4 : f.feed.Nodup) (h5 : ∀ z ∈ f.feed, z ∈ fs.map Fire.name) : Fires few (fs ++ [f]) where
  nd := by
    rw [List.map_append]
    exact List.nodup_append.mpr ⟨h.nd, by simp, fun a ha b hb e => by
      have : b = f.name := by simpa using hb
      exact h1 (this ▸ e ▸ ha)⟩
  nm := fun g hg => by
    rcases List.mem_append.mp hg with q | q
    · exact h.nm g q
    · have : g = f := by simpa using q
      rw [this]; exact h2
  hg := fun g hg => by
    rcases List.mem_append.mp hg with q | q
    · exact h.hg g q
    · have : g = f := by simpa using q
      rw [this]; exact h3
  fd := fun i g hg => by
    by_cases hi : i < fs.length
    · rw [List.getElem?_append_left hi] at hg
      rw [List.take_append_of_le_length (by omega)]
      exact h.fd i g hg
    · rw [List.getElem?_append_right (by omega)] at hg
      have e : i - fs.length = 0 := by
        have := (List.getElem?_eq_some_iff.mp hg).1
        simp at this; omega
      rw [e] at hg
      have : f = g := by simpa using hg
      subst this
      have ei : i = fs.length := by omega
      subst ei
      rw [List.take_append_of_le_length (Nat.le_refl _), List.take_length]
      exact ⟨h4, h5⟩
theorem Fires.nil {few : Nat} : Fires few [] := ⟨.nil, by simp, by simp, by simp⟩
theorem fires_ok {n many few : Nat} {m : MO} (hm : many ≤ 16) (h1 : 1 ≤ few) (hf : few ≤ 3) (h : Hand (n + 19 * many + 1) m) : ∃ (m' : MO) (fs : List Fire), Hand n m' ∧ fs.length = many ∧ Fires few fs ∧
    g_l_fires [.l m, .v (.int many), .v (.int few)] = some (.nw (.lst (fs.map Fire.d)), [m']) := by
  obtain ⟨m1, names, a1, a2, a3, a4, a5⟩ := calls_ok (n := n + 10 * many + 1) (m := m) (many := many) (by omega) (h.mono (by omega))
  obtain ⟨m2, k, b1, b2, b3, b4⟩ := draw0 (n := n + 10 * many) (m := m1) (many := 4) a1 (by decide) (by decide)
  obtain ⟨ρ', l1, m', fs, o6, o7, o8, o9, o10, c1, c2, c3, c4, rfl⟩ := forGo_inv0 (t := setV 6) (body := mSeq S1 (mSeq S2 (mSeq S3 (mSeq S4 (mSeq S5 S6))))) (fun j ρ => ∃ (m' : MO) (fs : List Fire) (o6 : Option D) (o7 o8 : Option MO) (o9 o10 : Option D), Hand (n + 10 * (many - j)) m' ∧ fs.map Fire.name = names.take j ∧ fs.length = j ∧ Fires few fs ∧ ρ = firesE m' many few names fs (decide (k = 0)) o6 o7 o8 o9 o10)
    (upFrom 0 many) (firesE m2 many few names [] (decide (k = 0)) none none none none none) ⟨m2, [], none, none, none, none, none, b1, by simp, rfl, .nil, rfl⟩ (by
      rintro j d ρ hd ⟨m3, fs, o6, o7, o8, o9, o10, d1, d2, d3, d4, rfl⟩
      obtain ⟨hj, rfl⟩ := upFrom_get hd
      have hjn : j < names.length := by omega
      obtain ⟨m4, hs, e1, e2, e3⟩ := hung_ok (n := n + 10 * (many - (j + 1)) + 5) (few := few) (m := m3) (many := many) (names := names) (found := fs) (s := decide (k = 0)) (o6 := some (.int j)) (o7 := o7) (o8 := o8) (o9 := o9) (o10 := o10) h1 hf (d1.mono (by omega))
      obtain ⟨m5, fl, o9', o10', f1, f2, f3, f4⟩ := feed_ok (n := n + 10 * (many - (j + 1)) + 1) (few := few) (m := m4) (many := many) (names := names) (found := fs) (s := decide (k = 0)) (j := j) (o7 := some (.lst (hs.map D.int))) (o8 := o8) (o9 := o9) (o10 := o10) hjn (e1.mono (by omega))
      obtain ⟨m6, fl', g1, g2, g3, g4⟩ := ground_ok (n := n + 10 * (many - (j + 1))) (few := few) (m := m5) (many := many) (names := names) (found := fs) (s := decide (k = 0)) (j := j) (o7 := some (.lst (hs.map D.int))) (o9 := o9') (o10 := o10') (fl := fl) f1 f2 f3
      have g5 := add_ok (few := few) (m := m6) (many := many) (names := names) (found := fs) (s := decide (k = 0)) (j := j) (o9 := o9') (o10 := o10') (hs := hs) (fl := fl') hjn (by omega)
      refine ⟨firesE m3 many few names fs (decide (k = 0)) (some (.int j)) o7 o8 o9 o10, _, by simp [firesE], .inl (by rw [e3, f4, g4]; exact g5), m6, fs ++ [⟨names[j], hs, fl'⟩], _, _, _, _, _, g1, ?_, by simp [d3], ?_, rfl⟩
      · rw [List.map_append, d2, List.take_add_one]
        simp [hjn]
      · refine d4.snoc ?_ ?_ e2 g3.1 ?_
        · rw [d2]
          intro q
          obtain ⟨i, hi⟩ := List.mem_iff_getElem?.mp q
          rw [List.getElem?_take] at hi
          split at hi
          · rename_i hij
            have hi2 : names[i]? = names[j]? := by rw [hi]; simp [hjn]
            have := (List.getElem?_inj (by omega) a3).mp hi2
            omega
          · cases hi
        · exact a4 _ (List.getElem_mem hjn)
        · intro z hz
          rw [d2]
          exact g3.2 z hz)
  rw [upFrom_length] at c1 c2 c3
  refine ⟨m', fs, c1.mono (by omega), c3, c4, ?_⟩
  rw [g_l_fires, runG_fin, h_l_fires]
  have s0 := callR0_nw (G := g_l_calls) (n := 2) (m := m) (m' := m1) (ds := [.int many]) a5 rfl true [some (Sl.val (.int many)), some (Sl.val (.int few)), none, none, none, none, none, none, none, none, none]
  have s1 : ∀ k, mSeq (mParEF 3 4 (mVal (mRes g_l_calls 2 [] (mCL 0 (mCV (mVar 1) mCN)))) (mLstO mNil)) k (startE 12 [.l m, .v (.int many), .v (.int few)]) = k [some (Sl.own true m1), some (Sl.val (.int many)), some (Sl.val (.int few)), some (Sl.val (.lst (names.map D.str))), some (Sl.own false (.lst [])), none, none, none, none, none, none, none] := fun k => seq_nx (by
    simp only [List.map_cons, List.map_nil] at s0
    simp [startE, slotOf, s0, MO.frz])
  have s2 : ∀ k', mSeq (mAsg (mOp eqD (mVal (mRes g_l_draw 2 [] (mCL 0 (mCV (mC (.int 4)) mCN)))) (mC (.int 0))) (setV 5)) k' [some (Sl.own true m1), some (Sl.val (.int many)), some (Sl.val (.int few)), some (Sl.val (.lst (names.map D.str))), some (Sl.own false (.lst [])), none, none, none, none, none, none, none] = k' (firesE m2 many few names [] (decide (k = 0)) none none none none none) := fun k' => seq_nx (by
    simp [b4, eq_int, firesE])
  rw [s1, s2, a_mSeq, for_range (g := mVar 1) (ρ' := firesE m2 many few names [] (decide (k = 0)) none none none none none) (n := many) rfl (by omega), l1]
  simp [finG, lents, firesE]
end K03
set_option maxHeartbeats 4000000
namespace K03
open PySem L2 VS
theorem hand_ok (z : Int) : ∃ m, Hand 1000000 m ∧ g_l_hand [.v (.int z)] = some (.nw m, []) := by
  have p18 : powD (.int 10) (.int 18) = some (.int 1000000000000000000) := by simp [powD]
  have b0 := Int.emod_nonneg z (show (1000000087 : Int) ≠ 0 by decide)
  have b1 := Int.emod_lt_of_pos z (show (0 : Int) < 1000000087 by decide)
  have e1 : modD (.int z) (.int 1000000087) = some (.int (z % 1000000087)) := by simp [modD]
  have e2 : mulE (.int (z % 1000000087)) (.int 7013) = some (.int (z % 1000000087 * 7013)) := by
    simp only [mulE, mulD]
    rw [if_pos ⟨by unfold big; omega, by unfold big; decide⟩]
  have e3 : addD (.int (z % 1000000087 * 7013)) (.int 4007) = some (.int (z % 1000000087 * 7013 + 4007)) := rfl
  have h1 : ltD (.int z) (.int 0) = some (.bl (decide (z < 0))) := rfl
  have h2 : geD (.int z) (.int 1000000000000000000) = some (.bl (decide (1000000000000000000 ≤ z))) := rfl
  have h3 : absD (.int z) = some (.int (if z < 0 then -z else z)) := rfl
  have fin : ∀ a : Int, Hand 1000000 (.lst [.int a, .int (z % 1000000087 * 7013 + 4007), .int 0]) := fun a => ⟨_, _, _, rfl, by decide, by decide⟩
  by_cases c1 : z < 0
  · refine ⟨.lst [.int (if z < 0 then -z else z), .int (z % 1000000087 * 7013 + 4007), .int 0], fin _, ?_⟩
    rw [g_l_hand, runG_fin, h_l_hand]
    simp [startE, slotOf, finG, lents, p18, e1, e2, e3, h1, h2, h3, c1]
  · by_cases c2 : 1000000000000000000 ≤ z
    · refine ⟨.lst [.int (if z < 0 then -z else z), .int (z % 1000000087 * 7013 + 4007), .int 0], fin _, ?_⟩
      rw [g_l_hand, runG_fin, h_l_hand]
      simp [startE, slotOf, finG, lents, p18, e1, e2, e3, h1, h2, h3, c1, c2]
    · refine ⟨.lst [.int 0, .int (z % 1000000087 * 7013 + 4007), .int 0], fin _, ?_⟩
      rw [g_l_hand, runG_fin, h_l_hand]
      simp [startE, slotOf, finG, lents, p18, e1, e2, e3, h1, h2, h3, c1, c2]
end K03
set_option maxHeartbeats 4000000
namespace K03
open PySem L2 VS
theorem cell_ok (ns : List Int) (k : Nat) (hk : k ≤ 1000) : ∃ z : Int, g_l_cell [.v (.frl (ns.map D.int)), .v (.int k)] = some (.ok (.int z), []) := by
  have e1 : ltD (.int (k : Int)) (.int (ns.length : Int)) = some (.bl (decide ((k : Int) < ns.length))) := rfl
  by_cases c : k < ns.length
  · refine ⟨ns[k], ?_⟩
    have e2 : ixD (.frl (ns.map D.int)) (.int (k : Int)) = some (.int ns[k]) := by
      simp only [ixD, atI]
      rw [ixN_lt (by omega) (by rw [List.length_map]; omega)]
      simp [c]
    have e3 : lenD (.frl (ns.map D.int)) = some (.int (ns.length : Int)) := by simp [lenD]
    rw [g_l_cell, runG_fin, h_l_cell, a_mSeq]
    simp [-a_mSeq, startE, slotOf, e3, e1, c, e2, finG, lents]
  · have e3 : lenD (.frl (ns.map D.int)) = some (.int (ns.length : Int)) := by simp [lenD]
    let z0 : Int := 60037 * ((k : Int) * k + 7 * k + 5) % 1000000087
    have hkk : (k : Int) * k ≤ 1000 * 1000 := by
      have : k * k ≤ 1000 * 1000 := Nat.mul_le_mul hk hk
      exact_mod_cast this
    have hk0 : (0 : Int) ≤ (k : Int) * k := by exact_mod_cast Nat.zero_le (k * k)
    have m1 : mulE (.int (k : Int)) (.int (k : Int)) = some (.int ((k : Int) * k)) := by
      simp only [mulE, mulD]; rw [if_pos ⟨by unfold big; omega, by unfold big; omega⟩]
    have m2 : mulE (.int 7) (.int (k : Int)) = some (.int (7 * k)) := by
      simp only [mulE, mulD]; rw [if_pos ⟨by unfold big; decide, by unfold big; omega⟩]
    have m3 : mulE (.int 60037) (.int ((k : Int) * k + 7 * k + 5)) = some (.int (60037 * ((k : Int) * k + 7 * k + 5))) := by
      simp only [mulE, mulD]; rw [if_pos ⟨by unfold big; decide, by unfold big; omega⟩]
    have a1 : ∀ x y : Int, addD (.int x) (.int y) = some (.int (x + y)) := fun _ _ => rfl
    have d1 : ∀ x : Int, modD (.int x) (.int 1000000087) = some (.int (x % 1000000087)) := fun x => by simp [modD]
    let E : Int → Option D → VEnv := fun z o => [some (Sl.val (.frl (ns.map D.int))), some (Sl.val (.int k)), some (Sl.val (.int z)), o.map Sl.val]
    have sl : slD (.frl (ns.map D.int)) none (some 4) = some (.lst ((ns.take 4).map D.int)) := by
      simp only [slD, cutD, HT.sIx]
      rw [List.drop_zero]
      simp only [show ¬ ((4 : Int) < 0) by decide, if_false]
      congr 2
      rw [← List.map_take]
      congr 1
      rw [List.length_map]
      have : min (Int.toNat 4) ns.length - 0 = min 4 ns.length := by simp
      rw [this]
      by_cases h4 : 4 ≤ ns.length
      · rw [Nat.min_eq_left h4]
      · rw [Nat.min_eq_right (by omega), List.take_of_length_le (Nat.le_refl _), List.take_of_length_le (by omega)]
    obtain ⟨ρ', l1, z, o, l2, l3, rfl⟩ := forGo_inv0 (t := setV 3) (body := (mAsg (mOp modD (mOp addD (mOp mulE (mVar 2) (mC (.int 30013))) (mVar 3)) (mC (.int 1000000087))) (setV 2))) (fun _ ρ => ∃ (z : Int) (o : Option D), 0 ≤ z ∧ z < 1000000087 ∧ ρ = E z o)
      ((ns.take 4).map D.int) (E z0 none) ⟨z0, none, Int.emod_nonneg _ (by decide), Int.emod_lt_of_pos _ (by decide), rfl⟩ (by
        rintro j d ρ hd ⟨z, o, b1, b2, rfl⟩
        rw [List.getElem?_map] at hd
        cases q : (ns.take 4)[j]? with
        | none => rw [q] at hd; cases hd
        | some y =>
          rw [q] at hd
          cases hd
          have m4 : mulE (.int z) (.int 30013) = some (.int (z * 30013)) := by
            simp only [mulE, mulD]; rw [if_pos ⟨by unfold big; omega, by unfold big; decide⟩]
          refine ⟨E z (some (.int y)), E ((z * 30013 + y) % 1000000087) (some (.int y)), by simp [E], .inl (by simp [E, m4, a1, d1]), _, _, Int.emod_nonneg _ (by decide), Int.emod_lt_of_pos _ (by decide), rfl⟩)
    refine ⟨z, ?_⟩
    have c' : ¬ ((k : Int) < ns.length) := by omega
    have s1 : ∀ k', mSeq (mIfS (mTest (mOp ltD (mVar 1) (mCall1 lenD (mVar 0)))) (mRet (mOp ixD (mVar 0) (mVar 1))) mNext) k' (startE 4 [.v (.frl (ns.map D.int)), .v (.int k)]) = k' [some (Sl.val (.frl (ns.map D.int))), some (Sl.val (.int k)), none, none] := fun k' => seq_nx (by simp [startE, slotOf, e3, e1, c])
    have s2 : ∀ k', mSeq (mAsg (mOp modD (mOp mulE (mC (.int 60037)) (mOp addD (mOp addD (mOp mulE (mVar 1) (mVar 1)) (mOp mulE (mC (.int 7)) (mVar 1))) (mC (.int 5)))) (mC (.int 1000000087))) (setV 2)) k' [some (Sl.val (.frl (ns.map D.int))), some (Sl.val (.int k)), none, none] = k' (E z0 none) := fun k' => seq_nx (by simp [m1, m2, m3, a1, d1, E, z0])
    rw [g_l_cell, runG_fin, h_l_cell, s1, s2, a_mSeq, a_mFor, a_mSeqOf, a_mSlice]
    rw [show mVar 0 (E z0 none) = .ok (.frl (ns.map D.int)) (E z0 none) by simp [E], R.bind_ok, a_mNoPart, R.bind_ok, a_mPart, a_mC, R.bind_ok, R.bind_ok, sl, R.of_some, R.bind_ok, show seqOf (.lst ((ns.take 4).map D.int)) = some ((ns.take 4).map D.int) from rfl, R.of_some, thenL_ok, l1]
    simp [E, finG, lents]
end K03
set_option maxHeartbeats 2000000
namespace VS
open PySem L2
section
variable {α β : Type} {Q : α → VEnv → Prop} {E : EX} {N : VEnv → Prop} {Z : RS → Prop} {ρ ρ' ρ0 : VEnv} {P P' : Prop}
theorem wC_ext {p : Prop} (h : P = P') : wC p P = wC p P' := by subst h; rfl
/-! ### targets -/
def tupN (n : Nat) : D → Option (List D)
  | .tup ds => if ds.length = n then some ds else none
  | _ => none
@[simp ↓] theorem wtg_tup (n : Nat) (t : List D → VEnv → Option VEnv) (d : D) (K : VEnv → Prop) : wO (tgTup n t d ρ) K = wO (tupN n d) fun ds => wO (t ds ρ) K := by
  unfold tgTup tupN
  cases d <;> try rfl
  rename_i ds
  by_cases h : ds.length = n <;> simp [h]
@[simp] theorem tupN_tup (n : Nat) (ds : List D) : tupN n (.tup ds) = if ds.length = n then some ds else none := id rfl
@[simp ↓] theorem wtg_nil (K : VEnv → Prop) : wO (tgNil [] ρ) K = K ρ := id rfl
@[simp ↓] theorem wtg_cons (t : D → VEnv → Option VEnv) (u : List D → VEnv → Option VEnv) (d : D) (ds : List D) (K : VEnv → Prop) : wO (tgCons t u (d :: ds) ρ) K = wO (t d ρ) fun ρ1 => wO (u ds ρ1) K := by
  rw [tgCons]; cases t d ρ <;> rfl
def intD : D → Option Int
  | .int i => some i
  | _ => none
@[simp] theorem intD_int (i : Int) : intD (.int i) = some i := id rfl
@[simp ↓] theorem wtg_item (i : Nat) (gk : Ev D) (d : D) (K : VEnv → Prop) : wO (tgItem i gk d ρ) K = wO (rdLL i ρ) fun _ => wR (gk ρ) (fun y ρ1 => wO (intD y) fun k => wO (rdLL i ρ1) fun p => wP p fun l xs => wO (ixN xs.length k) fun j => wSet i (some (.own l (.lst (xs.set j d)))) ρ1 K) fun _ _ _ => False := by
  have inner : ∀ (y : D) (ρ' : VEnv), wO (match y with
      | .int k => (match ρ'[i]? with
        | some (some (Sl.own l (.lst xs))) => (ixN xs.length k).map fun j => ρ'.set i (some (Sl.own l (.lst (xs.set j d))))
        | _ => none)
      | _ => none) K = wO (intD y) fun k => wO (rdLL i ρ') fun p => wP p fun l xs => wO (ixN xs.length k) fun j => wSet i (some (.own l (.lst (xs.set j d)))) ρ' K := by
    intro y ρ'
    cases y with
    | int k =>
      simp only [intD_int, wO_some]
      unfold rdLL rdL wSet
      generalize ρ'[i]? = o
      rcases o with _ | (_ | (e | ⟨l, m⟩))
      · rfl
      · rfl
      · rfl
      · cases m with
        | lst xs => simp only [Option.bind_some, lstOf_l, wO_some, wP_mk]; cases ixN xs.length k <;> rfl
        | _ => rfl
    | _ => rfl
  have e : wO (rdLL i ρ) (fun _ => wR (gk ρ) (fun y ρ1 => wO (intD y) fun k => wO (rdLL i ρ1) fun p => wP p fun l xs => wO (ixN xs.length k) fun j => wSet i (some (.own l (.lst (xs.set j d)))) ρ1 K) fun _ _ _ => False) =
      wO (rdLL i ρ) (fun _ => wO (match gk ρ with
    | .ok (.int k) ρ' => match ρ'[i]? with
      | some (some (Sl.own l (.lst xs))) => (ixN xs.length k).map fun j => ρ'.set i (some (Sl.own l (.lst (xs.set j d))))
      | _ => none
    | _ => none) K) := by
    refine wO_ext fun _ => ?_
    cases gk ρ with
    | stuck => rfl
    | ex c ds ρ1 => rfl
    | ok y ρ1 => rw [wR_ok, ← inner]; cases y <;> rfl
  rw [e]
  unfold tgItem rdLL rdL
  generalize ρ[i]? = o
  rcases o with _ | (_ | (e | ⟨l, m⟩))
  · rfl
  · rfl
  · rfl
  · cases m <;> rfl
def dctOf (p : Bool × MO) : Option (Bool × List (Key × D)) := match p with
  | (l, .dct xs) => some (l, xs)
  | _ => none
@[simp] theorem dctOf_d (l : Bool) (xs : List (Key × D)) : dctOf (l, .dct xs) = some (l, xs) := id rfl
def rdDD (i : Nat) (ρ : VEnv) : Option (Bool × List (Key × D)) := (rdL i ρ).bind dctOf
@[simp ↓] theorem rdDD_ (i : Nat) (K : Bool × List (Key × D) → Prop) : wO (rdDD i ρ) K = wO (rdL i ρ) fun p => wO (dctOf p) K := by
  unfold rdDD; cases rdL i ρ <;> rfl
@[simp ↓] theorem wtg_put (i : Nat) (gk : Ev D) (d : D) (K : VEnv → Prop) : wO (tgPut i gk d ρ) K = wO (rdDD i ρ) fun _ => wR (gk ρ) (fun y ρ1 => wO (rdDD i ρ1) fun p => wP p fun l kvs => wO (keyD y) fun k => wC (kvs.length < lim) (wSet i (some (.own l (.dct (putD kvs k d)))) ρ1 K)) fun _ _ _ => False := by
  have inner : ∀ (y : D) (ρ' : VEnv), wO (match ρ'[i]? with
        | some (some (Sl.own l (.dct kvs))) => (keyD y).bind fun k => if kvs.length < lim then some (ρ'.set i (some (Sl.own l (.dct (putD kvs k d))))) else none
        | _ => none) K = wO (rdDD i ρ') fun p => wP p fun l kvs => wO (keyD y) fun k => wC (kvs.length < lim) (wSet i (some (.own l (.dct (putD kvs k d)))) ρ' K) := by
    intro y ρ'
    unfold rdDD rdL wSet
    generalize ρ'[i]? = o
    rcases o with _ | (_ | (e | ⟨l, m⟩))
    · rfl
    · rfl
    · rfl
    · cases m with
      | dct xs =>
        simp only [Option.bind_some, dctOf_d, wO_some, wP_mk]
        cases keyD y with
        | none => rfl
        | some k =>
          simp only [Option.bind_some, wO_some]
          by_cases h : xs.length < lim
          · simp only [h, if_true, wO_some, wC_true]
          · simp only [h, if_false, wO_none, wC_false]
      | _ => rfl
  have e : wO (rdDD i ρ) (fun _ => wR (gk ρ) (fun y ρ1 => wO (rdDD i ρ1) fun p => wP p fun l kvs => wO (keyD y) fun k => wC (kvs.length < lim) (wSet i (some (.own l (.dct (putD kvs k d)))) ρ1 K)) fun _ _ _ => False) =
      wO (rdDD i ρ) (fun _ => wO (match gk ρ with
    | .ok y ρ' => match ρ'[i]? with
      | some (some (Sl.own l (.dct kvs))) => (keyD y).bind fun k => if kvs.length < lim then some (ρ'.set i (some (Sl.own l (.dct (putD kvs k d))))) else none
      | _ => none
    | _ => none) K) := by
    refine wO_ext fun _ => ?_
    cases gk ρ with
    | stuck => rfl
    | ex c ds ρ1 => rfl
    | ok y ρ1 => rw [wR_ok, ← inner]
  rw [e]
  unfold tgPut rdDD rdL
  generalize ρ[i]? = o
  rcases o with _ | (_ | (e | ⟨l, m⟩))
  · rfl
  · rfl
  · rfl
  · cases m <;> rfl
/-! ### own objects -/
def insOf (c : Nat) (p : Bool × MO) : Option (Bool × List D) := match p with
  | (l, .ins c' xs) => if c' = c then some (l, xs) else none
  | _ => none
@[simp] theorem insOf_i (c c' : Nat) (l : Bool) (xs : List D) : insOf c (l, .ins c' xs) = if c' = c then some (l, xs) else none := id rfl
@[simp ↓] theorem w_fldS (i c j : Nat) (g : Ev D) : wS (mFldS i c j g ρ) N Z = wR (g ρ) (fun d ρ1 => wO (rdL i ρ1) fun p => wO (insOf c p) fun q => wP q fun l xs => wO (putAt xs j d) fun ys => wSet i (some (.own l (.ins c ys))) ρ1 N) fun c ds ρ1 => Z (.ex c ds ρ1) := by
  unfold mFldS
  rw [wS_thenS]
  refine wR_ext fun d ρ1 => ?_
  unfold rdL wSet
  generalize ρ1[i]? = o
  rcases o with _ | (_ | (e | ⟨l, m⟩))
  · rfl
  · rfl
  · rfl
  · cases m with
    | ins c' xs =>
      simp only [wO_some, insOf_i]
      by_cases h : c' = c
      · simp only [h, if_true, wO_some, wP_mk]; cases putAt xs j d <;> rfl
      · simp only [h, if_false, wS_stuck, wO_none]
    | _ => rfl
def isIns (c : Nat) : D → Bool
  | .ins c' _ => c' == c
  | _ => false
@[simp] theorem isIns_i (c c' : Nat) (xs : List D) : isIns c (.ins c' xs) = (c' == c) := id rfl
def wMade (r : Res) (ms : List MO) (Q : Res → VEnv → Prop) (E : EX) (ρ : VEnv) : Prop := match r, ms with
  | .ok .non, [m] => Q (.nw m) ρ
  | .ex e xs, [_] => E e xs ρ
  | _, _ => False
@[simp ↓] theorem wMade_ok (m : MO) (Q : Res → VEnv → Prop) : wMade (.ok .non) [m] Q E ρ = Q (.nw m) ρ := id rfl
@[simp ↓] theorem wMade_ex (c : Nat) (d : List D) (m : MO) (Q : Res → VEnv → Prop) : wMade (.ex c d) [m] Q E ρ = E c d ρ := id rfl
@[simp ↓] theorem w_make (G : Fn) (c n : Nat) (dd : List D) (g : Ev (List D)) (Q : Res → VEnv → Prop) : wR (mMake G c n dd g ρ) Q E =
    wR (g ρ) (fun ds ρ1 => wC ((ds ++ dd).length + 1 = n) (wF (G (.l (.ins c []) :: (ds ++ dd).map Arg.v)) fun r ms => wMade r ms Q E ρ1)) E := by
  unfold mMake
  rw [wR_bind]
  refine wR_ext fun ds ρ1 => ?_
  rw [wR_itp]
  refine wC_ext ?_
  cases G (.l (.ins c []) :: (ds ++ dd).map Arg.v) with
  | none => rfl
  | some p =>
    obtain ⟨r, ms⟩ := p
    rw [wF_some]
    rcases r with d | m | ⟨e, xs⟩
    · cases d <;> (rcases ms with _ | ⟨m, _ | _⟩ <;> rfl)
    · rcases ms with _ | ⟨m, _ | _⟩ <;> rfl
    · rcases ms with _ | ⟨m, _ | _⟩ <;> rfl
@[simp ↓] theorem w_meth (G : Fn) (c n : Nat) (dd : List D) (ga : Ev D) (gs : Ev (List D)) (Q : Res → VEnv → Prop) : wR (mMeth G c n dd ga gs ρ) Q E =
    wR (ga ρ) (fun d ρ1 => wB (isIns c d) (wR (gs ρ1) (fun ds ρ2 => wCall G n (AR.v d :: (ds ++ dd).map AR.v) ρ2 Q E) E) False) E := by
  unfold mMeth
  rw [wR_bind]
  refine wR_ext fun d ρ1 => ?_
  cases d with
  | ins c' xs =>
    simp only [isIns_i]
    by_cases h : c' = c
    · subst h
      simp only [if_true, BEq.rfl, wB_true]
      rw [wR_bind]
      exact wR_ext fun ds ρ2 => by rw [w_callR]
    · have : (c' == c) = false := by simp [h]
      simp only [h, if_false, this, wB_false, wR_stuck]
  | _ => rfl
@[simp ↓ high] theorem w_meth' (G : Fn) (c n : Nat) (ga : Ev D) (gs : Ev (List D)) (Q : Res → VEnv → Prop) : wR (mMeth G c n [] ga gs ρ) Q E =
    wR (ga ρ) (fun d ρ1 => wB (isIns c d) (wR (gs ρ1) (fun ds ρ2 => wCall G n (AR.v d :: ds.map AR.v) ρ2 Q E) E) False) E := by
  rw [w_meth]
  refine wR_ext fun d ρ1 => ?_
  cases isIns c d
  · rfl
  · simp only [wB_true]
    exact wR_ext fun ds ρ2 => by rw [List.append_nil]
@[simp ↓ high] theorem w_make' (G : Fn) (c n : Nat) (g : Ev (List D)) (Q : Res → VEnv → Prop) : wR (mMake G c n [] g ρ) Q E =
    wR (g ρ) (fun ds ρ1 => wC (ds.length + 1 = n) (wF (G (.l (.ins c []) :: ds.map Arg.v)) fun r ms => wMade r ms Q E ρ1)) E := by
  rw [w_make]
  exact wR_ext fun ds ρ1 => by rw [List.append_nil]
@[simp ↓] theorem w_meth0 (G : Fn) (c n : Nat) (ga : Ev D) (Q : Res → VEnv → Prop) : wR (mMeth0 G c n ga ρ) Q E =
    wR (ga ρ) (fun d ρ1 => wB (isIns c d) (wCall G n [AR.v d] ρ1 Q E) False) E := by
  unfold mMeth0
  rw [wR_bind]
  refine wR_ext fun d ρ1 => ?_
  cases d with
  | ins c' xs =>
    simp only [isIns_i]
    by_cases h : c' = c
    · subst h; simp only [if_true, BEq.rfl, wB_true]; rw [w_callR]
    · have : (c' == c) = false := by simp [h]
      simp only [h, if_false, this, wB_false, wR_stuck]
  | _ => rfl
/-! ### the rest -/
def enumD : D → Option (List D)
  | .lst xs => some (enumFrom 0 xs)
  | .frl xs => some (enumFrom 0 xs)
  | .tup xs => some (enumFrom 0 xs)
  | _ => none
@[simp] theorem enumD_t (xs : List D) : enumD (.tup xs) = some (enumFrom 0 xs) := id rfl
@[simp] theorem enumD_l (xs : List D) : enumD (.lst xs) = some (enumFrom 0 xs) := id rfl
@[simp] theorem enumD_f (xs : List D) : enumD (.frl xs) = some (enumFrom 0 xs) := id rfl
@[simp ↓] theorem w_enumE (g : Ev D) (Q : List D → VEnv → Prop) : wR (mEnumE g ρ) Q E = wR (g ρ) (fun d ρ1 => wO (enumD d) fun ds => Q ds ρ1) E := by
  unfold mEnumE; rw [wR_bind]; exact wR_ext fun d ρ1 => by cases d <;> rfl
@[simp ↓] theorem w_listO (g : Ev D) (Q : MO → VEnv → Prop) : wR (mListO g ρ) Q E = wR (g ρ) (fun d ρ1 => wO (listO d) fun m => Q m ρ1) E := by unfold mListO; rw [wR_bind]; exact wR_ext fun _ _ => wR_of
@[simp ↓] theorem w_addO (ga gb : Ev D) (Q : MO → VEnv → Prop) : wR (mAddO ga gb ρ) Q E = wR (ga ρ) (fun x ρ1 => wR (gb ρ1) (fun y ρ2 => wO (addO x y) fun m => Q m ρ2) E) E := by unfold mAddO; rw [wR_bind]; exact wR_ext fun _ _ => by rw [wR_bind]; exact wR_ext fun _ _ => wR_of
@[simp ↓] theorem w_addL (i : Nat) (gb : Ev D) (Q : MO → VEnv → Prop) : wR (mAddL i gb ρ) Q E = wO (rdO i ρ) fun _ => wR (gb ρ) (fun y ρ1 => wO (rdO i ρ1) fun m => wO (addO m.frz y) fun z => Q z ρ1) E := by
  have inner : ∀ (y : D) (ρ' : VEnv), wR (match ρ'[i]? with
    | some (some (Sl.own _ m)) => R.of (addO m.frz y) ρ'
    | _ => .stuck) Q E = wO (rdO i ρ') fun m => wO (addO m.frz y) fun z => Q z ρ' := by
    intro y ρ'
    unfold rdO
    generalize ρ'[i]? = o
    rcases o with _ | (_ | (e | ⟨l, m⟩))
    · rfl
    · rfl
    · rfl
    · rw [wO_some, wR_of]
  unfold mAddL
  have e : wO (rdO i ρ) (fun _ => wR (gb ρ) (fun y ρ1 => wO (rdO i ρ1) fun m => wO (addO m.frz y) fun z => Q z ρ1) E) = wO (rdO i ρ) (fun _ => wR ((gb ρ).bind fun y ρ1 => match ρ1[i]? with
    | some (some (Sl.own _ m)) => R.of (addO m.frz y) ρ1
    | _ => .stuck) Q E) := by
    refine wO_ext fun _ => ?_
    rw [wR_bind]
    exact wR_ext fun y ρ1 => (inner y ρ1).symm
  rw [e]
  unfold rdO
  generalize ρ[i]? = o
  rcases o with _ | (_ | (e | ⟨l, m⟩)) <;> rfl
/-- a while by what holds ahead of each turn and a measure -/
theorem while_inv {t : Ev Bool} {body : VEnv → RS} (I : Nat → VEnv → Prop) (n : Nat) (h0 : I n ρ)
    (step : ∀ n ρ, I n ρ → wR (t ρ) (fun b ρ1 => wB b (wS (body ρ1) (fun ρ2 => Hide (∃ k, k < n ∧ I k ρ2)) (wTurn (fun ρ2 => Hide (∃ k, k < n ∧ I k ρ2)) N Z)) (N ρ1)) fun c ds ρ1 => Z (.ex c ds ρ1)) : wS (mWhile t body ρ) N Z := by
  have gen : ∀ (n : Nat) (ρ : VEnv), I n ρ → ∃ m, whileGo t body m ρ ≠ .stuck ∧ wS (whileGo t body m ρ) N Z := by
    intro n
    induction n using Nat.strongRecOn with
    | _ n ih =>
      intro ρ h
      have s := step n ρ h
      cases q : t ρ with
      | stuck => rw [q] at s; exact s.elim
      | ex c ds ρ1 => rw [q] at s; exact ⟨1, by simp [whileGo, q], by simp only [whileGo, q]; exact s⟩
      | ok b ρ1 =>
        rw [q] at s
        simp only [wR_ok] at s
        cases b with
        | false => exact ⟨1, by simp [whileGo, q], by simp only [whileGo, q]; simpa using s⟩
        | true =>
          simp only [wB_true] at s
          cases q2 : body ρ1 with
          | stuck => rw [q2] at s; exact s.elim
          | nx ρ2 =>
            rw [q2] at s
            obtain ⟨k, hk, hi⟩ := s
            obtain ⟨m, h1, h2⟩ := ih k hk ρ2 hi
            exact ⟨m + 1, by simp only [whileGo, q, q2]; exact h1, by simp only [whileGo, q, q2]; exact h2⟩
          | ct ρ2 =>
            rw [q2] at s
            obtain ⟨k, hk, hi⟩ := s
            obtain ⟨m, h1, h2⟩ := ih k hk ρ2 hi
            exact ⟨m + 1, by simp only [whileGo, q, q2]; exact h1, by simp only [whileGo, q, q2]; exact h2⟩
          | bk ρ2 => rw [q2] at s; exact ⟨1, by simp [whileGo, q, q2], by simp only [whileGo, q, q2]; exact s⟩
          | rt d ρ2 => rw [q2] at s; exact ⟨1, by simp [whileGo, q, q2], by simp only [whileGo, q, q2]; exact s⟩
          | rn d ρ2 => rw [q2] at s; exact ⟨1, by simp [whileGo, q, q2], by simp only [whileGo, q, q2]; exact s⟩
          | ex c d ρ2 => rw [q2] at s; exact ⟨1, by simp [whileGo, q, q2], by simp only [whileGo, q, q2]; exact s⟩
  have det : ∀ (m k : Nat) (ρ : VEnv), whileGo t body m ρ ≠ .stuck → whileGo t body k ρ ≠ .stuck → whileGo t body m ρ = whileGo t body k ρ := by
    intro m
    induction m with
    | zero => intro k ρ h; exact absurd rfl h
    | succ m ih =>
      intro k ρ h1 h2
      cases k with
      | zero => exact absurd rfl h2
      | succ k =>
        simp only [whileGo] at h1 h2 ⊢
        cases q : t ρ with
        | stuck => rfl
        | ex c ds ρ1 => rfl
        | ok b ρ1 =>
          cases b with
          | false => rfl
          | true =>
            simp only [q] at h1 h2 ⊢
            cases q2 : body ρ1 with
            | nx ρ2 => simp only [q2] at h1 h2 ⊢; exact ih k ρ2 h1 h2
            | ct ρ2 => simp only [q2] at h1 h2 ⊢; exact ih k ρ2 h1 h2
            | _ => rfl
  obtain ⟨m, h1, h2⟩ := gen n ρ h0
  have hex : ∃ n, whileGo t body n ρ ≠ .stuck := ⟨m, h1⟩
  unfold mWhile
  rw [dif_pos hex, det _ m ρ hex.choose_spec h1]
  exact h2
end
end VS
set_option maxHeartbeats 2000000
namespace VS
open PySem L2
/-! ### data: what the operations answer -/
@[simp] theorem isi_int_non  : isiB "int" .non = some false := by decide +kernel
@[simp] theorem isi_int_bl (b : Bool) : isiB "int" (.bl b) = some true := show kitB "bool" "int" = _ by decide +kernel
@[simp] theorem isi_int_int (b : Int) : isiB "int" (.int b) = some true := show kitB "int" "int" = _ by decide +kernel
@[simp] theorem isi_int_str (b : Str) : isiB "int" (.str b) = some false := show kitB "str" "int" = _ by decide +kernel
@[simp] theorem isi_int_tup (b : List D) : isiB "int" (.tup b) = some false := show kitB "tuple" "int" = _ by decide +kernel
@[simp] theorem isi_int_lst (b : List D) : isiB "int" (.lst b) = some false := show kitB "list" "int" = _ by decide +kernel
@[simp] theorem isi_int_frl (b : List D) : isiB "int" (.frl b) = some false := show kitB "list" "int" = _ by decide +kernel
@[simp] theorem isi_int_dct (b : List (Key × D)) : isiB "int" (.dct b) = some false := show kitB "dict" "int" = _ by decide +kernel
@[simp] theorem isi_str_non  : isiB "str" .non = some false := by decide +kernel
@[simp] theorem isi_str_bl (b : Bool) : isiB "str" (.bl b) = some false := show kitB "bool" "str" = _ by decide +kernel
@[simp] theorem isi_str_int (b : Int) : isiB "str" (.int b) = some false := show kitB "int" "str" = _ by decide +kernel
@[simp] theorem isi_str_str (b : Str) : isiB "str" (.str b) = some true := show kitB "str" "str" = _ by decide +kernel
@[simp] theorem isi_str_tup (b : List D) : isiB "str" (.tup b) = some false := show kitB "tuple" "str" = _ by decide +kernel
@[simp] theorem isi_str_lst (b : List D) : isiB "str" (.lst b) = some false := show kitB "list" "str" = _ by decide +kernel
@[simp] theorem isi_str_frl (b : List D) : isiB "str" (.frl b) = some false := show kitB "list" "str" = _ by decide +kernel
@[simp] theorem isi_str_dct (b : List (Key × D)) : isiB "str" (.dct b) = some false := show kitB "dict" "str" = _ by decide +kernel
@[simp] theorem isi_bool_non  : isiB "bool" .non = some false := by decide +kernel
@[simp] theorem isi_bool_bl (b : Bool) : isiB "bool" (.bl b) = some true := show kitB "bool" "bool" = _ by decide +kernel
@[simp] theorem isi_bool_int (b : Int) : isiB "bool" (.int b) = some false := show kitB "int" "bool" = _ by decide +kernel
@[simp] theorem isi_bool_str (b : Str) : isiB "bool" (.str b) = some false := show kitB "str" "bool" = _ by decide +kernel
@[simp] theorem isi_bool_tup (b : List D) : isiB "bool" (.tup b) = some false := show kitB "tuple" "bool" = _ by decide +kernel
@[simp] theorem isi_bool_lst (b : List D) : isiB "bool" (.lst b) = some false := show kitB "list" "bool" = _ by decide +kernel
@[simp] theorem isi_bool_frl (b : List D) : isiB "bool" (.frl b) = some false := show kitB "list" "bool" = _ by decide +kernel
@[simp] theorem isi_bool_dct (b : List (Key × D)) : isiB "bool" (.dct b) = some false := show kitB "dict" "bool" = _ by decide +kernel
@[simp] theorem isi_tuple_non  : isiB "tuple" .non = some false := by decide +kernel
@[simp] theorem isi_tuple_bl (b : Bool) : isiB "tuple" (.bl b) = some false := show kitB "bool" "tuple" = _ by decide +kernel
@[simp] theorem isi_tuple_int (b : Int) : isiB "tuple" (.int b) = some false := show kitB "int" "tuple" = _ by decide +kernel
@[simp] theorem isi_tuple_str (b : Str) : isiB "tuple" (.str b) = some false := show kitB "str" "tuple" = _ by decide +kernel
@[simp] theorem isi_tuple_tup (b : List D) : isiB "tuple" (.tup b) = some true := show kitB "tuple" "tuple" = _ by decide +kernel
@[simp] theorem isi_tuple_lst (b : List D) : isiB "tuple" (.lst b) = some false := show kitB "list" "tuple" = _ by decide +kernel
@[simp] theorem isi_tuple_frl (b : List D) : isiB "tuple" (.frl b) = some false := show kitB "list" "tuple" = _ by decide +kernel
@[simp] theorem isi_tuple_dct (b : List (Key × D)) : isiB "tuple" (.dct b) = some false := show kitB "dict" "tuple" = _ by decide +kernel
@[simp] theorem isi_list_non  : isiB "list" .non = some false := by decide +kernel
@[simp] theorem isi_list_bl (b : Bool) : isiB "list" (.bl b) = some false := show kitB "bool" "list" = _ by decide +kernel
@[simp] theorem isi_list_int (b : Int) : isiB "list" (.int b) = some false := show kitB "int" "list" = _ by decide +kernel
@[simp] theorem isi_list_str (b : Str) : isiB "list" (.str b) = some false := show kitB "str" "list" = _ by decide +kernel
@[simp] theorem isi_list_tup (b : List D) : isiB "list" (.tup b) = some false := show kitB "tuple" "list" = _ by decide +kernel
@[simp] theorem isi_list_lst (b : List D) : isiB "list" (.lst b) = some true := show kitB "list" "list" = _ by decide +kernel
@[simp] theorem isi_list_frl (b : List D) : isiB "list" (.frl b) = some true := show kitB "list" "list" = _ by decide +kernel
@[simp] theorem isi_list_dct (b : List (Key × D)) : isiB "list" (.dct b) = some false := show kitB "dict" "list" = _ by decide +kernel
@[simp] theorem isi_dict_non  : isiB "dict" .non = some false := by decide +kernel
@[simp] theorem isi_dict_bl (b : Bool) : isiB "dict" (.bl b) = some false := show kitB "bool" "dict" = _ by decide +kernel
@[simp] theorem isi_dict_int (b : Int) : isiB "dict" (.int b) = some false := show kitB "int" "dict" = _ by decide +kernel
@[simp] theorem isi_dict_str (b : Str) : isiB "dict" (.str b) = some false := show kitB "str" "dict" = _ by decide +kernel
@[simp] theorem isi_dict_tup (b : List D) : isiB "dict" (.tup b) = some false := show kitB "tuple" "dict" = _ by decide +kernel
@[simp] theorem isi_dict_lst (b : List D) : isiB "dict" (.lst b) = some false := show kitB "list" "dict" = _ by decide +kernel
@[simp] theorem isi_dict_frl (b : List D) : isiB "dict" (.frl b) = some false := show kitB "list" "dict" = _ by decide +kernel
@[simp] theorem isi_dict_dct (b : List (Key × D)) : isiB "dict" (.dct b) = some true := show kitB "dict" "dict" = _ by decide +kernel
@[simp] theorem isiC_ins (c c' : Nat) (xs : List D) : isiC c (.ins c' xs) = if c' = c then some true else none := id rfl
@[simp] theorem isiC_non (c : Nat) : isiC c .non = some false := id rfl
@[simp] theorem isiC_bl (c : Nat) (b : Bool) : isiC c (.bl b) = some false := id rfl
@[simp] theorem isiC_int (c : Nat) (b : Int) : isiC c (.int b) = some false := id rfl
@[simp] theorem isiC_str (c : Nat) (b : Str) : isiC c (.str b) = some false := id rfl
@[simp] theorem isiC_tup (c : Nat) (b : List D) : isiC c (.tup b) = some false := id rfl
@[simp] theorem isiC_lst (c : Nat) (b : List D) : isiC c (.lst b) = some false := id rfl
@[simp] theorem isiC_dct (c : Nat) (b : List (Key × D)) : isiC c (.dct b) = some false := id rfl
/-! numbers -/
@[simp] theorem add_int (i j : Int) : addD (.int i) (.int j) = some (.int (i + j)) := id rfl
@[simp] theorem add_str (i j : Str) : addD (.str i) (.str j) = if i.length + j.length ≤ lim then some (.str (i ++ j)) else none := id rfl
@[simp] theorem add_tup (i j : List D) : addD (.tup i) (.tup j) = if i.length + j.length ≤ lim then some (.tup (i ++ j)) else none := id rfl
@[simp] theorem add_lst (i j : List D) : addD (.lst i) (.lst j) = if i.length + j.length ≤ lim then some (.lst (i ++ j)) else none := id rfl
@[simp] theorem sub_int (i j : Int) : subD (.int i) (.int j) = some (.int (i - j)) := id rfl
@[simp] theorem mod_int (i j : Int) : modD (.int i) (.int j) = if 0 < j then some (.int (i % j)) else none := id rfl
@[simp] theorem fdiv_int (i j : Int) : fdivD (.int i) (.int j) = if 0 < j ∧ j.natAbs < big then some (.int (i / j)) else none := id rfl
@[simp] theorem mul_int (i j : Int) : mulE (.int i) (.int j) = if i.natAbs < big ∧ j.natAbs < big then some (.int (i * j)) else none := id rfl
@[simp] theorem lt_int (i j : Int) : ltD (.int i) (.int j) = some (.bl (decide (i < j))) := id rfl
@[simp] theorem le_int (i j : Int) : leD (.int i) (.int j) = some (.bl (decide (i ≤ j))) := id rfl
@[simp] theorem gt_int (i j : Int) : gtD (.int i) (.int j) = some (.bl (decide (j < i))) := id rfl
@[simp] theorem ge_int (i j : Int) : geD (.int i) (.int j) = some (.bl (decide (j ≤ i))) := id rfl
@[simp] theorem lt_str (i j : Str) : ltD (.str i) (.str j) = some (.bl (decide (i.cps.toList < j.cps.toList))) := id rfl
@[simp] theorem le_str (i j : Str) : leD (.str i) (.str j) = some (.bl (!decide (j.cps.toList < i.cps.toList))) := id rfl
@[simp] theorem neg_int (i : Int) : negD (.int i) = some (.int (-i)) := id rfl
@[simp] theorem lim_le_m (n : Nat) : (n ≤ lim) = (n ≤ 16000000) := id rfl
@[simp] theorem lim_lt_m (n : Nat) : (n < lim) = (n < 16000000) := id rfl
/-! truth -/
@[simp] theorem tru_non : truD .non = some false := id rfl
@[simp] theorem tru_bl (b : Bool) : truD (.bl b) = some b := id rfl
@[simp] theorem tru_int (b : Int) : truD (.int b) = some (b != 0) := id rfl
@[simp] theorem tru_tup (b : List D) : truD (.tup b) = some (!b.isEmpty) := id rfl
@[simp] theorem tru_lst (b : List D) : truD (.lst b) = some (!b.isEmpty) := id rfl
@[simp] theorem tru_dct (b : List (Key × D)) : truD (.dct b) = some (!b.isEmpty) := id rfl
@[simp] theorem isN_non (x : D) : isND x .non = some (.bl (isNone x)) := id rfl
@[simp] theorem notN_non (x : D) : notND x .non = some (.bl (!isNone x)) := id rfl
@[simp] theorem isNone_non : isNone .non = true := id rfl
@[simp] theorem isNone_int (i : Int) : isNone (.int i) = false := id rfl
@[simp] theorem isNone_str (i : Str) : isNone (.str i) = false := id rfl
@[simp] theorem isNone_tup (i : List D) : isNone (.tup i) = false := id rfl
@[simp] theorem isNone_lst (i : List D) : isNone (.lst i) = false := id rfl
@[simp] theorem isNone_bl (i : Bool) : isNone (.bl i) = false := id rfl
/-! sequences -/
@[simp] theorem len_tup (xs : List D) : lenD (.tup xs) = some (.int xs.length) := id rfl
@[simp] theorem len_lst (xs : List D) : lenD (.lst xs) = some (.int xs.length) := id rfl
@[simp] theorem len_frl (xs : List D) : lenD (.frl xs) = some (.int xs.length) := id rfl
@[simp] theorem len_dct (xs : List (Key × D)) : lenD (.dct xs) = some (.int xs.length) := id rfl
@[simp] theorem len_str (x : Str) : lenD (.str x) = if x.length ≤ lim then some (.int x.length) else none := id rfl
@[simp] theorem ix_tup (xs : List D) (i : Int) : ixD (.tup xs) (.int i) = atI xs i := id rfl
@[simp] theorem ix_lst (xs : List D) (i : Int) : ixD (.lst xs) (.int i) = atI xs i := id rfl
@[simp] theorem ix_frl (xs : List D) (i : Int) : ixD (.frl xs) (.int i) = atI xs i := id rfl
@[simp] theorem ix_dct (xs : List (Key × D)) (y : D) : ixD (.dct xs) y = (keyD y).bind fun k => valD xs k := id rfl
@[simp] theorem key_int (i : Int) : keyD (.int i) = some (.inl i) := id rfl
@[simp] theorem key_str (i : Str) : keyD (.str i) = some (.inr i) := id rfl
theorem atI_n {α : Type} (xs : List α) (n : Nat) : atI xs (n : Int) = xs[n]? := by
  unfold atI ixN
  by_cases h : n < xs.length
  · rw [if_pos (by omega), if_pos (by omega)]; simp
  · rw [if_pos (by omega), if_neg (by omega)]; simp; omega
@[simp] theorem atI_nat {α : Type} (xs : List α) (n : Nat) : atI xs (n : Int) = xs[n]? := atI_n xs n
@[simp] theorem atI_0 {α : Type} (xs : List α) : atI xs 0 = xs[0]? := atI_n xs 0
@[simp] theorem atI_1 {α : Type} (xs : List α) : atI xs 1 = xs[1]? := atI_n xs 1
@[simp] theorem atI_lit {α : Type} (xs : List α) (n : Nat) : atI xs (no_index (OfNat.ofNat n : Int)) = xs[(OfNat.ofNat n : Nat)]? := atI_n xs n
@[simp] theorem atI_neg1 {α : Type} (xs : List α) : atI xs (-1) = xs.getLast? := by
  unfold atI ixN
  cases xs with
  | nil => simp
  | cons x xs => rw [if_neg (by omega), if_pos (by simp; omega), List.getLast?_eq_getElem?]; simp; rw [show ((-1 : Int) + (xs.length + 1)).toNat = xs.length by omega]; simp
theorem atI_pos {α : Type} (xs : List α) {i : Int} (h : 0 ≤ i) : atI xs i = xs[i.toNat]? := by
  obtain ⟨n, rfl⟩ := Int.eq_ofNat_of_zero_le h
  simp [atI_n]
@[simp] theorem ixN_nat (m n : Nat) : ixN m (n : Int) = if n < m then some n else none := by
  unfold ixN
  by_cases h : n < m
  · rw [if_pos (by omega), if_pos (by omega), if_pos h]; simp
  · rw [if_pos (by omega), if_neg (by omega), if_neg h]
@[simp] theorem ixN_0 (m : Nat) : ixN m 0 = if 0 < m then some 0 else none := ixN_nat m 0
@[simp] theorem ixN_1 (m : Nat) : ixN m 1 = if 1 < m then some 1 else none := ixN_nat m 1
@[simp] theorem ixN_lit (m n : Nat) : ixN m (no_index (OfNat.ofNat n : Int)) = if (OfNat.ofNat n : Nat) < m then some (OfNat.ofNat n) else none := ixN_nat m n
@[simp] theorem seq_tup (xs : List D) : seqOf (.tup xs) = some xs := id rfl
@[simp] theorem seq_lst (xs : List D) : seqOf (.lst xs) = some xs := id rfl
@[simp] theorem seq_frl (xs : List D) : seqOf (.frl xs) = some xs := id rfl
@[simp] theorem seq_str (x : Str) : seqOf (.str x) = some (signs x) := id rfl
@[simp] theorem zip_tup (xs ys : List D) : zipD (.tup xs) (.tup ys) = some ((xs.zip ys).map fun q => .tup [q.1, q.2]) := id rfl
@[simp] theorem zip_lst (xs ys : List D) : zipD (.lst xs) (.lst ys) = some ((xs.zip ys).map fun q => .tup [q.1, q.2]) := id rfl
@[simp] theorem tuple_lst (xs : List D) : tupleE (.lst xs) = some (.tup xs) := id rfl
@[simp] theorem tuple_tup (xs : List D) : tupleE (.tup xs) = some (.tup xs) := id rfl
@[simp] theorem list_lst (xs : List D) : listD (.lst xs) = some (.lst xs) := id rfl
@[simp] theorem list_tup (xs : List D) : listD (.tup xs) = some (.lst xs) := id rfl
@[simp] theorem listO_lst (xs : List D) : listO (.lst xs) = some (.lst xs) := id rfl
@[simp] theorem listO_tup (xs : List D) : listO (.tup xs) = some (.lst xs) := id rfl
@[simp] theorem addO_lst (i j : List D) : addO (.lst i) (.lst j) = if i.length + j.length ≤ lim then some (.lst (i ++ j)) else none := id rfl
@[simp] theorem rev_lst (xs : List D) : revD (.lst xs) = some (.lst xs.reverse) := id rfl
@[simp] theorem rev_tup (xs : List D) : revD (.tup xs) = some (.tup xs.reverse) := id rfl
@[simp] theorem sl_tup (xs : List D) (lo hi : Option Int) : slD (.tup xs) lo hi = some (.tup (cutD xs lo hi)) := id rfl
@[simp] theorem sl_lst (xs : List D) (lo hi : Option Int) : slD (.lst xs) lo hi = some (.lst (cutD xs lo hi)) := id rfl
@[simp] theorem sl_frl (xs : List D) (lo hi : Option Int) : slD (.frl xs) lo hi = some (.lst (cutD xs lo hi)) := id rfl
@[simp] theorem bls_map {α : Type} (f : α → Bool) : ∀ xs : List α, blsOf (xs.map fun x => .bl (f x)) = some (xs.map f)
  | [] => rfl
  | x :: xs => by rw [List.map_cons, blsOf, bls_map f xs]; rfl
@[simp] theorem ints_map {α : Type} (f : α → Int) : ∀ xs : List α, intsOf (xs.map fun x => .int (f x)) = some (xs.map f)
  | [] => rfl
  | x :: xs => by rw [List.map_cons, intsOf, ints_map f xs]; rfl
@[simp] theorem strs_map {α : Type} (f : α → Str) : ∀ xs : List α, strsOf (xs.map fun x => .str (f x)) = some (xs.map f)
  | [] => rfl
  | x :: xs => by rw [List.map_cons, strsOf, strs_map f xs]; rfl
@[simp] theorem all_lst (xs : List D) : allD (.lst xs) = (blsOf xs).map fun ns => .bl (ns.all id) := id rfl
@[simp] theorem any_lst (xs : List D) : anyD (.lst xs) = (blsOf xs).map fun ns => .bl (ns.any id) := id rfl
@[simp] theorem sum_lst (xs : List D) : sumD (.lst xs) = (intsOf xs).map fun ns => .int ns.sum := id rfl
@[simp] theorem sum_tup (xs : List D) : sumD (.tup xs) = (intsOf xs).map fun ns => .int ns.sum := id rfl
@[simp] theorem fld_ins (c i c' : Nat) (xs : List D) : fldD c i (.ins c' xs) = if c' = c then xs[i]? else none := id rfl
@[simp] theorem max2_int (i j : Int) : max2D [.int i, .int j] = some (.int (if j > i then j else i)) := id rfl
@[simp] theorem min2_int (i j : Int) : min2D [.int i, .int j] = some (.int (if j < i then j else i)) := id rfl
@[simp] theorem int1_bl (b : Bool) : int1D (.bl b) = some (.int (if b then 1 else 0)) := id rfl
@[simp] theorem int1_int (b : Int) : int1D (.int b) = some (.int b) := id rfl
theorem range1_n (n : Nat) (h : n < 1000000000) : range1D (.int (n : Int)) = some ((List.range n).map fun i => .int ((i : Nat) : Int)) := by
  have h1 : small (n : Int) = true := by unfold small; simp; omega
  simp only [range1D, h1, if_true, upFrom]
  simp
/-! ### alike -/
@[simp] theorem eq_ints (i j : Int) : eqD (.int i) (.int j) = some (.bl (decide (i = j))) := id rfl
@[simp] theorem ne_ints (i j : Int) : neD (.int i) (.int j) = some (.bl (!decide (i = j))) := id rfl
@[simp] theorem eq_strs (i j : Str) : eqD (.str i) (.str j) = some (.bl (decide (i = j))) := id rfl
@[simp] theorem ne_strs (i j : Str) : neD (.str i) (.str j) = some (.bl (!decide (i = j))) := id rfl
@[simp] theorem eq_bls (i j : Bool) : eqD (.bl i) (.bl j) = some (.bl (decide (i = j))) := id rfl
@[simp] theorem ne_bls (i j : Bool) : neD (.bl i) (.bl j) = some (.bl (!decide (i = j))) := id rfl
end VS
namespace VS
theorem st_v (n : Nat) (d : D) (as : List Arg) : startE (n + 1) (.v d :: as) = some (.val d) :: startE n as := by simp [startE, slotOf]
theorem st_l (n : Nat) (d : MO) (as : List Arg) : startE (n + 1) (.l d :: as) = some (.own true d) :: startE n as := by simp [startE, slotOf]
theorem st_n (n : Nat) : startE (n + 1) [] = none :: startE n [] := by simp [startE, List.replicate_succ]
theorem st_0 : startE 0 [] = [] := by simp [startE]
end VS
set_option maxHeartbeats 2000000
namespace VS
open PySem L2
/-! ### what repr takes: data of a weight and a depth -/
structure RPd (p : PyData) (w n : Nat) : Prop where
  lay : p.canLay0 = true
  dep : p.depth ≤ n
  wgt : p.weight ≤ w
  isi : p.intsShort 13 = true
  shw : p.showable = true
def RP (d : D) (w n : Nat) : Prop := ∃ p, toPy d = some p ∧ RPd p w n
theorem rp_non : RP .non 0 0 := ⟨_, rfl, rfl, Nat.le_refl _, Nat.le_refl _, rfl, rfl⟩
theorem rp_bl (b : Bool) : RP (.bl b) 0 0 := ⟨_, rfl, rfl, Nat.le_refl _, Nat.le_refl _, rfl, rfl⟩
theorem rp_int {i : Int} (h : i.natAbs < 1000000000) : RP (.int i) 31 0 := by
  have h1 : i.natAbs < 10 ^ 12 := Nat.lt_of_lt_of_le h (by decide)
  have h2 : i.natAbs.log2 < 30 := PySem.Flt.log2_lt_of (by decide) (Nat.lt_of_lt_of_le h (by decide))
  refine ⟨_, rfl, rfl, Nat.le_refl _, ?_, ?_, ?_⟩
  · unfold PyData.weight; split <;> omega
  · simp only [PyData.intsShort, decide_eq_true_eq]; exact PyData.shown_int_le h1
  · simp only [PyData.showable, decide_eq_true_eq]; omega
theorem rp_str {x : Str} {n : Nat} (h : x.length ≤ n) (hc : ∀ c ∈ x.cps.toList, c < 1114112) : RP (.str x) n 0 := by
  refine ⟨_, rfl, ?_, Nat.le_refl _, h, rfl, rfl⟩
  simp only [PyData.canLay0, PyData.strOk]
  rw [Array.all_eq_true_iff_forall_mem]
  intro c hm
  simpa using hc c (Array.mem_toList_iff.mpr hm)
structure RPa (ps : List PyData) (w n : Nat) : Prop where
  lay : PyData.canLayAll0 ps = true
  dep : PyData.depthAll ps ≤ n
  wgt : PyData.weightAll ps ≤ w
  isi : PyData.intsShortAll 13 ps = true
  shw : PyData.showableAll ps = true
theorem rp_all {w n : Nat} : ∀ {ds : List D}, (∀ d ∈ ds, RP d w n) → ∃ ps, toPys ds = some ps ∧ RPa ps (ds.length * (w + 1)) n
  | [], _ => ⟨[], rfl, rfl, Nat.zero_le _, Nat.zero_le _, rfl, rfl⟩
  | d :: ds, h => by
    obtain ⟨p, h1, a⟩ := h d List.mem_cons_self
    obtain ⟨ps, h2, b⟩ := rp_all fun e he => h e (List.mem_cons_of_mem _ he)
    refine ⟨p :: ps, by simp [toPys, h1, h2], ?_, ?_, ?_, ?_, ?_⟩
    · simp only [PyData.canLayAll0, a.lay, b.lay, Bool.and_self]
    · simp only [PyData.depthAll]; exact Nat.max_le.mpr ⟨a.dep, b.dep⟩
    · simp only [PyData.weightAll, List.length_cons, Nat.succ_mul]; have := a.wgt; have := b.wgt; omega
    · simp only [PyData.intsShortAll, a.isi, b.isi, Bool.and_self]
    · simp only [PyData.showableAll, a.shw, b.shw, Bool.and_self]
theorem rp_tup {w n m : Nat} {ds : List D} (h : ∀ d ∈ ds, RP d w n) (hl : ds.length * (w + 1) ≤ m) : RP (.tup ds) m (n + 1) := by
  obtain ⟨ps, h1, a⟩ := rp_all h
  refine ⟨.tuple ps, by simp [toPy, h1], ?_, ?_, ?_, ?_, ?_⟩
  · simp only [PyData.canLay0]; exact a.lay
  · simp only [PyData.depth]; have := a.dep; omega
  · simp only [PyData.weight]; exact Nat.le_trans a.wgt hl
  · simp only [PyData.intsShort]; exact a.isi
  · simp only [PyData.showable]; exact a.shw
theorem rp_lst {w n m : Nat} {ds : List D} (h : ∀ d ∈ ds, RP d w n) (hl : ds.length * (w + 1) ≤ m) : RP (.lst ds) m (n + 1) := by
  obtain ⟨ps, h1, a⟩ := rp_all h
  refine ⟨.list ps, by simp [toPy, h1], ?_, ?_, ?_, ?_, ?_⟩
  · simp only [PyData.canLay0]; exact a.lay
  · simp only [PyData.depth]; have := a.dep; omega
  · simp only [PyData.weight]; exact Nat.le_trans a.wgt hl
  · simp only [PyData.intsShort]; exact a.isi
  · simp only [PyData.showable]; exact a.shw
theorem RP.mono {d : D} {w n w' n' : Nat} (h : RP d w n) (hw : w ≤ w') (hn : n ≤ n') : RP d w' n' := by
  obtain ⟨p, h1, a⟩ := h
  exact ⟨p, h1, a.lay, Nat.le_trans a.dep hn, Nat.le_trans a.wgt hw, a.isi, a.shw⟩
theorem rp_ints {xs : List Int} (h : ∀ x ∈ xs, x.natAbs < 1000000000) {m : Nat} (hl : xs.length * 32 ≤ m) : RP (.tup (xs.map .int)) m 1 :=
  rp_tup (w := 31) (n := 0) (fun d hd => by obtain ⟨x, hx, rfl⟩ := List.mem_map.mp hd; exact rp_int (h x hx)) (by simpa using hl)
/-- repr answers -/
theorem repr_ok {d : D} {w n : Nat} (h : RP d w n) (hw : w ≤ 1048576) (hn : n ≤ 64) : ∃ s, reprD d = some (.str s) := by
  obtain ⟨p, h1, a⟩ := h
  have lay : p.layable0 = true := by
    unfold PyData.layable0
    simp only [a.lay, Bool.true_and, Bool.and_eq_true, decide_eq_true_eq]
    exact ⟨Nat.le_trans a.dep hn, Nat.le_trans a.wgt hw⟩
  have h2 := PyData.shown_le_of_layable0 lay a.isi
  have h3 := PyData.hasDict_of_canLay p a.lay
  refine ⟨p.shown, ?_⟩
  unfold reprD
  rw [h1, Option.bind_some, if_pos]
  simp only [a.shw, h3, Bool.not_false, Bool.and_self, Bool.true_and, Bool.and_eq_true, decide_eq_true_eq]
  exact ⟨Nat.le_trans a.dep hn, Nat.le_trans h2 (by decide)⟩
end VS
set_option maxHeartbeats 2000000
/-! The calculus for x += e, split, texts with fields, a try that nothing leaves, enumerate with start. -/
namespace VS
open PySem L2
section
variable {Q : D → VEnv → Prop} {E : EX} {N : VEnv → Prop} {Z : RS → Prop} {ρ : VEnv}
def lstD : D → Option (List D)
  | .lst ys => some ys
  | _ => none
@[simp] theorem lstD_lst (ys : List D) : lstD (.lst ys) = some ys := id rfl
@[simp ↓] theorem w_augL (i : Nat) (g : Ev D) : wS (mAugL i g ρ) N Z = wO (rdLL i ρ) fun _ => wR (g ρ) (fun d ρ1 => wO (rdLL i ρ1) fun p => wO (lstD d) fun ys => wP p fun l xs => wC (xs.length + ys.length ≤ lim) (wSet i (some (.own l (.lst (xs ++ ys)))) ρ1 N)) fun c ds ρ1 => Z (.ex c ds ρ1) := by
  have inner : ∀ (d : D) (ρ' : VEnv), wS (match ρ'[i]? with
      | some (some (Sl.own l (.lst xs))) => (match d with
        | .lst ys => if xs.length + ys.length ≤ lim then .nx (ρ'.set i (some (Sl.own l (.lst (xs ++ ys))))) else .stuck
        | _ => .stuck)
      | _ => .stuck) N Z = wO (rdLL i ρ') fun p => wO (lstD d) fun ys => wP p fun l xs => wC (xs.length + ys.length ≤ lim) (wSet i (some (.own l (.lst (xs ++ ys)))) ρ' N) := by
    intro d ρ'
    unfold rdLL rdL wSet
    generalize ρ'[i]? = o
    rcases o with _ | (_ | (e | ⟨l, m⟩))
    · rfl
    · rfl
    · rfl
    · cases m with
      | lst xs =>
        simp only [Option.bind_some, lstOf_l, wO_some]
        cases d with
        | lst ys =>
          simp only [lstD_lst, wO_some, wP_mk]
          by_cases h : xs.length + ys.length ≤ lim
          · simp only [h, if_true, wS_nx, wC_true]
          · simp only [h, if_false, wS_stuck, wC_false]
        | _ => rfl
      | _ => rfl
  unfold mAugL
  have e : (wO (rdLL i ρ) fun _ => wR (g ρ) (fun d ρ1 => wO (rdLL i ρ1) fun p => wO (lstD d) fun ys => wP p fun l xs => wC (xs.length + ys.length ≤ lim) (wSet i (some (.own l (.lst (xs ++ ys)))) ρ1 N)) fun c ds ρ1 => Z (.ex c ds ρ1)) =
      wO (rdLL i ρ) (fun _ => wS ((g ρ).thenS fun d ρ' => match ρ'[i]? with
      | some (some (Sl.own l (.lst xs))) => (match d with
        | .lst ys => if xs.length + ys.length ≤ lim then .nx (ρ'.set i (some (Sl.own l (.lst (xs ++ ys))))) else .stuck
        | _ => .stuck)
      | _ => .stuck) N Z) := by
    refine wO_ext fun _ => ?_
    rw [wS_thenS]
    exact wR_ext fun d ρ1 => (inner d ρ1).symm
  rw [e]
  unfold rdLL rdL
  generalize ρ[i]? = o
  rcases o with _ | (_ | (e | ⟨l, m⟩))
  · rfl
  · rfl
  · rfl
  · cases m <;> rfl
def strOnly : D → Option D
  | .str u => some (.str u)
  | _ => none
@[simp] theorem strOnly_str (u : Str) : strOnly (.str u) = some (.str u) := id rfl
@[simp ↓] theorem w_isStr (g : Ev D) : wR (isStrR g ρ) Q E = wR (g ρ) (fun d ρ1 => wO (strOnly d) fun z => Q z ρ1) E := by
  unfold isStrR; rw [wR_bind]; exact wR_ext fun d ρ1 => by cases d <;> rfl
def textOf : D → Option Str
  | .str y => some y
  | _ => none
@[simp] theorem textOf_str (y : Str) : textOf (.str y) = some y := id rfl
@[simp ↓] theorem w_fmt0 (acc : Str) : wR (mFmt [] acc ρ) Q E = Q (.str acc) ρ := id rfl
@[simp ↓] theorem w_fmt (g : Ev D) (gs : List (Ev D)) (acc : Str) : wR (mFmt (g :: gs) acc ρ) Q E = wR (g ρ) (fun d ρ1 => wO (textOf d) fun y => wC ((acc ++ y).length ≤ lim) (wR (mFmt gs (acc ++ y) ρ1) Q E)) E := by
  unfold mFmt; rw [wR_bind]
  exact wR_ext fun d ρ1 => by
    cases d with
    | str y =>
      simp only [textOf_str, wO_some]
      by_cases h : (acc ++ y).length ≤ lim
      · simp only [h, if_true, wC_true]
      · simp only [h, if_false, wR_stuck, wC_false]
    | _ => rfl
@[simp ↓] theorem w_try0 (h : VEnv → RS) : wS (mTry0 h ρ) N Z = wS (h ρ) N fun r => match r with
    | .ex _ _ _ => False
    | r => Z r := by
  unfold mTry0
  cases h ρ <;> rfl
@[simp ↓] theorem w_enumS (k : Nat) (g : Ev D) (Q : List D → VEnv → Prop) : wR (mEnumS k g ρ) Q E = wR (g ρ) (fun d ρ1 => wO (lstD d) fun xs => Q (enumFrom k xs) ρ1) E := by
  unfold mEnumS; rw [wR_bind]; exact wR_ext fun d ρ1 => by cases d <;> rfl
end
end VS
set_option maxHeartbeats 2000000
/-! The calculus for refusals raised and caught, for methods by a keyword. -/
namespace VS
open PySem L2
section
variable {E : EX} {N : VEnv → Prop} {Z : RS → Prop} {ρ : VEnv}
@[simp ↓] theorem w_raise1 (c : Nat) (g : Ev D) : wS (mRaise1 c g ρ) N Z = wR (g ρ) (fun d ρ1 => Z (.ex c [d] ρ1)) fun c ds ρ1 => Z (.ex c ds ρ1) := by
  unfold mRaise1; cases g ρ <;> rfl
def wCatch (hit : List Nat) (i j : Nat) (N : VEnv → Prop) (Z : RS → Prop) : RS → Prop
  | .ex c ds ρ1 => wC (c ∈ hit) (wO (setV j (.exc c ds) ρ1) fun ρ2 => wClr i ρ2 (wSet i none ρ2 N) False)
  | r => Z r
@[simp ↓] theorem wCatch_ex (hit : List Nat) (i j : Nat) (c : Nat) (ds : List D) : wCatch hit i j N Z (.ex c ds ρ) = wC (c ∈ hit) (wO (setV j (.exc c ds) ρ) fun ρ2 => wClr i ρ2 (wSet i none ρ2 N) False) := id rfl
@[simp ↓] theorem wCatch_rt (hit : List Nat) (i j : Nat) (d : D) : wCatch hit i j N Z (.rt d ρ) = Z (.rt d ρ) := id rfl
@[simp ↓] theorem wCatch_rn (hit : List Nat) (i j : Nat) (d : MO) : wCatch hit i j N Z (.rn d ρ) = Z (.rn d ρ) := id rfl
@[simp ↓] theorem wCatch_bk (hit : List Nat) (i j : Nat) : wCatch hit i j N Z (.bk ρ) = Z (.bk ρ) := id rfl
@[simp ↓] theorem wCatch_ct (hit : List Nat) (i j : Nat) : wCatch hit i j N Z (.ct ρ) = Z (.ct ρ) := id rfl
@[simp ↓] theorem w_tryK (hit : List Nat) (i j : Nat) (h : VEnv → RS) : wS (mTryK hit i j h ρ) N Z = wS (h ρ) N (wCatch hit i j N Z) := by
  unfold mTryK
  cases h ρ with
  | ex c ds ρ1 =>
    simp only [wS_ex, wCatch_ex]
    by_cases hc : c ∈ hit
    · simp only [hc, if_true, wC_true]
      cases setV j (.exc c ds) ρ1 with
      | none => rfl
      | some ρ2 =>
        simp only [wO_some]
        unfold wClr wSet
        generalize ρ2[i]? = o
        rcases o with _ | (_ | (d | ⟨l, m⟩)) <;> rfl
    · simp only [hc, if_false, wC_false, wS_stuck]
  | _ => rfl
@[simp ↓] theorem w_methK (G : Fn) (c n : Nat) (ga gv : Ev D) (Q : Res → VEnv → Prop) : wR (mMethK G c n ga gv ρ) Q E =
    wR (ga ρ) (fun d ρ1 => wB (isIns c d) (wR (gv ρ1) (fun y ρ2 => wCall G n [AR.v d, AR.v y] ρ2 Q E) E) False) E := by
  unfold mMethK
  rw [wR_bind]
  refine wR_ext fun d ρ1 => ?_
  cases d with
  | ins c' xs =>
    simp only [isIns_i]
    by_cases h : c' = c
    · subst h
      simp only [if_true, BEq.rfl, wB_true]
      rw [wR_bind]
      exact wR_ext fun y ρ2 => by rw [w_callR]
    · have : (c' == c) = false := by simp [h]
      simp only [h, if_false, this, wB_false, wR_stuck]
  | _ => rfl
end
@[simp] theorem isa_non (es : List Nat) (f : String ⊕ Nat → Option Bool) : isaD es f .non = f (.inl "NoneType") := id rfl
@[simp] theorem isa_exc (es : List Nat) (f : String ⊕ Nat → Option Bool) (c : Nat) (xs : List D) : isaD es f (.exc c xs) = (if c ∈ es then some (.inr c) else none).bind f := id rfl
@[simp] theorem isaF_l (nos : List String) (tbl : List (Nat × Bool)) (t : String) : isaF nos tbl (.inl t) = if t ∈ nos then some false else none := id rfl
@[simp] theorem isaF_r (nos : List String) (tbl : List (Nat × Bool)) (c : Nat) : isaF nos tbl (.inr c) = tbl.lookup c := id rfl
@[simp] theorem xfd_exc (cs : List Nat) (i c : Nat) (xs : List D) : xfdD cs i (.exc c xs) = if c ∈ cs then xs[i]? else none := id rfl
@[simp] theorem isNone_exc (c : Nat) (xs : List D) : isNone (.exc c xs) = false := id rfl
end VS
set_option maxHeartbeats 2000000
/-! The calculus for refusals of every kind, for calls that lend what is made for them. -/
namespace VS
open PySem L2
section
variable {E : EX} {N : VEnv → Prop} {Z : RS → Prop} {ρ : VEnv}
@[simp ↓] theorem w_raise0 (c : Nat) : wS (mRaise0 c ρ) N Z = Z (.ex c [] ρ) := id rfl
@[simp ↓] theorem w_raiseF (c : Nat) (g : Ev D) : wS (mRaiseF c g ρ) N Z = wR (g ρ) (fun d ρ1 => wC (numD d = true) (Z (.ex c [d] ρ1))) fun c ds ρ1 => Z (.ex c ds ρ1) := by
  unfold mRaiseF
  cases g ρ with
  | ok d ρ1 =>
    simp only [wR_ok]
    by_cases h : numD d = true
    · simp only [h, if_true, wC_true, wS_ex]
    · simp only [h, if_false, wC_false, wS_stuck]; simp
  | _ => rfl
@[simp] theorem num_non : numD .non = true := id rfl
@[simp] theorem num_int (i : Int) : numD (.int i) = decide (i.natAbs < 1000000000) := id rfl
def lstOnly : D → Option D
  | .lst xs => some (.lst xs)
  | _ => none
@[simp] theorem lstOnly_lst (xs : List D) : lstOnly (.lst xs) = some (.lst xs) := id rfl
@[simp ↓] theorem w_isLst (g : Ev D) (Q : D → VEnv → Prop) : wR (isLstR g ρ) Q E = wR (g ρ) (fun d ρ1 => wO (lstOnly d) fun z => Q z ρ1) E := by
  unfold isLstR; rw [wR_bind]; exact wR_ext fun d ρ1 => by cases d <;> rfl
def wOne (ms : List MO) (P : Prop) (_ : Tag P := ⟨0⟩) : Prop := match ms with
  | [_] => P
  | _ => False
@[simp ↓] theorem wOne_1 (m : MO) (P : Prop) : wOne [m] P = P := id rfl
@[simp ↓] theorem w_resT (G : Fn) (n : Nat) (g0 : Ev MO) (gs : Ev (List D)) (Q : Res → VEnv → Prop) : wR (mResT G n g0 gs ρ) Q E =
    wR (g0 ρ) (fun m ρ1 => wR (gs ρ1) (fun ds ρ2 => wC (ds.length + 1 = n) (wF (G (.l m :: ds.map Arg.v)) fun r ms => wOne ms (wEnd r Q E ρ2))) E) E := by
  unfold mResT
  rw [wR_bind]
  refine wR_ext fun m ρ1 => ?_
  rw [wR_bind]
  refine wR_ext fun ds ρ2 => ?_
  rw [wR_itp]
  refine wC_ext ?_
  cases G (.l m :: ds.map Arg.v) with
  | none => rfl
  | some q =>
    obtain ⟨r, ms⟩ := q
    rw [wF_some]
    rcases ms with _ | ⟨m', _ | _⟩
    · cases r <;> rfl
    · cases r <;> rfl
    · cases r <;> rfl
end
@[simp] theorem cnt_bls (bs : List Bool) (b : Bool) : cntB (.lst (bs.map D.bl)) (.bl b) = some (.int (bs.count b : Nat)) := by
  have : blsOf (bs.map D.bl) = some bs := by
    induction bs with
    | nil => rfl
    | cons c bs ih => rw [List.map_cons, blsOf, ih]; rfl
  simp only [cntB, this]; rfl
@[simp] theorem upper_str (z : Str) : upperD (.str z) = if z.length ≤ 1000 then some (.str (Txt.upper z)) else none := id rfl
end VS
set_option maxHeartbeats 1000000
namespace VS
open PySem L2
section
variable {E : EX} {ρ : VEnv}
@[simp ↓] theorem w_perm (kn : Nat) (idx : List Nat) (g : Ev (List D)) (Q : List D → VEnv → Prop) : wR (mPerm kn idx g ρ) Q E = wR (g ρ) (fun ds ρ1 => wC (ds.length = kn) (Q (permL idx ds) ρ1)) E := by
  unfold mPerm
  rw [wR_bind]
  refine wR_ext fun ds ρ1 => ?_
  rw [wR_itp]; rfl
end
@[simp] theorem sameJ_int (old : D → D → Option D) (neg : Bool) (c : Nat) (G : Fn) (i j : Int) : sameJ old neg c G (.int i) (.int j) = old (.int i) (.int j) := id rfl
@[simp] theorem sameJ_lst (old : D → D → Option D) (neg : Bool) (c : Nat) (G : Fn) (i j : List D) : sameJ old neg c G (.lst i) (.lst j) = old (.lst i) (.lst j) := id rfl
@[simp] theorem sameJ_tup (old : D → D → Option D) (neg : Bool) (c : Nat) (G : Fn) (i j : List D) : sameJ old neg c G (.tup i) (.tup j) = old (.tup i) (.tup j) := id rfl
@[simp] theorem sameJ_ins (old : D → D → Option D) (neg : Bool) (c : Nat) (G : Fn) (a b : Nat) (i j : List D) : sameJ old neg c G (.ins a i) (.ins b j) = sameI old neg c G (.ins a i) (.ins b j) := id rfl
end VS
set_option maxHeartbeats 1000000
namespace VS
open PySem L2
@[simp] theorem in_tupS {α : Type} (f : α → Str) (z : Str) (xs : List α) : inD (.str z) (.tup (xs.map fun x => .str (f x))) = some (.bl (decide (z ∈ xs.map f))) := by
  have := in_tup z (xs.map f)
  rw [List.map_map] at this
  unfold inD
  rw [show (D.str ∘ f) = fun x => D.str (f x) from rfl] at this
  rw [this]; rfl
@[simp] theorem in_lstS {α : Type} (f : α → Str) (z : Str) (xs : List α) : inD (.str z) (.lst (xs.map fun x => .str (f x))) = some (.bl (decide (z ∈ xs.map f))) := by
  have := in_lst z (xs.map f)
  rw [List.map_map] at this
  unfold inD
  rw [show (D.str ∘ f) = fun x => D.str (f x) from rfl] at this
  rw [this]; rfl
@[simp] theorem in_dctS (z : Str) (xs : List (Key × D)) : inD (.str z) (.dct xs) = some (.bl (valD xs (.inr z)).isSome) := id rfl
@[simp] theorem nin_dctS (z : Str) (xs : List (Key × D)) : notInD (.str z) (.dct xs) = some (.bl (!(valD xs (.inr z)).isSome)) := id rfl
theorem perm_sum {l l' : List Int} (h : l.Perm l') : l.sum = l'.sum := by
  induction h with
  | nil => rfl
  | cons x _ ih => simp [ih]
  | swap x y l => simp; omega
  | trans _ _ a b => exact a.trans b
theorem perm_of_mem {α : Type} [DecidableEq α] {l l' : List α} (h : l.Nodup) (h' : l'.Nodup) (m : ∀ x, x ∈ l ↔ x ∈ l') : l.Perm l' := by
  rw [List.perm_iff_count]
  intro a
  rw [h.count, h'.count]
  simp only [m a]
end VS
namespace K03
open PySem L2 VS
def wholeB (lo hi : Int) : D → Bool
  | .int i => decide (lo ≤ i) && decide (i ≤ hi)
  | _ => false
theorem whole_ok (d : D) (lo hi : Int) (h : (tyD d).isSome) : g_p_is_whole [.v d, .v (.int lo), .v (.int hi)] = some (.ok (.bl (wholeB lo hi d)), []) := by
  apply wF_eq
  refine w_def rfl rfl ?_
  simp only [st_v, st_l, st_n, st_0, h_p_is_whole]
  cases d <;> simp [tyD] at h <;> simp [wholeB]
  rename_i i
  refine wB_dec (fun h1 => ?_) fun h1 => ?_ <;> simp [h1, wholeB]
@[simp] theorem whole_int (i lo hi : Int) : g_p_is_whole [.v (.int i), .v (.int lo), .v (.int hi)] = some (.ok (.bl (decide (lo ≤ i) && decide (i ≤ hi))), []) := whole_ok (.int i) lo hi rfl
def webD (few : Nat) (fs : List Fire) : D := .ins 0 [.dct (fs.map fun f => (.inr f.name, f.d)), .int few, .tup (fs.map Fire.d)]
@[simp] theorem webD_is (few : Nat) (fs : List Fire) : isIns 0 (webD few fs) = true := id rfl
@[simp] theorem webD_0 (few : Nat) (fs : List Fire) : fldD 0 0 (webD few fs) = some (.dct (fs.map fun f => (.inr f.name, f.d))) := id rfl
@[simp] theorem webD_1 (few : Nat) (fs : List Fire) : fldD 0 1 (webD few fs) = some (.int few) := id rfl
@[simp] theorem webD_2 (few : Nat) (fs : List Fire) : fldD 0 2 (webD few fs) = some (.tup (fs.map Fire.d)) := id rfl
@[simp] theorem webD_C (few : Nat) (fs : List Fire) : isiC 0 (webD few fs) = some true := id rfl
def fireOf (fs : List Fire) (z : Str) : Option Fire := fs.find? fun f => decide (f.name = z)
theorem val_fires (z : Str) : ∀ fs : List Fire, valD (fs.map fun f => (.inr f.name, f.d)) (.inr z) = (fireOf fs z).map Fire.d
  | [] => rfl
  | f :: fs => by
    have ih := val_fires z fs
    unfold valD fireOf at ih ⊢
    rw [List.map_cons, List.find?_cons, List.find?_cons]
    by_cases h : f.name = z
    · subst h; simp
    · have h1 : decide ((Sum.inr f.name : Key) = Sum.inr z) = false := by simp [h]
      have h2 : decide (f.name = z) = false := by simp [h]
      simp only [h1, h2]
      exact ih
theorem fireOf_some {fs : List Fire} {z : Str} (h : z ∈ fs.map Fire.name) : ∃ f, fireOf fs z = some f ∧ f ∈ fs ∧ f.name = z := by
  obtain ⟨g, hg, rfl⟩ := List.mem_map.mp h
  cases q : fireOf fs g.name with
  | none => exact absurd (List.find?_eq_none.mp q g hg) (by simp)
  | some f => exact ⟨f, rfl, List.mem_of_find?_eq_some q, by simpa using List.find?_some q⟩
theorem is_name_ok {z : Str} (h : IsName z) : g_p_is_name [.v (.str z)] = some (.ok (.bl true), []) := by
  have h1 := h.lo
  have h2 := h.hi
  apply wF_eq
  refine w_def rfl rfl ?_
  simp only [st_v, st_l, st_n, st_0, h_p_is_name]
  have e1 : z.length ≤ 16000000 := by omega
  have e2 : (1 : Int) ≤ z.length := by omega
  have e3 : (z.length : Int) ≤ 6 := by omega
  obtain ⟨cs, hcs⟩ : ∃ cs, cs = z.cps.toList := ⟨_, rfl⟩
  have e4 : cs.length ≤ 1000000 := by rw [hcs, Array.length_toList]; exact Nat.le_trans h2 (by decide)
  have e5 := h.az
  rw [← hcs] at e5
  have ea : (Str.ofString "a").cps.toList = [97] := by decide +kernel
  have ez : (Str.ofString "z").cps.toList = [122] := by decide +kernel
  simp [e1, e2, e3, signs, ← hcs]
  refine lc_map (fun c => .bl (decide (97 ≤ c) && decide (c ≤ 122))) e4 ?_ fun x hx => ?_
  · simp
    exact e5
  · have := e5 x hx
    simp [ea, ez, List.cons_lt_cons_iff, this.1, this.2, Nat.not_lt.mpr this.1, Nat.not_lt.mpr this.2]
theorem are_hungers_ok {few : Nat} {hs : List Int} (h3 : few ≤ 3) (h : Hung few hs) : g_p_are_hungers [.v (.tup (hs.map .int)), .v (.int few)] = some (.ok (.bl true), []) := by
  apply wF_eq
  refine w_def rfl rfl ?_
  simp only [st_v, st_l, st_n, st_0, h_p_are_hungers]
  have hl := h.len
  simp [h.len]
  refine lc_map (fun x => .bl (decide (0 ≤ x) && decide (x ≤ 9))) (by omega) ?_ fun x hx => ?_
  · have e : hs.all (fun x => decide (0 ≤ x) && decide (x ≤ 9)) = true := by
      rw [List.all_eq_true]; intro x hx; simpa using h.bd x hx
    simp [e]
    refine lc_map (fun x => .bl (decide (0 < x))) (by omega) ?_ fun x hx => ?_
    · simp
      exact h.pos
    · simp
  · simp
def fireKs (fs : List Fire) : List (Key × D) := fs.map fun f => (.inr f.name, f.d)
theorem val_ks (z : Str) (fs : List Fire) : (valD (fireKs fs) (.inr z)).isSome = decide (z ∈ fs.map Fire.name) := by
  unfold fireKs
  rw [val_fires]
  by_cases h : z ∈ fs.map Fire.name
  · obtain ⟨f, h1, _⟩ := fireOf_some h
    rw [h1, decide_eq_true h]; rfl
  · rw [decide_eq_false h]
    cases q : fireOf fs z with
    | none => rfl
    | some f =>
      refine absurd (List.mem_map.mpr ⟨f, List.mem_of_find?_eq_some q, ?_⟩) h
      simpa using List.find?_some q
theorem are_feeders_ok {zs : List Str} {fs : List Fire} (hl : zs.length ≤ 1000) (nd : zs.Nodup) (h : ∀ z ∈ zs, z ∈ fs.map Fire.name) : g_p_are_feeders [.v (.tup (zs.map .str)), .l (.dct (fireKs fs))] = some (.ok (.bl true), [.dct (fireKs fs)]) := by
  apply wF_eq
  refine w_def rfl rfl ?_
  simp only [st_v, st_l, st_n, st_0, h_p_are_feeders]
  simp
  refine lc_map (fun z => .bl (decide (z ∈ fs.map Fire.name))) (by omega) ?_ fun x hx => ?_
  · have e : zs.all (fun z => decide (z ∈ fs.map Fire.name)) = true := by
      rw [List.all_eq_true]; intro z hz; exact decide_eq_true (h z hz)
    have e2 : lenSetD (.tup (zs.map .str)) = some (.int zs.length) := by
      simp only [lenSetD, strsOf_map, Option.bind_some]
      rw [if_pos hl, distinct_iff.mpr nd]
    simp [e, e2, -List.mem_map]
  · simp [val_ks, -List.mem_map]
theorem is_hearth_ok {few : Nat} {fs : List Fire} {f : Fire} (h3 : few ≤ 3) (hn : IsName f.name) (hh : Hung few f.hung) (hl : f.feed.length ≤ 1000) (nd : f.feed.Nodup) (hf : ∀ z ∈ f.feed, z ∈ fs.map Fire.name) (hx : f.name ∉ fs.map Fire.name) :
    g_p_is_hearth [.v f.d, .v (.int few), .l (.dct (fireKs fs))] = some (.ok (.bl true), [.dct (fireKs fs)]) := by
  apply wF_eq
  refine w_def rfl rfl ?_
  simp only [st_v, st_l, st_n, st_0, h_p_is_hearth]
  simp [Fire.d, is_name_ok hn, val_ks, hx, are_hungers_ok h3 hh, are_feeders_ok hl nd hf]
theorem enum_mapF {α : Type} (f : α → D) : ∀ (n : Nat) (xs : List α), enumFrom n (xs.map f) = (xs.zipIdx n).map fun p => .tup [.int p.2, f p.1]
  | n, [] => rfl
  | n, x :: xs => by rw [List.map_cons, enumFrom, enum_mapF f (n + 1) xs]; simp
theorem by_name_ok {few : Nat} {fs : List Fire} (h3 : few ≤ 3) (hl : fs.length ≤ 16) (hf : Fires few fs) (hlf : ∀ f ∈ fs, f.feed.length ≤ 1000) : g_p_hearths_by_name [.v (.int few), .v (.tup (fs.map Fire.d))] = some (.nw (.dct (fireKs fs)), []) := by
  apply wF_eq
  refine w_def rfl rfl ?_
  simp only [st_v, st_l, st_n, st_0, h_p_hearths_by_name]
  have e : ¬ (16 : Int) < fs.length := by omega
  simp [e]
  rw [enum_mapF]
  refine for_inv _ (fun pre post ρ => ∃ (o o' : Option D), ρ = [some (.val (.int few)), some (.val (.tup (fs.map Fire.d))), some (.own false (.dct (fireKs (pre.map (·.1))))), o.map Sl.val, o'.map Sl.val]) fs.zipIdx ⟨none, none, rfl⟩ ?_ ?_
  · rintro ρ ⟨o, o', rfl⟩
    have : fs.zipIdx.map (·.1) = fs := by simp
    simp [this]
  · rintro pre p post ρ hx ⟨o, o', rfl⟩
    have hix : fs[pre.length]? = some p.1 ∧ pre.map (·.1) = fs.take pre.length := by
      have e1 : fs.zipIdx.map (·.1) = fs := by simp
      have e2 : fs = pre.map (·.1) ++ p.1 :: post.map (·.1) := by rw [← e1, hx]; simp
      constructor
      · rw [e2]; simp
      · rw [e2]; simp
    have hm : p.1 ∈ fs := List.mem_of_getElem? hix.1
    have h5 := hf.fd _ _ hix.1
    rw [← hix.2] at h5
    have h6 : p.1.name ∉ (pre.map (·.1)).map Fire.name := by
      have e1 : fs.zipIdx.map (·.1) = fs := by simp
      have nd := hf.nd
      rw [← e1, hx] at nd
      simp only [List.map_append, List.map_cons] at nd
      rw [List.nodup_append] at nd
      exact fun h => nd.2.2 _ h _ (by simp) rfl
    have h7 := is_hearth_ok (fs := pre.map (·.1)) h3 (hf.nm _ hm) (hf.hg _ hm) (hlf _ hm) h5.1 h5.2 h6
    have h8 : ((fireKs (pre.map (·.1))).any fun kv => decide (kv.1 = .inr p.1.name)) = false := by
      rw [List.any_eq_false]
      intro kv hkv
      unfold fireKs at hkv
      obtain ⟨f, h1, rfl⟩ := List.mem_map.mp hkv
      simp only [decide_eq_true_eq]
      intro z
      exact h6 (List.mem_map.mpr ⟨f, h1, by simpa using z⟩)
    have h9 : (fireKs (pre.map (·.1))).length < 16000000 := by
      have : (fireKs (pre.map (·.1))).length ≤ fs.length := by
        have := congrArg List.length hx
        simp [fireKs] at this ⊢; omega
      omega
    have h10 : putD (fireKs (pre.map (·.1))) (.inr p.1.name) p.1.d = fireKs ((pre ++ [p]).map (·.1)) := by
      unfold putD
      rw [h8]
      simp [fireKs]
    have hn : ixD p.1.d (.int 0) = some (.str p.1.name) := by simp [Fire.d]
    simp [h7, hn, h9, h10]
    exact hide ⟨some (.int p.2), some p.1.d, by rw [h10]; rfl⟩
def webM (few : Nat) (fs : List Fire) : MO := .ins 0 [.dct (fireKs fs), .int few, .tup (fs.map Fire.d)]
@[simp] theorem webM_frz (few : Nat) (fs : List Fire) : (webM few fs).frz = webD few fs := id rfl
theorem web_ok {few : Nat} {fs : List Fire} (h1 : 1 ≤ few) (h3 : few ≤ 3) (hl : fs.length ≤ 16) (hf : Fires few fs) (hlf : ∀ f ∈ fs, f.feed.length ≤ 1000) :
    g_m_Web_init [.l (.ins 0 []), .v (.int few), .v (.tup (fs.map Fire.d))] = some (.ok .non, [webM few fs]) := by
  apply wF_eq
  refine w_def rfl rfl ?_
  simp only [st_v, st_l, st_n, st_0, h_m_Web_init]
  have e1 : (1 : Int) ≤ few := by omega
  have e2 : (few : Int) ≤ 3 := by omega
  simp [e1, e2, by_name_ok h3 hl hf hlf, VS.putAt, webM]
end K03
set_option maxHeartbeats 1000000
namespace K03
open PySem L2 VS
@[simp] theorem len_ok (few : Nat) (fs : List Fire) : g_m_Web_len [.v (webD few fs)] = some (.ok (.int fs.length), []) := by
  apply wF_eq
  refine w_def rfl rfl ?_
  simp only [st_v, st_l, st_n, st_0, h_m_Web_len]
  simp [lenD]
def num (i : Int) : Str := toString i
theorem strs_map : ∀ ws : List Str, strsOf (ws.map D.str) = some ws
  | [] => rfl
  | w :: ws => by simp [strsOf, strs_map ws]
theorem join_ok {z : Str} {ws : List Str} (h : (ws.map (·.length)).sum + ws.length * z.length ≤ 16777216) : joinD z (.lst (ws.map D.str)) = some (.str (PySem.Txt.join z ws)) := by
  simp only [joinD, seqOf, strs_map, Option.bind_some]
  rw [if_pos h]
def rowWords (f : Fire) : List Str := [("hearth" : Str), f.name] ++ f.hung.map num ++ (if f.feed = [] then [] else ("over" : Str) :: f.feed)
def rowOf (f : Fire) : Str := PySem.Txt.join " " (rowWords f)
theorem num_len {i : Int} (h0 : 0 ≤ i) (h9 : i ≤ 9) : (num i).length = 1 := by
  have : i = 0 ∨ i = 1 ∨ i = 2 ∨ i = 3 ∨ i = 4 ∨ i = 5 ∨ i = 6 ∨ i = 7 ∨ i = 8 ∨ i = 9 := by omega
  rcases this with rfl | rfl | rfl | rfl | rfl | rfl | rfl | rfl | rfl | rfl <;> decide
theorem sum_le (c : Nat) : ∀ ws : List Str, (∀ w ∈ ws, w.length ≤ c) → (ws.map (·.length)).sum ≤ ws.length * c
  | [], _ => by simp
  | w :: ws, h => by
    have h1 := h w (by simp)
    have h2 := sum_le c ws fun x hx => h x (by simp [hx])
    simp only [List.map_cons, List.sum_cons, List.length_cons, Nat.succ_mul]
    omega
theorem row_le {few : Nat} {f : Fire} (hn : IsName f.name) (hh : Hung few f.hung) (hz : ∀ z ∈ f.feed, IsName z) : ∀ w ∈ rowWords f, w.length ≤ 6 := by
  intro w hw
  simp only [rowWords, List.mem_append, List.mem_cons, List.not_mem_nil, or_false, List.mem_map] at hw
  rcases hw with ((rfl | rfl) | ⟨i, hi, rfl⟩) | hw
  · decide
  · exact hn.hi
  · rw [num_len (hh.bd i hi).1 (hh.bd i hi).2]; decide
  · split at hw
    · cases hw
    · rcases List.mem_cons.mp hw with rfl | h
      · decide
      · exact (hz w h).hi
theorem hearth_row_ok {few : Nat} {f : Fire} (h3 : few ≤ 3) (hn : IsName f.name) (hh : Hung few f.hung) (hl : f.feed.length ≤ 16) (hz : ∀ z ∈ f.feed, IsName z) : g_p_hearth_row [.v f.d] = some (.ok (.str (rowOf f)), []) := by
  have hlen := hh.len
  have hj : joinD " " (.lst ((rowWords f).map D.str)) = some (.str (rowOf f)) := by
    refine join_ok ?_
    have h1 := sum_le 6 _ (row_le hn hh hz)
    have h2 : (rowWords f).length ≤ 22 := by
      simp only [rowWords]; split <;> simp <;> omega
    have h4 : ((" " : Str)).length = 1 := by decide
    rw [h4]; omega
  apply wF_eq
  refine w_def rfl rfl ?_
  simp only [st_v, st_l, st_n, st_0, h_p_hearth_row]
  simp [Fire.d]
  refine lc_map (fun i => .str (num i)) (by omega) ?_ fun x hx => ?_
  · have e0 : 2 + f.hung.length ≤ 16000000 := by omega
    cases hfd : f.feed with
    | nil =>
      have er : (rowWords f).map D.str = D.str "hearth" :: D.str f.name :: f.hung.map fun i => D.str (num i) := by simp [rowWords, hfd]
      rw [er] at hj
      simp [addO, e0, truD, hj]
    | cons z zs =>
      have er : (rowWords f).map D.str = D.str "hearth" :: D.str f.name :: (f.hung.map fun i => D.str (num i)) ++ (D.str "over" :: D.str z :: zs.map D.str) := by simp [rowWords, hfd]
      rw [er] at hj
      have e1 : zs.length ≤ 15 := by rw [hfd] at hl; simpa using hl
      have e2 : 1 + (zs.length + 1) ≤ 16000000 := by omega
      have e3 : f.hung.length + 1 + 1 + (zs.length + 1 + 1) ≤ 16000000 := by omega
      simp only [List.cons_append] at hj
      simp [addO, e0, truD, listD, addD, e2, e3, lim, hj]
  · have hb : x.natAbs < big := by
      have := hh.bd x hx
      unfold big; omega
    simp [strD, hb, num]
def textW (few : Nat) (fs : List Fire) : Str := PySem.Txt.join "\n" ((("stores " : Str) ++ num few) :: fs.map rowOf)
def RowsOk (few : Nat) (fs : List Fire) : Prop := ∀ f ∈ fs, IsName f.name ∧ Hung few f.hung ∧ f.feed.length ≤ 16 ∧ ∀ z ∈ f.feed, IsName z
theorem app_len (a b : Str) : (a ++ b).length = a.length + b.length := by
  show (a ++ b).cps.size = a.cps.size + b.cps.size
  rw [show (a ++ b).cps = a.cps ++ b.cps from rfl, Array.size_append]
theorem none_app (a : Str) : Str.empty ++ a = a := Str.empty_append a
theorem num_len2 {n : Nat} (h : n ≤ 16) : (num n).length ≤ 2 := by
  have : ∀ k, k < 17 → (num ((k : Nat) : Int)).length ≤ 2 := by decide
  exact this n (by omega)
theorem log_ok {n : Nat} (h : n ≤ 16) : (n : Int).natAbs.log2 < 1920 := by
  have : ∀ k, k < 17 → ((k : Nat) : Int).natAbs.log2 < 1920 := by decide
  exact this n (by omega)
theorem fmt_num {n : Nat} (h : n ≤ 16) : fmtD (.int n) = some (.str (num n)) := by
  unfold fmtD; simp only []; rw [if_pos (log_ok h)]; rfl
theorem fmt_str {y : Str} (h : y.length ≤ lim) : fmtD (.str y) = some (.str y) := by
  unfold fmtD; simp only []; rw [if_pos h]
theorem repr_ok5 {few : Nat} {fs : List Fire} (h3 : few ≤ 3) (hl : fs.length ≤ 16) : g_m_Web_repr [.v (webD few fs)] = some (.ok (.str (("Web(" : Str) ++ num few ++ (", " : Str) ++ num fs.length ++ (")" : Str))), []) := by
  have a1 := num_len2 (n := few) (by omega)
  have a2 := num_len2 hl
  have b1 : ("Web(" : Str).length = 4 := by decide
  have b2 : (", " : Str).length = 2 := by decide
  have b3 : (")" : Str).length = 1 := by decide
  have c1 : 4 + (num few).length ≤ 16000000 := by omega
  have c2 : 4 + (num few).length + 2 ≤ 16000000 := by omega
  have c3 : 4 + (num few).length + 2 + (num fs.length).length ≤ 16000000 := by omega
  have c4 : 4 + (num few).length + 2 + (num fs.length).length + 1 ≤ 16000000 := by omega
  apply wF_eq
  refine w_def rfl rfl ?_
  simp only [st_v, st_l, st_n, st_0, h_m_Web_repr]
  simp [lenD, fmt_num (n := few) (by omega), fmt_num hl, app_len, none_app, b1, b2, b3, c1, c2, c3, c4, lim]
theorem row_len {few : Nat} {f : Fire} (hn : IsName f.name) (hh : Hung few f.hung) (h3 : few ≤ 3) (hl : f.feed.length ≤ 16) (hz : ∀ z ∈ f.feed, IsName z) : (rowOf f).length ≤ 1000 := by
  have h1 := sum_le 6 _ (row_le hn hh hz)
  have h2 : (rowWords f).length ≤ 22 := by
    have := hh.len
    simp only [rowWords]; split <;> simp <;> omega
  have h4 : ((" " : Str)).length = 1 := by decide
  have h5 := StrLaws.join_length_le " " (rowWords f)
  unfold rowOf PySem.Txt.join
  rw [StrLaws.glued_eq_join]
  rw [h4] at h5
  omega
theorem str_ok5 {few : Nat} {fs : List Fire} (h3 : few ≤ 3) (hl : fs.length ≤ 16) (hr : RowsOk few fs) : g_m_Web_str [.v (webD few fs)] = some (.ok (.str (textW few fs)), []) := by
  have a1 := num_len2 (n := few) (by omega)
  have b1 : ("stores " : Str).length = 7 := by decide
  have c1 : 7 + (num few).length ≤ 16000000 := by omega
  have hj : joinD "\n" (.lst (D.str (("stores " : Str) ++ num few) :: fs.map fun f => D.str (rowOf f))) = some (.str (textW few fs)) := by
    have := join_ok (z := "\n") (ws := (("stores " : Str) ++ num few) :: fs.map rowOf) (by
      have h1 := sum_le 1000 ((("stores " : Str) ++ num few) :: fs.map rowOf) (by
        intro w hw
        rcases List.mem_cons.mp hw with rfl | hw
        · rw [app_len, b1]; omega
        · obtain ⟨f, hf, rfl⟩ := List.mem_map.mp hw
          obtain ⟨p1, p2, p3, p4⟩ := hr f hf
          exact row_len p1 p2 h3 p3 p4)
      have h4 : (("\n" : Str)).length = 1 := by decide
      rw [h4]
      simp only [List.length_cons, List.length_map] at h1 ⊢
      omega)
    simpa [textW, List.map_map, Function.comp_def] using this
  apply wF_eq
  refine w_def rfl rfl ?_
  simp only [st_v, st_l, st_n, st_0, h_m_Web_str]
  simp [fmt_num (n := few) (by omega), app_len, none_app, b1, c1, lim]
  refine lc_map (fun f => .str (rowOf f)) (by omega) ?_ fun f hf => ?_
  · have e1 : 1 + fs.length ≤ 16000000 := by omega
    simp [addD, none_app, hj, e1]
  · obtain ⟨p1, p2, p3, p4⟩ := hr f hf
    simp [hearth_row_ok h3 p1 p2 p3 p4]
end K03
set_option maxHeartbeats 1000000
namespace VS
open PySem L2
theorem seq_cut {ρ : VEnv} {N : VEnv → Prop} {Z : RS → Prop} {a b c : VEnv → RS} (I : VEnv → Prop) (h : wS (mSeq a b ρ) (fun ρ => Hide (I ρ)) (fun _ => False)) (k : ∀ ρ', I ρ' → wS (c ρ') N Z) : wS (mSeq a (mSeq b c) ρ) N Z := by
  rw [w_seq] at h ⊢
  refine wS_mono h (fun ρ1 h1 => ?_) fun _ h => h.elim
  rw [w_seq]
  exact wS_mono h1 (fun ρ2 h2 => k ρ2 h2) fun _ h => h.elim
theorem range1_0 : range1D (.int 0) = some [] := range1_n 0 (by decide)
theorem range_at {n k : Nat} {pre post : List Nat} (h : List.range n = pre ++ k :: post) : k = pre.length ∧ pre.length + post.length + 1 = n := by
  have h1 := congrArg (·[pre.length]?) h
  have h2 := congrArg List.length h
  simp at h1 h2
  rw [List.getElem?_range (by omega)] at h1
  exact ⟨by simpa using h1.symm, by omega⟩
end VS
namespace K03
open PySem L2 VS
theorem feed_in {few : Nat} {fs : List Fire} (hf : Fires few fs) : ∀ f ∈ fs, f.feed.length ≤ fs.length ∧ ∀ z ∈ f.feed, IsName z := by
  intro f h
  obtain ⟨i, hi⟩ := List.getElem?_of_mem h
  obtain ⟨nd, hz⟩ := hf.fd i f hi
  have := nodup_sub_len nd hz
  refine ⟨by simp at this; omega, fun z hq => ?_⟩
  obtain ⟨g, hg, rfl⟩ := List.mem_map.mp (hz z hq)
  exact hf.nm g (List.mem_of_mem_take hg)
theorem rows_of {few : Nat} {fs : List Fire} (hf : Fires few fs) (hl : fs.length ≤ 16) : RowsOk few fs := fun f h =>
  ⟨hf.nm f h, hf.hg f h, by have := (feed_in hf f h).1; omega, (feed_in hf f h).2⟩
theorem text_len {few : Nat} {fs : List Fire} (h3 : few ≤ 3) (hl : fs.length ≤ 16) (hr : RowsOk few fs) : (textW few fs).length ≤ 20000 := by
  have b1 : ("stores " : Str).length = 7 := by decide
  have a1 := num_len2 (n := few) (by omega)
  have h1 := sum_le 1000 ((("stores " : Str) ++ num few) :: fs.map rowOf) (by
    intro w hw
    rcases List.mem_cons.mp hw with rfl | hw
    · rw [app_len, b1]; omega
    · obtain ⟨f, hf, rfl⟩ := List.mem_map.mp hw
      obtain ⟨p1, p2, p3, p4⟩ := hr f hf
      exact row_len p1 p2 h3 p3 p4)
  have h4 : (("\n" : Str)).length = 1 := by decide
  have h5 := StrLaws.join_length_le "\n" ((("stores " : Str) ++ num few) :: fs.map rowOf)
  unfold textW PySem.Txt.join
  rw [StrLaws.glued_eq_join]
  rw [h4] at h5
  simp only [List.length_cons, List.length_map] at h1 h5
  omega
theorem nin_lst (z : Str) (fl : List Str) : notInD (.str z) (.lst (fl.map D.str)) = some (.bl (!decide (z ∈ fl))) := by
  simp only [notInD, in_lst]; rfl
theorem str_ix {names : List Str} {k : Nat} (h : k < names.length) : ixD (.lst (names.map D.str)) (.int (k : Int)) = some (.str names[k]) := by
  simp only [ixD, atI]
  rw [ixN_lt (by omega) (by rw [List.length_map]; omega)]
  simp [h]
end K03
namespace VS
open PySem L2
theorem eqvAll_map {α : Type} [DecidableEq α] (f : α → PyData) (h : ∀ x y, PyData.eqv (f x) (f y) = decide (x = y)) : ∀ xs ys : List α, PyData.eqvAll (xs.map f) (ys.map f) = decide (xs = ys)
  | [], [] => by simp [PyData.eqvAll]
  | [], y :: ys => by simp [PyData.eqvAll]
  | x :: xs, [] => by simp [PyData.eqvAll]
  | x :: xs, y :: ys => by simp [PyData.eqvAll, h, eqvAll_map f h xs ys, Bool.decide_and]
theorem toPys_map {α : Type} (f : α → D) (g : α → PyData) (h : ∀ x, toPy (f x) = some (g x)) : ∀ xs : List α, toPys (xs.map f) = some (xs.map g)
  | [] => by simp [toPys]
  | x :: xs => by simp [toPys, h, toPys_map f g h xs]
theorem eq_rp {x y : D} {p q : PyData} {w n w' n' : Nat} (hx : toPy x = some p) (hy : toPy y = some q) (rx : RP x w n) (ry : RP y w' n') (hn : n ≤ 64) (hn' : n' ≤ 64) : eqB0 x y = some (PyData.eqv p q) := by
  unfold eqB0
  rw [hx, hy]
  simp only [Option.bind_some]
  obtain ⟨p', e1, a⟩ := rx
  rw [hx] at e1
  cases e1
  obtain ⟨q', e2, b⟩ := ry
  rw [hy] at e2
  cases e2
  rw [if_pos]
  have d1 := Nat.le_trans a.dep hn
  have d2 := Nat.le_trans b.dep hn'
  simp [SeqAt.shaped, a.lay, b.lay, d1, d2]
theorem py_int (i j : Int) : PyData.eqv (.int i) (.int j) = decide (i = j) := by simp [PyData.eqv]; rfl
theorem py_str (i j : Str) : PyData.eqv (.str i) (.str j) = decide (i = j) := by simp [PyData.eqv]; rfl
theorem said_of {G : Fn} {ds : List D} {z : D} (h : G (ds.map Arg.v) = some (.ok z, [])) : said G ds = some z := by unfold said; rw [h]
@[simp] theorem sameI_int (i : Int) (y : D) : sameI old neg c G (.int i) y = old (.int i) y := id rfl
@[simp] theorem sameI_bl (i : Bool) (y : D) : sameI old neg c G (.bl i) y = old (.bl i) y := id rfl
@[simp] theorem sameI_str (i : Str) (y : D) : sameI old neg c G (.str i) y = old (.str i) y := id rfl
@[simp] theorem sameI_lst (i : List D) (y : D) : sameI old neg c G (.lst i) y = old (.lst i) y := id rfl
@[simp] theorem sameI_tup (i : List D) (y : D) : sameI old neg c G (.tup i) y = old (.tup i) y := id rfl
@[simp] theorem lenI_lst (i : List D) : lenI c G (.lst i) = lenD (.lst i) := id rfl
@[simp] theorem lenI_frl (i : List D) : lenI c G (.frl i) = lenD (.frl i) := id rfl
@[simp] theorem lenI_tup (i : List D) : lenI c G (.tup i) = lenD (.tup i) := id rfl
@[simp] theorem textI_int (f : D → Option D) (i : Int) : textI f c G (.int i) = f (.int i) := id rfl
theorem lenI_of {c : Nat} {G : Fn} {xs : List D} {n : Nat} (h : said G [.ins c xs] = some (.int n)) (hn : n < 2 ^ 63) : lenI c G (.ins c xs) = some (.int n) := by
  simp only [lenI, if_true, h]
  rw [if_pos ⟨by omega, by omega⟩]
theorem boolI_of {c : Nat} {G : Fn} {xs : List D} {n : Nat} (h : said G [.ins c xs] = some (.int n)) (hn : n < 2 ^ 63) : boolI c G (.ins c xs) = some (.bl ((n : Int) != 0)) := by
  simp only [boolI, if_true, h]
  rw [if_pos ⟨by omega, by omega⟩]
theorem textI_of {old : D → Option D} {c : Nat} {G : Fn} {xs : List D} {z : Str} (h : said G [.ins c xs] = some (.str z)) : textI old c G (.ins c xs) = some (.str z) := by
  simp only [textI, if_true, h]
theorem sameI_of {old : D → D → Option D} {neg : Bool} {c : Nat} {G : Fn} {xs ys : List D} {b : Bool} (h : said G [.ins c xs, .ins c ys] = some (.bl b)) : sameI old neg c G (.ins c xs) (.ins c ys) = some (.bl (b != neg)) := by
  simp only [sameI, and_self, if_true, h]
end VS
namespace K03
open PySem L2 VS
theorem ix0 (d : D) (ds : List D) : ixD (.lst (d :: ds)) (.int 0) = some d := by
  have : (0 : Int) < ((d :: ds).length : Nat) := by simp only [List.length_cons]; omega
  simp only [ixD, atI, ixN]
  rw [if_pos (by decide), if_pos this]; rfl
theorem ix1 (d e : D) (ds : List D) : ixD (.lst (d :: e :: ds)) (.int 1) = some e := by
  have : (1 : Int) < ((d :: e :: ds).length : Nat) := by simp only [List.length_cons]; omega
  simp only [ixD, atI, ixN]
  rw [if_pos (by decide), if_pos this]; rfl
theorem cut1 (d : D) (ds : List D) : cutD (d :: ds) (some 1) none = ds := by
  unfold cutD HT.sIx
  simp
instance : DecidableEq Fire := fun a b => decidable_of_iff (a.name = b.name ∧ a.hung = b.hung ∧ a.feed = b.feed) (by cases a; cases b; simp)
def Fire.py (f : Fire) : PyData := .tuple [.str f.name, .tuple (f.hung.map .int), .tuple (f.feed.map .str)]
theorem fire_py (f : Fire) : toPy f.d = some f.py := by
  simp [toPy, toPys, Fire.d, Fire.py, toPys_map D.int PyData.int (fun _ => by simp [toPy]), toPys_map D.str PyData.str (fun _ => by simp [toPy])]
theorem fire_eqv (f g : Fire) : PyData.eqv f.py g.py = decide (f = g) := by
  have h : (f = g) ↔ (f.name = g.name ∧ f.hung = g.hung ∧ f.feed = g.feed) := by cases f; cases g; simp
  have e : decide (f = g) = decide (f.name = g.name ∧ f.hung = g.hung ∧ f.feed = g.feed) := decide_eq_decide.mpr h
  rw [e]
  simp [Fire.py, PyData.eqv, PyData.eqvAll, eqvAll_map PyData.int py_int, eqvAll_map PyData.str py_str, Bool.decide_and]
  rfl
theorem rp_name {z : Str} (h : IsName z) : RP (.str z) 6 0 := rp_str h.hi fun c hc => by have := h.az c hc; omega
theorem rp_fire {few : Nat} {f : Fire} (h3 : few ≤ 3) (p1 : IsName f.name) (p2 : Hung few f.hung) (p3 : f.feed.length ≤ 16) (p4 : ∀ z ∈ f.feed, IsName z) : RP f.d 339 2 := by
  have hl := p2.len
  refine rp_tup (w := 112) (n := 1) ?_ (by simp)
  intro d hd
  simp only [List.mem_cons, List.not_mem_nil, or_false] at hd
  rcases hd with rfl | rfl | rfl
  · exact (rp_name p1).mono (by decide) (by decide)
  · exact (rp_ints (m := 96) (fun x hx => by have := p2.bd x hx; omega) (by omega)).mono (by decide) (by decide)
  · refine rp_tup (w := 6) (n := 0) (fun d hd => ?_) (by rw [List.length_map]; omega)
    obtain ⟨z, hz, rfl⟩ := List.mem_map.mp hd
    exact rp_name (p4 z hz)
theorem rp_each {few : Nat} {fs : List Fire} (h3 : few ≤ 3) (hr : RowsOk few fs) : ∀ d ∈ fs.map Fire.d, RP d 339 2 := by
  intro d hd
  obtain ⟨f, hf, rfl⟩ := List.mem_map.mp hd
  obtain ⟨p1, p2, p3, p4⟩ := hr f hf
  exact rp_fire h3 p1 p2 p3 p4
theorem rp_tfires {few : Nat} {fs : List Fire} (h3 : few ≤ 3) (hl : fs.length ≤ 16) (hr : RowsOk few fs) : RP (.tup (fs.map Fire.d)) 5440 3 := rp_tup (rp_each h3 hr) (by rw [List.length_map]; omega)
theorem rp_lfires {few : Nat} {fs : List Fire} (h3 : few ≤ 3) (hl : fs.length ≤ 16) (hr : RowsOk few fs) : RP (.lst (fs.map Fire.d)) 5440 3 := rp_lst (rp_each h3 hr) (by rw [List.length_map]; omega)
theorem py_fires (fs : List Fire) : toPys (fs.map Fire.d) = some (fs.map Fire.py) := toPys_map Fire.d Fire.py fire_py fs
theorem eq_fires {a b : Nat} {fs gs : List Fire} (ha : a ≤ 3) (hb : b ≤ 3) (hl : fs.length ≤ 16) (hk : gs.length ≤ 16) (hr : RowsOk a fs) (hs : RowsOk b gs) : eqD (.tup (fs.map Fire.d)) (.tup (gs.map Fire.d)) = some (.bl (decide (fs = gs))) := by
  have e := eq_rp (x := .tup (fs.map Fire.d)) (y := .tup (gs.map Fire.d)) (p := .tuple (fs.map Fire.py)) (q := .tuple (gs.map Fire.py)) (by simp [toPy, py_fires]) (by simp [toPy, py_fires]) (rp_tfires ha hl hr) (rp_tfires hb hk hs) (by decide) (by decide)
  unfold eqD
  rw [show eqB (.tup (fs.map Fire.d)) (.tup (gs.map Fire.d)) = eqB0 (.tup (fs.map Fire.d)) (.tup (gs.map Fire.d)) from rfl, e]
  simp [PyData.eqv, eqvAll_map Fire.py fire_eqv]
theorem eq_lnil {a : Nat} {fs : List Fire} (ha : a ≤ 3) (hl : fs.length ≤ 16) (hr : RowsOk a fs) : eqB (.lst (fs.map Fire.d)) (.lst []) = some (decide (fs = [])) := by
  have e := eq_rp (x := .lst (fs.map Fire.d)) (y := .lst []) (p := .list (fs.map Fire.py)) (q := .list []) (by simp [toPy, py_fires]) (by simp [toPy, toPys]) (rp_lfires ha hl hr) (rp_lst (w := 0) (n := 0) (m := 0) (by simp) (by simp)) (by decide) (by decide)
  rw [show eqB (.lst (fs.map Fire.d)) (.lst []) = eqB0 (.lst (fs.map Fire.d)) (.lst []) from rfl, e]
  have := eqvAll_map Fire.py fire_eqv fs []
  simpa [PyData.eqv] using this
theorem web_eq_ok {a b : Nat} {fs gs : List Fire} (ha : a ≤ 3) (hb : b ≤ 3) (hl : fs.length ≤ 16) (hk : gs.length ≤ 16) (hr : RowsOk a fs) (hs : RowsOk b gs) : g_m_Web_eq [.v (webD a fs), .v (webD b gs)] = some (.ok (.bl (decide (a = b ∧ fs = gs))), []) := by
  apply wF_eq
  refine w_def rfl rfl ?_
  simp only [st_v, st_l, st_n, st_0, h_m_Web_eq]
  by_cases h : a = b
  · simp [h, eq_fires ha hb hl hk hr hs]
  · have h2 : ¬ (a : Int) = (b : Int) := by omega
    simp [h, h2]
theorem same_webs {a b : Nat} {fs gs : List Fire} {old : D → D → Option D} {neg : Bool} (ha : a ≤ 3) (hb : b ≤ 3) (hl : fs.length ≤ 16) (hk : gs.length ≤ 16) (hr : RowsOk a fs) (hs : RowsOk b gs) : sameI old neg 0 g_m_Web_eq (webD a fs) (webD b gs) = some (.bl (decide (a = b ∧ fs = gs) != neg)) :=
  sameI_of (said_of (ds := [webD a fs, webD b gs]) (web_eq_ok ha hb hl hk hr hs))
theorem len_web {a : Nat} {fs : List Fire} (hl : fs.length ≤ 16) : lenI 0 g_m_Web_len (webD a fs) = some (.int fs.length) := lenI_of (said_of (ds := [webD a fs]) (len_ok a fs)) (by omega)
theorem bool_web {a : Nat} {fs : List Fire} (hl : fs.length ≤ 16) : boolI 0 g_m_Web_len (webD a fs) = some (.bl ((fs.length : Int) != 0)) := boolI_of (said_of (ds := [webD a fs]) (len_ok a fs)) (by omega)
theorem str_web {a : Nat} {fs : List Fire} (h3 : a ≤ 3) (hl : fs.length ≤ 16) (hr : RowsOk a fs) : textI strD 0 g_m_Web_str (webD a fs) = some (.str (textW a fs)) := textI_of (said_of (ds := [webD a fs]) (str_ok5 h3 hl hr))
theorem str_num {n : Nat} (h : n ≤ 16) : strD (.int n) = some (.str (num n)) := by
  unfold strD
  simp only []
  rw [if_pos (by unfold big; omega)]; rfl
theorem ne_feed {zs : List Str} (hl : zs.length ≤ 16) (hz : ∀ z ∈ zs, IsName z) : neD (.tup (zs.map D.str)) (.tup []) = some (.bl (!decide (zs = []))) := by
  have e := eq_rp (x := .tup (zs.map D.str)) (y := .tup []) (p := .tuple (zs.map PyData.str)) (q := .tuple []) (by simp [toPy, toPys_map D.str PyData.str (fun _ => by simp [toPy])]) (by simp [toPy, toPys])
    (rp_tup (w := 6) (n := 0) (m := 112) (fun d hd => by obtain ⟨z, hq, rfl⟩ := List.mem_map.mp hd; exact rp_name (hz z hq)) (by rw [List.length_map]; omega)) (rp_tup (w := 0) (n := 0) (m := 0) (by simp) (by simp)) (by decide) (by decide)
  unfold neD
  rw [show eqB (.tup (zs.map D.str)) (.tup []) = eqB0 (.tup (zs.map D.str)) (.tup []) from rfl, e]
  have := eqvAll_map PyData.str py_str zs []
  simp only [List.map_nil] at this
  simp [PyData.eqv, this]
theorem len_pos_eq (fs : List Fire) : ((fs.length : Int) != 0) = !decide (fs = []) := by
  cases fs with
  | nil => rfl
  | cons f fs =>
    have : ¬ ((fs.length : Int) + 1 = 0) := by omega
    simp [this]
theorem web_ok' {few : Nat} {fs : List Fire} (h1 : 1 ≤ few) (h3 : few ≤ 3) (hl : fs.length ≤ 16) (hf : Fires few fs) : g_m_Web_init [.l (.ins 0 []), .v (.int few), .v (.tup (fs.map Fire.d))] = some (.ok .non, [webM few fs]) :=
  web_ok h1 h3 hl hf fun f h => by have := (feed_in hf f h).1; omega
end K03
set_option maxHeartbeats 2000000
namespace K03
open PySem L2 VS
theorem fires_app {few : Nat} {fs : List Fire} {f : Fire} (h : Fires few fs) (hn : IsName f.name) (hx : f.name ∉ fs.map Fire.name) (hh : Hung few f.hung) (nd : f.feed.Nodup) (hf : ∀ z ∈ f.feed, z ∈ fs.map Fire.name) : Fires few (fs ++ [f]) := by
  refine ⟨?_, ?_, ?_, ?_⟩
  · rw [List.map_append, List.nodup_append]
    refine ⟨h.nd, by simp, fun a ha b hb e => hx ?_⟩
    have q : b = f.name := by simpa using hb
    rw [← q, ← e]; exact ha
  · intro g hg
    rcases List.mem_append.mp hg with q | q
    · exact h.nm g q
    · rw [show g = f by simpa using q]; exact hn
  · intro g hg
    rcases List.mem_append.mp hg with q | q
    · exact h.hg g q
    · rw [show g = f by simpa using q]; exact hh
  · intro i g hi
    rcases Nat.lt_trichotomy i fs.length with q | q | q
    · rw [List.getElem?_append_left q] at hi
      rw [List.take_append_of_le_length (Nat.le_of_lt q)]
      exact h.fd i g hi
    · subst q
      rw [List.getElem?_append_right (Nat.le_refl _)] at hi
      have : g = f := by simpa using hi.symm
      subst this
      rw [List.take_append_of_le_length (Nat.le_refl _), List.take_length]
      exact ⟨nd, hf⟩
    · rw [List.getElem?_eq_none (by simp; omega)] at hi
      cases hi
theorem fires_pre {few : Nat} {fs as bs : List Fire} (h : Fires few fs) (e : fs = as ++ bs) : Fires few as := by
  subst e
  refine ⟨?_, fun f hf => h.nm f (List.mem_append_left _ hf), fun f hf => h.hg f (List.mem_append_left _ hf), fun i f hi => ?_⟩
  · have := h.nd
    rw [List.map_append] at this
    exact (List.nodup_append.mp this).1
  · have hl : i < as.length := (List.getElem?_eq_some_iff.mp hi).1
    have := h.fd i f (by rw [List.getElem?_append_left hl]; exact hi)
    rwa [List.take_append_of_le_length (Nat.le_of_lt hl)] at this
end K03
namespace K03
open PySem L2 VS
theorem fires_nil (few : Nat) : Fires few ([] : List Fire) := by constructor <;> simp
/-! ### things of any kind -/
structure Ok0 (d : D) : Prop where
  ty : (tyD d).isSome = true
  st : ∀ z, d = .str z → z.length ≤ 100 ∧ ∀ c ∈ z.cps.toList, c < 128
structure Ok1 (d : D) : Prop where
  o : Ok0 d
  el : ∀ xs, d = .tup xs → xs.length ≤ 100 ∧ ∀ x ∈ xs, Ok0 x
structure Ok2 (d : D) : Prop where
  o : Ok0 d
  el : ∀ xs, d = .tup xs → xs.length ≤ 100 ∧ ∀ x ∈ xs, Ok1 x
structure Ok3 (d : D) : Prop where
  o : Ok0 d
  el : ∀ xs, d = .tup xs → xs.length ≤ 100 ∧ ∀ x ∈ xs, Ok2 x
def nameB : D → Bool
  | .str z => decide (1 ≤ z.length) && (decide (z.length ≤ 6) && z.cps.toList.all fun c => decide (97 ≤ c) && decide (c ≤ 122))
  | _ => false
theorem nameB_iff (z : Str) : nameB (.str z) = true ↔ IsName z := by
  simp only [nameB, Bool.and_eq_true, decide_eq_true_eq, List.all_eq_true]
  exact ⟨fun h => ⟨h.1, h.2.1, fun c hc => h.2.2 c hc⟩, fun h => ⟨h.lo, h.hi, fun c hc => h.az c hc⟩⟩
theorem is_name_gen {d : D} (h : Ok0 d) : g_p_is_name [.v d] = some (.ok (.bl (nameB d)), []) := by
  have ty := h.ty
  have st := h.st
  apply wF_eq
  refine w_def rfl rfl ?_
  simp only [st_v, st_l, st_n, st_0, h_p_is_name]
  cases d <;> simp [tyD] at ty <;> try (simp [nameB]; done)
  rename_i z
  obtain ⟨hl, hc⟩ := st z rfl
  have e1 : z.length ≤ 16000000 := by omega
  by_cases h1 : 1 ≤ z.length
  · by_cases h2 : z.length ≤ 6
    · have e2 : (1 : Int) ≤ z.length := by omega
      have e3 : (z.length : Int) ≤ 6 := by omega
      obtain ⟨cs, hcs⟩ : ∃ cs, cs = z.cps.toList := ⟨_, rfl⟩
      have e4 : cs.length ≤ 1000000 := by rw [hcs, Array.length_toList]; exact Nat.le_trans h2 (by decide)
      have ea : (Str.ofString "a").cps.toList = [97] := by decide +kernel
      have ez : (Str.ofString "z").cps.toList = [122] := by decide +kernel
      simp [e1, e2, e3, signs, ← hcs, nameB, h1, h2]
      refine lc_map (fun c => .bl (decide (97 ≤ c) && decide (c ≤ 122))) e4 ?_ fun x hx => ?_
      · simp
        rw [hcs]; simp [h1, h2]
      · simp [ea, ez, List.cons_lt_cons_iff]
        by_cases q1 : 97 ≤ x
        · by_cases q2 : x ≤ 122
          · simp [q1, q2, Nat.not_lt.mpr q1, Nat.not_lt.mpr q2, ea, ez, List.cons_lt_cons_iff]
          · simp [q1, q2, Nat.not_lt.mpr q1, Nat.lt_of_not_le q2, ea, ez, List.cons_lt_cons_iff]
        · simp [q1, Nat.lt_of_not_le q1, ea, ez, List.cons_lt_cons_iff]
    · have e2 : (1 : Int) ≤ z.length := by omega
      have e3 : ¬ (z.length : Int) ≤ 6 := by omega
      simp [e1, e2, e3, nameB, h2]
  · have e2 : ¬ (1 : Int) ≤ z.length := by omega
    simp [e1, e2, nameB, h1]
theorem sign_in {c : Nat} (h : c < 128) : inD (.str ⟨#[c]⟩) (.str "abcdefghijklmnopqrstuvwxyz") = some (.bl (decide (97 ≤ c) && decide (c ≤ 122))) := by
  have : ∀ k, k < 128 → inB (.str ⟨#[k]⟩) (.str "abcdefghijklmnopqrstuvwxyz") = some (decide (97 ≤ k) && decide (k ≤ 122)) := by decide +kernel
  unfold inD
  rw [this c h]; rfl
def posB : D → Bool
  | .int i => decide (0 < i)
  | _ => false
def hungB (few : Nat) : D → Bool
  | .tup xs => decide (xs.length = few) && (xs.all (wholeB 0 9) && xs.any posB)
  | _ => false
theorem whole_is {d : D} (h : wholeB 0 9 d = true) : ∃ i : Int, d = .int i ∧ 0 ≤ i ∧ i ≤ 9 := by
  cases d with
  | int i =>
    simp only [wholeB, Bool.and_eq_true, decide_eq_true_eq] at h
    exact ⟨i, rfl, h.1, h.2⟩
  | _ => simp [wholeB] at h
theorem bls_mapD (f : D → Bool) : ∀ xs : List D, blsOf (xs.map fun x => .bl (f x)) = some (xs.map f)
  | [] => rfl
  | x :: xs => by rw [List.map_cons, blsOf, bls_mapD f xs]; rfl
theorem are_hungers_gen {few : Nat} {d : D} (h : Ok1 d) : g_p_are_hungers [.v d, .v (.int few)] = some (.ok (.bl (hungB few d)), []) := by
  have ty := h.o.ty
  have el := h.el
  apply wF_eq
  refine w_def rfl rfl ?_
  simp only [st_v, st_l, st_n, st_0, h_p_are_hungers]
  cases d <;> simp [tyD] at ty <;> try (simp [hungB]; done)
  rename_i xs
  obtain ⟨hl, hx⟩ := el xs rfl
  by_cases h1 : xs.length = few
  · simp [h1, hungB]
    refine lc_mapD (fun x => .bl (wholeB 0 9 x)) (by omega) ?_ fun x hm => ?_
    · simp
      by_cases h2 : xs.all (wholeB 0 9) = true
      · have h2' : ∀ x ∈ xs, wholeB 0 9 x = true := List.all_eq_true.mp h2
        simp [h2]
        refine lc_mapD (fun x => .bl (posB x)) (by omega) ?_ fun x hm => ?_
        · simp [h1, h2]
        · obtain ⟨i, rfl, _⟩ := whole_is (h2' x hm)
          simp [posB]
      · have h3 : xs.all (wholeB 0 9) = false := by simpa using h2
        simp [h3]
    · simp [whole_ok x 0 9 (hx x hm).ty]
  · have h2 : ¬ (xs.length : Int) = (few : Int) := by omega
    simp [h1, h2, hungB]
def isOf (names : List Str) : D → Bool
  | .str z => decide (z ∈ names)
  | _ => false
def strsIn : List D → List Str
  | [] => []
  | .str z :: ds => z :: strsIn ds
  | _ :: ds => strsIn ds
def feedB (names : List Str) : D → Bool
  | .tup ys => ys.all (isOf names) && decide (strsIn ys).Nodup
  | _ => false
theorem strs_of {names : List Str} : ∀ {ys : List D}, ys.all (isOf names) = true → ys = (strsIn ys).map D.str ∧ ∀ z ∈ strsIn ys, z ∈ names
  | [], _ => ⟨rfl, by simp [strsIn]⟩
  | d :: ys, h => by
    rw [List.all_cons, Bool.and_eq_true] at h
    obtain ⟨e, h2⟩ := strs_of h.2
    cases d with
    | str z =>
      refine ⟨by rw [strsIn, List.map_cons, ← e], fun y hy => ?_⟩
      rcases List.mem_cons.mp hy with q | q
      · rw [q]; simpa [isOf] using h.1
      · exact h2 y q
    | _ => simp [isOf] at h
theorem are_feeders_gen {fs : List Fire} {d : D} (h : Ok1 d) : g_p_are_feeders [.v d, .l (.dct (fireKs fs))] = some (.ok (.bl (feedB (fs.map Fire.name) d)), [.dct (fireKs fs)]) := by
  have ty := h.o.ty
  have el := h.el
  apply wF_eq
  refine w_def rfl rfl ?_
  simp only [st_v, st_l, st_n, st_0, h_p_are_feeders]
  cases d <;> simp [tyD] at ty <;> try (simp [feedB]; done)
  rename_i ys
  obtain ⟨hl, hx⟩ := el ys rfl
  simp
  refine lc_mapD (fun x => .bl (isOf (fs.map Fire.name) x)) (by omega) ?_ fun x hm => ?_
  · simp [-List.mem_map]
    by_cases h2 : ys.all (isOf (fs.map Fire.name)) = true
    · obtain ⟨e, _⟩ := strs_of h2
      have e2 : lenSetD (.tup ys) = some (.int (distinct (strsIn ys) : Nat)) := by
        rw [e]
        have hl2 : (strsIn ys).length ≤ 1000 := by
          have := congrArg List.length e
          simp at this; omega
        simp only [lenSetD, strsOf_map, Option.bind_some]
        rw [if_pos hl2, ← e]
      have e3 : (strsIn ys).length = ys.length := by
        have := congrArg List.length e
        simpa using this.symm
      have e4 : decide ((distinct (strsIn ys) : Int) = (ys.length : Int)) = decide (strsIn ys).Nodup := by
        rw [decide_eq_decide, ← distinct_iff, e3]
        omega
      simp [h2, e2, e4, feedB]
    · have h3 : ys.all (isOf (fs.map Fire.name)) = false := by simpa using h2
      simp [h3, feedB]
  · have tx := (hx x hm).ty
    cases x <;> simp [tyD] at tx <;> simp [isOf, val_ks, -List.mem_map]
def hearthB (few : Nat) (names : List Str) : D → Bool
  | .tup [a, b, c] => nameB a && (!isOf names a && (hungB few b && feedB names c))
  | _ => false
theorem three {xs : List D} (h : xs.length = 3) : ∃ a b c, xs = [a, b, c] := by
  match xs, h with
  | [a, b, c], _ => exact ⟨a, b, c, rfl⟩
theorem hearth_not {few : Nat} {names : List Str} {xs : List D} (h : ¬ xs.length = 3) : hearthB few names (.tup xs) = false := by
  match xs, h with
  | [], _ => rfl
  | [_], _ => rfl
  | [_, _], _ => rfl
  | [_, _, _], h => exact absurd rfl h
  | _ :: _ :: _ :: _ :: _, _ => rfl
theorem is_hearth_gen {few : Nat} {fs : List Fire} {d : D} (h : Ok2 d) : g_p_is_hearth [.v d, .v (.int few), .l (.dct (fireKs fs))] = some (.ok (.bl (hearthB few (fs.map Fire.name) d)), [.dct (fireKs fs)]) := by
  have ty := h.o.ty
  have el := h.el
  apply wF_eq
  refine w_def rfl rfl ?_
  simp only [st_v, st_l, st_n, st_0, h_p_is_hearth]
  cases d <;> simp [tyD] at ty <;> try (simp [hearthB]; done)
  rename_i xs
  obtain ⟨hl, hx⟩ := el xs rfl
  by_cases h3 : xs.length = 3
  · obtain ⟨a, b, c, rfl⟩ := three h3
    have na := is_name_gen (hx a (by simp)).o
    have hb := are_hungers_gen (few := few) (hx b (by simp))
    have fc := are_feeders_gen (fs := fs) (hx c (by simp))
    cases q : nameB a with
    | false => simp [na, q, hearthB]
    | true =>
      obtain ⟨z, rfl⟩ : ∃ z, a = .str z := by
        cases a <;> simp [nameB] at q
        exact ⟨_, rfl⟩
      by_cases qi : z ∈ fs.map Fire.name
      · simp [na, q, val_ks, qi, hearthB, isOf, -List.mem_map]
      · simp [na, q, val_ks, qi, hearthB, isOf, hb, -List.mem_map]
        cases qh : hungB few b with
        | false => simp [qh]
        | true => simp [qh, fc, q, qi, -List.mem_map]
  · have e3 : ¬ (xs.length : Int) = 3 := by omega
    simp [e3, hearth_not h3]
theorem ints_of : ∀ {bs : List D}, (∀ x ∈ bs, wholeB 0 9 x = true) → ∃ hs : List Int, bs = hs.map D.int ∧ ∀ x ∈ hs, 0 ≤ x ∧ x ≤ 9
  | [], _ => ⟨[], rfl, by simp⟩
  | x :: bs, all => by
    obtain ⟨hs, e1, e2⟩ := ints_of fun y hy => all y (List.mem_cons_of_mem _ hy)
    obtain ⟨i, rfl, i1, i2⟩ := whole_is (all x (by simp))
    exact ⟨i :: hs, by rw [e1]; rfl, fun y hy => by
      rcases List.mem_cons.mp hy with q | q
      · rw [q]; exact ⟨i1, i2⟩
      · exact e2 y q⟩
theorem good_of {few : Nat} {names : List Str} {d : D} (h : hearthB few names d = true) : ∃ f : Fire, d = f.d ∧ IsName f.name ∧ f.name ∉ names ∧ Hung few f.hung ∧ f.feed.Nodup ∧ ∀ z ∈ f.feed, z ∈ names := by
  cases d with
  | tup xs =>
    by_cases h3 : xs.length = 3
    · obtain ⟨a, b, c, rfl⟩ := three h3
      simp only [hearthB, Bool.and_eq_true, Bool.not_eq_true'] at h
      obtain ⟨h1, h2, h4, h5⟩ := h
      cases a with
      | str z =>
        cases b with
        | tup bs =>
          cases c with
          | tup cs =>
            simp only [hungB, Bool.and_eq_true, decide_eq_true_eq] at h4
            simp only [feedB, Bool.and_eq_true, decide_eq_true_eq] at h5
            obtain ⟨e, hin⟩ := strs_of h5.1
            have hints := ints_of (List.all_eq_true.mp h4.2.1)
            obtain ⟨hs, rfl, hbd⟩ := hints
            refine ⟨⟨z, hs, strsIn cs⟩, by rw [Fire.d, ← e], (nameB_iff z).mp h1, by simpa [isOf] using h2, ⟨by simpa using h4.1, hbd, ?_⟩, h5.2, hin⟩
            obtain ⟨x, hx, hp⟩ := List.any_eq_true.mp h4.2.2
            obtain ⟨i, hi, rfl⟩ := List.mem_map.mp hx
            exact ⟨i, hi, by simpa [posB] using hp⟩
          | _ => simp [feedB] at h5
        | _ => simp [hungB] at h4
      | _ => simp [nameB] at h1
    · rw [hearth_not h3] at h; cases h
  | _ => simp [hearthB] at h
theorem strsIn_map : ∀ zs : List Str, strsIn (zs.map D.str) = zs
  | [] => rfl
  | z :: zs => by rw [List.map_cons, strsIn, strsIn_map zs]
theorem good_is {few : Nat} {names : List Str} {f : Fire} (h1 : IsName f.name) (h2 : f.name ∉ names) (h3 : Hung few f.hung) (h4 : f.feed.Nodup) (h5 : ∀ z ∈ f.feed, z ∈ names) : hearthB few names f.d = true := by
  have q1 := (nameB_iff f.name).mpr h1
  have q2 : hungB few (.tup (f.hung.map D.int)) = true := by
    simp only [hungB, Bool.and_eq_true, decide_eq_true_eq, List.length_map, List.all_eq_true, List.any_eq_true]
    refine ⟨h3.len, fun x hx => ?_, ?_⟩
    · obtain ⟨i, hi, rfl⟩ := List.mem_map.mp hx
      have := h3.bd i hi
      simp [wholeB, this.1, this.2]
    · obtain ⟨i, hi, hp⟩ := h3.pos
      exact ⟨.int i, List.mem_map.mpr ⟨i, hi, rfl⟩, by simpa [posB] using hp⟩
  have q3 : feedB names (.tup (f.feed.map D.str)) = true := by
    simp only [feedB, strsIn_map, Bool.and_eq_true, decide_eq_true_eq, List.all_eq_true]
    refine ⟨fun x hx => ?_, h4⟩
    obtain ⟨z, hz, rfl⟩ := List.mem_map.mp hx
    simpa [isOf] using h5 z hz
  simp only [hearthB, Fire.d, q1, q2, q3, isOf, Bool.and_true, Bool.true_and, Bool.not_eq_true', decide_eq_false_iff_not]
  exact h2
end K03
namespace K03
open PySem L2 VS
def nameOf : D → Str
  | .tup (.str z :: _) => z
  | _ => ⟨#[]⟩
@[simp] theorem nameOf_fire (f : Fire) : nameOf f.d = f.name := id rfl
def badAt (few : Nat) : List Str → List D → Option Nat
  | _, [] => none
  | names, d :: ds => if hearthB few names d = true then (badAt few (names ++ [nameOf d]) ds).map (· + 1) else some 0
theorem bad_lt {few : Nat} : ∀ {names : List Str} {ds : List D} {k : Nat}, badAt few names ds = some k → k < ds.length
  | _, [], k, h => by cases h
  | names, d :: ds, k, h => by
    rw [badAt] at h
    split at h
    · cases q : badAt few (names ++ [nameOf d]) ds with
      | none => rw [q] at h; cases h
      | some j =>
        rw [q] at h
        have := bad_lt q
        cases h
        simp; omega
    · cases h; simp
/-- so far the things ahead are hearths -/
structure Pre (few : Nat) (ds pre post : List D) (gs : List Fire) : Prop where
  e : pre = gs.map Fire.d
  ok : Fires few gs
  b : badAt few [] ds = (badAt few (gs.map Fire.name) post).map (· + gs.length)
theorem pre_0 (few : Nat) (ds : List D) : Pre few ds [] ds [] := ⟨rfl, fires_nil few, by simp⟩
theorem pre_step {few : Nat} {ds pre post : List D} {x : D} {gs : List Fire} (p : Pre few ds pre (x :: post) gs) (h : hearthB few (gs.map Fire.name) x = true) : ∃ f, x = f.d ∧ f.name ∉ gs.map Fire.name ∧ Pre few ds (pre ++ [x]) post (gs ++ [f]) := by
  obtain ⟨f, rfl, g1, g2, g3, g4, g5⟩ := good_of h
  refine ⟨f, rfl, g2, by rw [p.e]; simp, fires_app p.ok g1 g2 g3 g4 g5, ?_⟩
  rw [p.b, badAt, if_pos h, nameOf_fire, List.map_append, List.map_cons, List.map_nil, Option.map_map]
  congr 1
  funext k
  simp; omega
theorem pre_bad {few : Nat} {ds pre post : List D} {x : D} {gs : List Fire} (p : Pre few ds pre (x :: post) gs) (h : hearthB few (gs.map Fire.name) x = false) : badAt few [] ds = some gs.length := by
  rw [p.b, badAt, if_neg (by simp [h])]
  simp
theorem pre_end {few : Nat} {ds pre : List D} {gs : List Fire} (p : Pre few ds pre [] gs) : badAt few [] ds = none := by rw [p.b, badAt]; rfl
theorem put_fire {gs : List Fire} {f : Fire} (h : f.name ∉ gs.map Fire.name) : putD (fireKs gs) (.inr f.name) f.d = fireKs (gs ++ [f]) := by
  have h8 : ((fireKs gs).any fun kv => decide (kv.1 = .inr f.name)) = false := by
    rw [List.any_eq_false]
    intro kv hkv
    unfold fireKs at hkv
    obtain ⟨g, h1, rfl⟩ := List.mem_map.mp hkv
    simp only [decide_eq_true_eq]
    intro z
    exact h (List.mem_map.mpr ⟨g, h1, by simpa using z⟩)
  unfold putD
  rw [h8]
  simp [fireKs]
theorem enum_zip (ds : List D) : enumFrom 0 ds = (ds.zipIdx).map fun p => .tup [.int p.2, p.1] := by
  have := enum_mapF (id : D → D) 0 ds
  simpa using this
theorem zip_at {ds : List D} {pre post : List (D × Nat)} {p : D × Nat} (h : ds.zipIdx = pre ++ p :: post) : p.2 = pre.length ∧ ds = pre.map (·.1) ++ p.1 :: post.map (·.1) := by
  have e1 : ds.zipIdx.map (·.1) = ds := by simp
  constructor
  · have := congrArg (·[pre.length]?) h
    simp at this
    obtain ⟨x, hx, e⟩ := this
    rw [← e]
  · rw [← e1, h]; simp
/-- what a web makes of a tuple of things -/
def NameK (few : Nat) (ds : List D) (r : Res) : Prop := (∃ fs, ds = fs.map Fire.d ∧ Fires few fs ∧ badAt few [] ds = none ∧ r = .nw (.dct (fireKs fs))) ∨ ∃ k : Nat, badAt few [] ds = some k ∧ r = .ex 1 [.int k]
theorem by_name_gen {few : Nat} {ds : List D} (hl : ds.length ≤ 16) (hd : ∀ d ∈ ds, Ok2 d) : wF (g_p_hearths_by_name [.v (.int few), .v (.tup ds)]) fun r ms => NameK few ds r ∧ ms = [] := by
  refine w_def rfl rfl ?_
  simp only [st_v, st_l, st_n, st_0, h_p_hearths_by_name]
  have e : ¬ (16 : Int) < ds.length := by omega
  simp [e]
  rw [enum_zip]
  refine for_inv _ (fun pre post ρ => ∃ (gs : List Fire) (o o' : Option D), Pre few ds (pre.map (·.1)) (post.map (·.1)) gs ∧ ρ = [some (.val (.int few)), some (.val (.tup ds)), some (.own false (.dct (fireKs gs))), o.map Sl.val, o'.map Sl.val]) ds.zipIdx ⟨[], none, none, by simpa using pre_0 few ds, rfl⟩ ?_ ?_
  · rintro ρ ⟨gs, o, o', p, rfl⟩
    have e1 : ds.zipIdx.map (·.1) = ds := by simp
    rw [e1] at p
    have n : NameK few ds (.nw (.dct (fireKs gs))) := .inl ⟨gs, p.e, p.ok, pre_end p, rfl⟩
    simp [n]
  · rintro pre p post ρ hx ⟨gs, o, o', hp, rfl⟩
    obtain ⟨e1, e2⟩ := zip_at hx
    have hm : p.1 ∈ ds := by rw [e2]; simp
    have hh := is_hearth_gen (few := few) (fs := gs) (hd p.1 hm)
    have e3 : gs.length = pre.length := by
      have := congrArg List.length hp.e
      simpa using this.symm
    have e4 : pre.length < 16 := by
      have := congrArg List.length e2
      simp at this; omega
    cases q : hearthB few (gs.map Fire.name) p.1 with
    | false =>
      have b := pre_bad (x := p.1) (by simpa using hp) q
      have n : NameK few ds (.ex 1 [.int (p.2 : Nat)]) := .inr ⟨gs.length, b, by rw [e1, e3]⟩
      have e5 : p.2 < 1000000000 := by omega
      simp [hh, q, n, e5, numD]
    | true =>
      obtain ⟨f, ef, nf, hp2⟩ := pre_step (x := p.1) (by simpa using hp) q
      have h9 : (fireKs gs).length < 16000000 := by simp [fireKs]; omega
      have hn : ixD p.1 (.int 0) = some (.str f.name) := by rw [ef]; simp [Fire.d]
      have hput : putD (fireKs gs) (.inr f.name) p.1 = fireKs (gs ++ [f]) := by rw [ef]; exact put_fire nf
      simp [hh, q, hn, h9, hput]
      exact hide ⟨gs ++ [f], some (.int p.2), some p.1, by simpa using hp2, by rw [hput]; rfl⟩
theorem by_name_non {few : Nat} {d : D} (h : Ok3 d) (hd : ∀ ds, d = .tup ds → ¬ ds.length ≤ 16) : g_p_hearths_by_name [.v (.int few), .v d] = some (.ex 1 [.non], []) := by
  have ty := h.o.ty
  apply wF_eq
  refine w_def rfl rfl ?_
  simp only [st_v, st_l, st_n, st_0, h_p_hearths_by_name]
  cases d <;> simp [tyD] at ty <;> try (simp; done)
  rename_i xs
  have e : (16 : Int) < xs.length := by have := hd xs rfl; omega
  simp [e]
/-- the telling of a web -/
def InitK (few : Nat) (d : D) (r : Res) (ms : List MO) : Prop := (∃ fs, d = .tup (fs.map Fire.d) ∧ fs.length ≤ 16 ∧ Fires few fs ∧ badAt few [] (fs.map Fire.d) = none ∧ r = .ok .non ∧ ms = [webM few fs]) ∨ (∃ (ds : List D) (k : Nat) (m : MO), d = .tup ds ∧ ds.length ≤ 16 ∧ badAt few [] ds = some k ∧ r = .ex 1 [.int k] ∧ ms = [m]) ∨ ((∀ ds, d = .tup ds → ¬ ds.length ≤ 16) ∧ ∃ m, r = .ex 1 [.non] ∧ ms = [m])
theorem init_gen {few : Nat} {d : D} (h1 : 1 ≤ few) (h3 : few ≤ 3) (h : Ok3 d) : wF (g_m_Web_init [.l (.ins 0 []), .v (.int few), .v d]) (InitK few d) := by
  have e1 : (1 : Int) ≤ few := by omega
  have e2 : (few : Int) ≤ 3 := by omega
  by_cases hd : ∃ ds, d = .tup ds ∧ ds.length ≤ 16
  · obtain ⟨ds, rfl, hl⟩ := hd
    obtain ⟨r, ms, e, n, rfl⟩ := wF_ex (by_name_gen (few := few) hl (h.el ds rfl).2)
    refine w_def rfl rfl ?_
    simp only [st_v, st_l, st_n, st_0, h_m_Web_init]
    rcases n with ⟨fs, rfl, hf, hb, rfl⟩ | ⟨k, hb, rfl⟩
    · have n : InitK few (.tup (fs.map Fire.d)) (.ok .non) [webM few fs] := .inl ⟨fs, rfl, by simpa using hl, hf, hb, rfl, rfl⟩
      simp [e1, e2, e, VS.putAt]
      exact n
    · simp [e1, e2, e]
      exact .inr (.inl ⟨ds, k, _, rfl, hl, hb, rfl, rfl⟩)
  · have hd' : ∀ ds, d = .tup ds → ¬ ds.length ≤ 16 := fun ds e q => hd ⟨ds, e, q⟩
    have e := by_name_non (few := few) h hd'
    refine w_def rfl rfl ?_
    simp only [st_v, st_l, st_n, st_0, h_m_Web_init]
    simp [e1, e2, e]
    exact .inr (.inr ⟨hd', _, rfl, rfl⟩)
end K03
set_option maxHeartbeats 2000000
namespace VS
open PySem L2
theorem flatFs_map {α : Type} (f : α → D) (h : ∀ x, flatF (f x) = true) : ∀ xs : List α, flatFs (xs.map f) = true
  | [] => by simp [flatFs]
  | x :: xs => by simp [flatFs, h, flatFs_map f h xs]
theorem flatFk_map {α : Type} (k : α → Key) (f : α → D) (h : ∀ x, flatF (f x) = true) : ∀ xs : List α, flatFk (xs.map fun x => (k x, f x)) = true
  | [] => by simp [flatFk]
  | x :: xs => by simp [flatFk, h, flatFk_map k f h xs]
end VS
namespace K03
open PySem L2 VS
theorem flat_fire (f : Fire) : flatF f.d = true := by
  simp [Fire.d, flatF, flatFs, flatFs_map D.int (fun _ => by simp [flatF]), flatFs_map D.str (fun _ => by simp [flatF])]
theorem flat_web (few : Nat) (fs : List Fire) : flatFs [.dct (fs.map fun f => (.inr f.name, f.d)), .int few, .tup (fs.map Fire.d)] = true := by
  simp [flatFs, flatF, flatFs_map Fire.d flat_fire, flatFk_map (fun f : Fire => (.inr f.name : Key)) Fire.d flat_fire]
theorem eq_other {a : Nat} {fs : List Fire} {d : D} (h : (tyD d).isSome = true) : said g_m_Web_eq [webD a fs, d] = some (.bl false) := by
  have i : isiC 0 d = some false := by cases d <;> simp [tyD] at h <;> rfl
  have q : g_m_Web_eq [.v (webD a fs), .v d] = some (.ok (.bl false), []) := by
    apply wF_eq
    refine w_def rfl rfl ?_
    simp only [st_v, st_l, st_n, st_0, h_m_Web_eq]
    simp [i]
  exact said_of (ds := [webD a fs, d]) q
structure Sames (x y : D) (t : Bool) : Prop where
  a : sameJ eqD false 0 g_m_Web_eq x y = some (.bl t)
  b : sameJ eqD false 0 g_m_Web_eq y x = some (.bl t)
  c : sameJ neD true 0 g_m_Web_eq x y = some (.bl (!t))
  d : sameJ neD true 0 g_m_Web_eq y x = some (.bl (!t))
  e : inJ 0 g_m_Web_eq y (.lst [x]) = some (.bl t)
  f : inJ 0 g_m_Web_eq x (.tup [y]) = some (.bl t)
theorem sames_other {a : Nat} {fs : List Fire} {d : D} (h : (tyD d).isSome = true) : Sames (webD a fs) d false := by
  have e := eq_other (a := a) (fs := fs) h
  unfold webD at e ⊢
  constructor
  · cases d <;> simp [tyD] at h <;> simp [sameJ, saysB, tyD, e]
  · cases d <;> simp [tyD] at h <;> simp [sameJ, saysB, tyD, e]
  · cases d <;> simp [tyD] at h <;> simp [sameJ, saysB, tyD, e]
  · cases d <;> simp [tyD] at h <;> simp [sameJ, saysB, tyD, e]
  · cases d <;> simp [tyD] at h <;> simp [inJ, ownD, eqOwn, blOf, tyD, e]
  · cases d <;> simp [tyD] at h <;> simp [inJ, ownD, eqOwn, blOf, tyD, e]
theorem sames_webs {a b : Nat} {fs gs : List Fire} (ha : a ≤ 3) (hb : b ≤ 3) (hl : fs.length ≤ 16) (hk : gs.length ≤ 16) (hr : RowsOk a fs) (hs : RowsOk b gs) : Sames (webD a fs) (webD b gs) (decide (a = b ∧ fs = gs)) := by
  have q1 := said_of (ds := [webD a fs, webD b gs]) (web_eq_ok ha hb hl hk hr hs)
  have q2 := said_of (ds := [webD b gs, webD a fs]) (web_eq_ok hb ha hk hl hs hr)
  have q3 := said_of (ds := [webD a fs, webD a fs]) (web_eq_ok ha ha hl hl hr hr)
  have q4 := said_of (ds := [webD b gs, webD b gs]) (web_eq_ok hb hb hk hk hs hs)
  have sy : decide (b = a ∧ gs = fs) = decide (a = b ∧ fs = gs) := by
    rw [decide_eq_decide]; exact ⟨fun h => ⟨h.1.symm, h.2.symm⟩, fun h => ⟨h.1.symm, h.2.symm⟩⟩
  rw [sy] at q2
  simp only [and_self, decide_true] at q3 q4
  have f1 := flat_web a fs
  have f2 := flat_web b gs
  generalize decide (a = b ∧ fs = gs) = t at *
  unfold webD at q1 q2 q3 q4 ⊢
  constructor
  · simp only [sameJ, sameI, and_self, if_true, q1]; simp
  · simp only [sameJ, sameI, and_self, if_true, q2]; simp
  · simp only [sameJ, sameI, and_self, if_true, q1]; simp
  · simp only [sameJ, sameI, and_self, if_true, q2]; simp
  · simp only [inJ, ownD, eqOwn, Bool.or_self, if_true, f1, f2, q3, q1, blOf, and_self]; simp
  · simp only [inJ, ownD, eqOwn, Bool.or_self, if_true, f1, f2, q4, q2, blOf, and_self]; simp
theorem six_eq (t : Bool) : eqD (.lst [.bl t, .bl t, .bl t, .bl t, .bl t, .bl t]) (.lst [.bl t, .bl t, .bl t, .bl t, .bl t, .bl t]) = some (.bl true) := by cases t <;> rfl
theorem six_mul (t : Bool) : mulE (.lst [.bl t]) (.int 6) = some (.lst [.bl t, .bl t, .bl t, .bl t, .bl t, .bl t]) := by cases t <;> rfl
theorem alike_of {x y : D} {t : Bool} (s : Sames x y t) : g_l_alike [.v x, .v y, .v (.bl t)] = some (.ok (.bl true), []) := by
  apply wF_eq
  refine w_def rfl rfl ?_
  simp only [st_v, st_l, st_n, st_0, h_l_alike]
  simp [s.a, s.b, s.c, s.d, s.e, s.f, six_mul, six_eq, blsOf]
end K03
set_option maxHeartbeats 2000000
namespace VS
open PySem L2
theorem cut_sub {xs : List D} {lo hi : Option Int} : ∀ x ∈ cutD xs lo hi, x ∈ xs := fun x h => List.mem_of_mem_drop (List.mem_of_mem_take h)
theorem cut_len (xs : List D) (lo hi : Option Int) : (cutD xs lo hi).length ≤ xs.length := by
  unfold cutD
  rw [List.length_take, List.length_drop]; omega
end VS
namespace K03
open PySem L2 VS
def okn : Nat → D → Prop
  | 0, d => Ok0 d
  | n + 1, d => Ok0 d ∧ ∀ xs, d = .tup xs → xs.length ≤ 100 ∧ ∀ x ∈ xs, okn n x
theorem okn_0 : ∀ {n : Nat} {d : D}, okn n d → Ok0 d
  | 0, _, h => h
  | _ + 1, _, h => h.1
theorem okn_leaf {d : D} (h : Ok0 d) (hn : ∀ xs, d ≠ .tup xs) : ∀ n, okn n d
  | 0 => h
  | _ + 1 => ⟨h, fun xs e => absurd e (hn xs)⟩
theorem ok0_tup (xs : List D) : Ok0 (.tup xs) := ⟨rfl, fun _ h => by cases h⟩
theorem okn_tup {n : Nat} {xs : List D} (h : xs.length ≤ 100) (hx : ∀ x ∈ xs, okn n x) : okn (n + 1) (.tup xs) := ⟨ok0_tup xs, fun ys e => by cases e; exact ⟨h, hx⟩⟩
theorem okn_non (n : Nat) : okn n .non := okn_leaf ⟨rfl, fun _ h => by cases h⟩ (fun _ h => by cases h) n
theorem okn_bl (n : Nat) (b : Bool) : okn n (.bl b) := okn_leaf ⟨rfl, fun _ h => by cases h⟩ (fun _ h => by cases h) n
theorem okn_int (n : Nat) (b : Int) : okn n (.int b) := okn_leaf ⟨rfl, fun _ h => by cases h⟩ (fun _ h => by cases h) n
theorem okn_lst (n : Nat) (b : List D) : okn n (.lst b) := okn_leaf ⟨rfl, fun _ h => by cases h⟩ (fun _ h => by cases h) n
theorem okn_dct (n : Nat) (b : List (Key × D)) : okn n (.dct b) := okn_leaf ⟨rfl, fun _ h => by cases h⟩ (fun _ h => by cases h) n
theorem okn_str (n : Nat) {z : Str} (h : z.length ≤ 100) (hc : ∀ c ∈ z.cps.toList, c < 128) : okn n (.str z) := okn_leaf ⟨rfl, fun _ h => by cases h; exact ⟨‹_›, ‹_›⟩⟩ (fun _ h => by cases h) n
theorem okn_name (n : Nat) {z : Str} (h : IsName z) : okn n (.str z) := okn_str n (by have := h.hi; omega) fun c hc => by have := h.az c hc; omega
theorem okn_down : ∀ {n : Nat} {d : D}, okn (n + 1) d → okn n d
  | 0, _, h => h.1
  | n + 1, _, h => ⟨h.1, fun xs e => ⟨(h.2 xs e).1, fun x hx => okn_down ((h.2 xs e).2 x hx)⟩⟩
theorem ok3_of {d : D} (h : okn 3 d) : Ok3 d := ⟨h.1, fun xs e => ⟨(h.2 xs e).1, fun x hx => by
  have := (h.2 xs e).2 x hx
  exact ⟨this.1, fun ys e => ⟨(this.2 ys e).1, fun y hy => by
    have := (this.2 ys e).2 y hy
    exact ⟨this.1, fun zs e => ⟨(this.2 zs e).1, fun z hz => (this.2 zs e).2 z hz⟩⟩⟩⟩⟩⟩
theorem okn3 {a b c : D} (ha : okn 1 a) (hb : okn 1 b) (hc : okn 1 c) : okn 2 (.tup [a, b, c]) := okn_tup (by simp) fun x hx => by
  simp only [List.mem_cons, List.not_mem_nil, or_false] at hx
  rcases hx with rfl | rfl | rfl
  · exact ha
  · exact hb
  · exact hc
end K03
namespace K03
open PySem L2 VS
theorem ok_row {few : Nat} {fs : List Fire} {f : Fire} (h3 : few ≤ 3) (hr : RowsOk few fs) (h : f ∈ fs) : okn 2 f.d := by
  obtain ⟨a, b, c, d⟩ := hr f h
  have hl := b.len
  refine okn3 (okn_name 1 a) (okn_tup (by simp; omega) fun x hx => ?_) (okn_tup (by simp; omega) fun x hx => ?_)
  · obtain ⟨i, _, rfl⟩ := List.mem_map.mp hx
    exact okn_int 0 i
  · obtain ⟨z, hz, rfl⟩ := List.mem_map.mp hx
    exact okn_name 0 (d z hz)
theorem bad_app {few : Nat} {fs : List Fire} (hf : Fires few fs) (rest : List D) : badAt few [] (fs.map Fire.d ++ rest) = (badAt few (fs.map Fire.name) rest).map (· + fs.length) := by
  suffices h : ∀ (post pre : List Fire), fs = pre ++ post → badAt few (pre.map Fire.name) (post.map Fire.d ++ rest) = (badAt few (fs.map Fire.name) rest).map (· + post.length) from h fs [] rfl
  intro post
  induction post with
  | nil => intro pre e; rw [e]; simp
  | cons f post ih =>
    intro pre e
    have hm : f ∈ fs := by rw [e]; simp
    have hi : fs[pre.length]? = some f := by rw [e]; simp
    obtain ⟨nd, hz⟩ := hf.fd _ _ hi
    have ht : fs.take pre.length = pre := by rw [e]; simp
    rw [ht] at hz
    have nn : f.name ∉ pre.map Fire.name := by
      have := hf.nd
      rw [e, List.map_append, List.map_cons, List.nodup_append] at this
      exact fun q => this.2.2 _ q _ (by simp) rfl
    have g := good_is (few := few) (names := pre.map Fire.name) (hf.nm f hm) nn (hf.hg f hm) nd hz
    rw [List.map_cons, List.cons_append, badAt, if_pos g, nameOf_fire]
    have := ih (pre ++ [f]) (by rw [e]; simp)
    rw [List.map_append, List.map_cons, List.map_nil] at this
    rw [this, Option.map_map]
    congr 1
def dueOf (fs : List Fire) : D := if fs.length = 16 then .non else .int fs.length
/-- what is no hearth behind these is refused, the web stays -/
theorem refused_ok {few : Nat} {fs : List Fire} {d : D} (h1 : 1 ≤ few) (h3 : few ≤ 3) (hl : fs.length ≤ 16) (hf : Fires few fs) (ok : okn 2 d) (hb : fs.length = 16 ∨ hearthB few (fs.map Fire.name) d = false) : g_l_refused [.v (webD few fs), .v d] = some (.ok (.lst [dueOf fs]), []) := by
  have hr := rows_of hf hl
  have o : Ok3 (.tup (fs.map Fire.d ++ [d])) := ok3_of (okn_tup (by simp; omega) fun x hx => by
    rcases List.mem_append.mp hx with q | q
    · obtain ⟨f, hm, rfl⟩ := List.mem_map.mp q
      exact ok_row h3 hr hm
    · rw [show x = d by simpa using q]; exact ok)
  have init : ∃ m, g_m_Web_init [.l (.ins 0 []), .v (.int few), .v (.tup (fs.map Fire.d ++ [d]))] = some (.ex 1 [dueOf fs], [m]) := by
    obtain ⟨r, ms, e, k⟩ := wF_ex (init_gen h1 h3 o)
    have bd := bad_app hf [d]
    rcases k with ⟨gs, q, hg, hfg, hbg, rfl, rfl⟩ | ⟨ds, k, m, q, hg, hbg, rfl, rfl⟩ | ⟨hd, m, rfl, rfl⟩
    · exfalso
      have q' := D.tup.inj q
      have hlen := congrArg List.length q'
      simp at hlen
      rcases hb with hb | hb
      · omega
      · rw [← q', bd, badAt, if_neg (by simp [hb])] at hbg
        simp at hbg
    · have q' := D.tup.inj q
      have hlen := congrArg List.length q'
      simp at hlen
      have hne : ¬ fs.length = 16 := by omega
      have hb := hb.resolve_left hne
      rw [← q', bd, badAt, if_neg (by simp [hb])] at hbg
      have : k = fs.length := by simpa using hbg.symm
      subst this
      refine ⟨m, ?_⟩
      rw [dueOf, if_neg hne]; exact e
    · have h16 : fs.length = 16 := by
        have := hd _ rfl
        simp at this; omega
      refine ⟨m, ?_⟩
      rw [dueOf, if_pos h16]; exact e
  obtain ⟨m, e⟩ := init
  have hadd : fs.length + 1 ≤ 16000000 := by omega
  have built : g_m_Web_built [.v (webD few fs), .v d] = some (.ex 1 [dueOf fs], []) := by
    apply wF_eq
    refine w_def rfl rfl ?_
    simp only [st_v, st_l, st_n, st_0, h_m_Web_built]
    simp [hadd, e]
  have a1 : List.lookup 1 [(1, true)] = some true := rfl
  have a2 : List.lookup 1 [(1, false)] = some false := rfl
  apply wF_eq
  refine w_def rfl rfl ?_
  simp only [st_v, st_l, st_n, st_0, h_l_refused]
  simp [built, a1, a2]
theorem built_ok {few : Nat} {fs : List Fire} {f : Fire} (h1 : 1 ≤ few) (h3 : few ≤ 3) (hl : fs.length < 16) (hf : Fires few (fs ++ [f])) : g_m_Web_built [.v (webD few fs), .v f.d] = some (.ok (webD few (fs ++ [f])), []) := by
  have e := web_ok' h1 h3 (by simp; omega) hf
  rw [List.map_append, List.map_cons, List.map_nil] at e
  have hadd : fs.length + 1 ≤ 16000000 := by omega
  apply wF_eq
  refine w_def rfl rfl ?_
  simp only [st_v, st_l, st_n, st_0, h_m_Web_built]
  simp [hadd, e]
end K03
set_option maxHeartbeats 2000000
namespace VS
open PySem L2
theorem cut_take (ds : List D) (k : Nat) : cutD ds none (some (k : Int)) = ds.take k := by
  have hn : ¬ ((k : Nat) : Int) < 0 := by omega
  unfold cutD HT.sIx
  simp [hn]
theorem ne_of_eq {x y : D} {t : Bool} (h : eqD x y = some (.bl t)) : neD x y = some (.bl (!t)) := by
  unfold eqD at h
  unfold neD
  cases q : eqB x y with
  | none => rw [q] at h; cases h
  | some b => rw [q] at h; cases h; rfl
theorem atI_last {xs : List D} {x : D} : atI (xs ++ [x]) (-1) = some x := by simp
theorem mulT (x : D) {n : Nat} (h0 : 1 ≤ n) (h3 : n ≤ 4) : mulE (.tup [x]) (.int n) = some (.tup (List.replicate n x)) := by
  have : n = 1 ∨ n = 2 ∨ n = 3 ∨ n = 4 := by omega
  rcases this with rfl | rfl | rfl | rfl <;> rfl
end VS
namespace K03
open PySem L2 VS
def webs (few : Nat) (fs : List Fire) (k : Nat) : List D := (List.range (k + 1)).map fun i => webD few (fs.take i)
theorem webs_len (few : Nat) (fs : List Fire) (k : Nat) : (webs few fs k).length = k + 1 := by simp [webs]
theorem webs_succ (few : Nat) (fs : List Fire) (k : Nat) : webs few fs (k + 1) = webs few fs k ++ [webD few (fs.take (k + 1))] := by
  unfold webs
  rw [List.range_succ, List.map_append]; rfl
theorem webs_0 (few : Nat) (fs : List Fire) : webs few fs 0 = [webD few []] := by simp [webs]
theorem webs_last (few : Nat) (fs : List Fire) (k : Nat) : (webs few fs k).getLast? = some (webD few (fs.take k)) := by
  unfold webs
  rw [List.range_succ, List.map_append]; simp
theorem webs_at (few : Nat) (fs : List Fire) {k i : Nat} (h : i ≤ k) : (webs few fs k)[i]? = some (webD few (fs.take i)) := by
  unfold webs
  rw [List.getElem?_map, List.getElem?_range (by omega)]; rfl
theorem take_fires {few : Nat} {fs : List Fire} (hf : Fires few fs) (k : Nat) : Fires few (fs.take k) := fires_pre hf (List.take_append_drop k fs).symm
theorem grown_ok {few : Nat} {fs : List Fire} (h1 : 1 ≤ few) (h3 : few ≤ 3) (hl : fs.length ≤ 16) (hf : Fires few fs) : g_l_grown [.v (.lst (fs.map Fire.d)), .v (.int few)] = some (.ok (.bl true), []) := by
  have w0 := web_ok' h1 h3 (fs := []) (by simp) (fires_nil few)
  rw [List.map_nil] at w0
  have wk : ∀ k, g_m_Web_init [.l (.ins 0 []), .v (.int few), .v (.tup ((fs.take k).map Fire.d))] = some (.ok .non, [webM few (fs.take k)]) := fun k => web_ok' h1 h3 (by rw [List.length_take]; omega) (take_fires hf k)
  have rk : ∀ k, RowsOk few (fs.take k) := fun k => rows_of (take_fires hf k) (by rw [List.length_take]; omega)
  have lk : ∀ k, (fs.take k).length ≤ 16 := fun k => by rw [List.length_take]; omega
  have sk : ∀ k, Sames (webD few (fs.take k)) (webD few (fs.take k)) true := fun k => by
    have := sames_webs h3 h3 (lk k) (lk k) (rk k) (rk k)
    simpa using this
  have ek : ∀ k, neD (.tup ((fs.take k).map Fire.d)) (.tup ((fs.take k).map Fire.d)) = some (.bl false) := fun k => by
    have := ne_of_eq (eq_fires h3 h3 (lk k) (lk k) (rk k) (rk k))
    simpa using this
  have cut : ∀ k : Nat, cutD (fs.map Fire.d) none (some (k : Int)) = (fs.take k).map Fire.d := fun k => by rw [cut_take, List.map_take]
  have e5 : range1D (.int fs.length) = some ((List.range fs.length).map fun i => .int ((i : Nat) : Int)) := range1_n _ (by omega)
  have e6 : range1D (.int ((fs.length : Int) + 1)) = some ((List.range (fs.length + 1)).map fun i => .int ((i : Nat) : Int)) := range1_n (fs.length + 1) (by omega)
  apply wF_eq
  refine w_def rfl rfl ?_
  simp only [st_v, st_l, st_n, st_0, h_l_grown]
  simp [w0, e5]
  refine for_inv _ (fun pre post ρ => ∃ (o : Option D), ρ = [some (.val (.lst (fs.map Fire.d))), some (.val (.int few)), some (.own false (.lst (webs few fs pre.length))), o.map Sl.val]) (List.range fs.length) ⟨none, by rw [List.length_nil, webs_0]; rfl⟩ ?_ ?_
  · rintro ρ ⟨o, rfl⟩
    rw [List.length_range]
    simp [webs_len, e6, -forGo_cons]
    refine for_inv _ (fun pre post ρ => ∃ (o : Option D), ρ = [some (.val (.lst (fs.map Fire.d))), some (.val (.int few)), some (.own false (.lst (webs few fs fs.length))), o.map Sl.val]) (List.range (fs.length + 1)) ⟨o, rfl⟩ ?_ ?_
    · rintro ρ ⟨o, rfl⟩
      have s0 := (sk fs.length).a
      have w1 := wk fs.length
      rw [List.take_length] at s0 w1
      have last := webs_last few fs fs.length
      rw [List.take_length] at last
      simp [last, w1, s0, permL]
    · rintro pre k post ρ hr ⟨o, rfl⟩
      obtain ⟨rfl, hk⟩ := range_at hr
      have at_ := webs_at few fs (k := fs.length) (i := pre.length) (by omega)
      have hlen : lenI 0 g_m_Web_len (webD few (fs.take pre.length)) = some (.int pre.length) := by
        rw [len_web (lk _), List.length_take, Nat.min_eq_left (by omega)]
      simp [at_, cut, wk, (sk _).c, hlen, ek, -List.map_take]
      exact hide ⟨some (.int pre.length), rfl⟩
  · rintro pre k post ρ hr ⟨o, rfl⟩
    obtain ⟨rfl, hk⟩ := range_at hr
    have hkl : pre.length < fs.length := by omega
    obtain ⟨f, hfk⟩ : ∃ f, fs[pre.length]? = some f := ⟨_, List.getElem?_eq_getElem hkl⟩
    have htk : fs.take (pre.length + 1) = fs.take pre.length ++ [f] := by rw [List.take_succ, hfk]; rfl
    have hb := built_ok h1 h3 (fs := fs.take pre.length) (f := f) (by rw [List.length_take]; omega) (by rw [← htk]; exact take_fires hf _)
    rw [← htk] at hb
    have hwl : pre.length + 1 < 16000000 := by omega
    simp [webs_last, hb, webs_len, hfk, hwl]
    refine wB_dec (fun w => ?_) fun w => ?_
    all_goals
      simp [webs_last, hb, webs_len, hfk, hwl]
      exact hide ⟨some (.int pre.length), by rw [List.length_append, List.length_singleton, webs_succ]; rfl⟩
end K03
set_option maxHeartbeats 2000000
namespace VS
open PySem L2
theorem eqvAll_rep {p : PyData} (h : PyData.eqv p p = true) : ∀ n, PyData.eqvAll (List.replicate n p) (List.replicate n p) = true
  | 0 => by simp [PyData.eqvAll]
  | n + 1 => by simp [List.replicate_succ, PyData.eqvAll, h, eqvAll_rep h n]
theorem toPys_rep {x : D} {p : PyData} (h : toPy x = some p) : ∀ n, toPys (List.replicate n x) = some (List.replicate n p)
  | 0 => by simp [toPys]
  | n + 1 => by simp [List.replicate_succ, toPys, h, toPys_rep h n]
theorem ne_rep {x : D} {p : PyData} {n : Nat} (hx : toPy x = some p) (hr : RP x 64 1) (hp : PyData.eqv p p = true) (hn : n ≤ 100) : neD (.lst (List.replicate n x)) (.lst (List.replicate n x)) = some (.bl false) := by
  have t : toPy (.lst (List.replicate n x)) = some (.list (List.replicate n p)) := by simp [toPy, toPys_rep hx]
  have r : RP (.lst (List.replicate n x)) 6500 2 := rp_lst (w := 64) (n := 1) (fun d hd => by rw [List.eq_of_mem_replicate hd]; exact hr) (by simp; omega)
  have e := eq_rp t t r r (by decide) (by decide)
  unfold neD
  rw [show eqB (.lst (List.replicate n x)) (.lst (List.replicate n x)) = eqB0 (.lst (List.replicate n x)) (.lst (List.replicate n x)) from rfl, e]
  simp [PyData.eqv, eqvAll_rep hp]
end VS
namespace K03
open PySem L2 VS
theorem ne_dues (fs : List Fire) (hl : fs.length ≤ 16) {n : Nat} (hn : n ≤ 100) : neD (.lst (List.replicate n (.lst [dueOf fs]))) (.lst (List.replicate n (.lst [dueOf fs]))) = some (.bl false) := by
  unfold dueOf
  split
  · exact ne_rep (p := .list [.none]) (by simp [toPy, toPys]) ((rp_lst (w := 31) (n := 0) (m := 64) (fun d hd => by rw [show d = .non by simpa using hd]; exact rp_non.mono (by decide) (by decide)) (by simp))) (by simp [PyData.eqv, PyData.eqvAll]) hn
  · exact ne_rep (p := .list [.int fs.length]) (by simp [toPy, toPys]) ((rp_lst (w := 31) (n := 0) (m := 64) (fun d hd => by rw [show d = .int fs.length by simpa using hd]; exact rp_int (by omega)) (by simp))) (by simp [PyData.eqv, PyData.eqvAll]) hn
def ones (n : Nat) : D := .tup (List.replicate n (.int 1))
def oddB (few : Nat) : List D := [.non, .tup [], .tup [.str "a"], .tup [.str "A", ones few, .tup []], .tup [.str "zzzzzz", .tup (List.replicate few (.int 0)), .tup []], .lst [], .dct [],
  .tup [.str "zzzzzz", ones few, .tup [.str "zzzzzz"]], .tup [.str "zzzzzz", ones (few + 1), .tup []], .tup [.str "zzzzzz", ones few, .lst [.str "a"]], .tup [.str "zzzzzz", .tup (List.replicate few (.bl true)), .tup []]]
theorem okn_rep {n : Nat} {x : D} (hn : n ≤ 4) (h : okn 0 x) : okn 1 (.tup (List.replicate n x)) := okn_tup (by simp; omega) fun y hy => by rw [List.eq_of_mem_replicate hy]; exact h
theorem okn_e (n : Nat) : okn (n + 1) (.tup []) := okn_tup (by simp) (by simp)
theorem ok_z (n : Nat) : okn n (.str "zzzzzz") := okn_str n (by decide) (by decide)
theorem odd_ok {few : Nat} {names : List Str} (h1 : 1 ≤ few) (h3 : few ≤ 3) : ∀ x ∈ oddB few, okn 2 x ∧ hearthB few names x = false := by
  have o1 : okn 1 (ones few) := okn_rep (by omega) (okn_int 0 1)
  have o2 : okn 1 (ones (few + 1)) := okn_rep (by omega) (okn_int 0 1)
  intro x hx
  simp only [oddB, List.mem_cons, List.not_mem_nil, or_false] at hx
  rcases hx with rfl | rfl | rfl | rfl | rfl | rfl | rfl | rfl | rfl | rfl | rfl
  · exact ⟨okn_non 2, rfl⟩
  · exact ⟨okn_e 1, rfl⟩
  · exact ⟨okn_tup (by simp) fun y hy => by rw [show y = .str "a" by simpa using hy]; exact okn_str 1 (by decide) (by decide), rfl⟩
  · refine ⟨okn3 (okn_str 1 (by decide) (by decide)) o1 (okn_e 0), ?_⟩
    have : nameB (.str "A") = false := by decide +kernel
    simp [hearthB, this]
  · refine ⟨okn3 (ok_z 1) (okn_rep (by omega) (okn_int 0 0)) (okn_e 0), ?_⟩
    have : (List.replicate few (D.int 0)).any posB = false := by
      rw [List.any_eq_false]
      intro y hy
      rw [List.eq_of_mem_replicate hy]; simp [posB]
    simp only [hearthB, hungB, this]; simp
  · exact ⟨okn_lst 2 _, rfl⟩
  · exact ⟨okn_dct 2 _, rfl⟩
  · refine ⟨okn3 (ok_z 1) o1 (okn_tup (by simp) fun y hy => by rw [show y = .str "zzzzzz" by simpa using hy]; exact ok_z 0), ?_⟩
    by_cases q : ("zzzzzz" : Str) ∈ names
    · simp [hearthB, isOf, q]
    · simp [hearthB, feedB, isOf, q]
  · refine ⟨okn3 (ok_z 1) o2 (okn_e 0), ?_⟩
    simp [hearthB, hungB, ones]
  · exact ⟨okn3 (ok_z 1) o1 (okn_lst 1 _), by simp [hearthB, feedB]⟩
  · refine ⟨okn3 (ok_z 1) (okn_rep (by omega) (okn_bl 0 true)) (okn_e 0), ?_⟩
    obtain ⟨k, rfl⟩ : ∃ k, few = k + 1 := ⟨few - 1, by omega⟩
    simp [hearthB, hungB, List.replicate_succ, wholeB]
theorem wO_eq {α : Type} {o : Option α} {a : α} {K : α → Prop} (h : o = some a) (k : K a) : wO o K := by rw [h]; exact k
theorem map_rep (d : D) : ∀ xs : List D, xs.map (fun _ => d) = List.replicate xs.length d
  | [] => rfl
  | x :: xs => by rw [List.map_cons, map_rep d xs, List.length_cons, List.replicate_succ]
theorem rep_flat (n : Nat) (x : D) : (List.replicate n [x]).flatten = List.replicate n x := by
  induction n with
  | zero => rfl
  | succ n ih => rw [List.replicate_succ, List.flatten_cons, ih]; rfl
theorem built_right_ok {few : Nat} {fs : List Fire} {m : MO} (h1 : 1 ≤ few) (h3 : few ≤ 3) (hl : fs.length ≤ 16) (hf : Fires few fs) : g_l_built_right [.l m, .v (.lst (fs.map Fire.d)), .v (.int few)] = some (.ok (.bl true), [m]) := by
  have hr := rows_of hf hl
  have e1 := web_ok' h1 h3 hl hf
  have s1 : Sames (webD few fs) (webD few fs) true := by
    have := sames_webs h3 h3 hl hl hr hr
    simpa using this
  have m1 : ∀ x : D, mulE (.tup [x]) (.int few) = some (.tup (List.replicate few x)) := fun x => mulT x h1 (by omega)
  have m2 : mulE (.tup [.int 1]) (.int ((few : Int) + 1)) = some (ones (few + 1)) := mulT (.int 1) (n := few + 1) (by omega) (by omega)
  have cut : cutD (fs.map Fire.d) none (some 2) = (fs.take 2).map Fire.d := by
    have := cut_take (fs.map Fire.d) 2
    rw [← List.map_take] at this
    exact this
  obtain ⟨odds, hodds⟩ : ∃ odds, odds = oddB few ++ (fs.take 2).map fun f => .tup [.str f.name, ones few, .tup []] := ⟨_, rfl⟩
  have olen : odds.length ≤ 100 := by
    rw [hodds]; simp [oddB]; omega
  have oall : ∀ x ∈ odds, g_l_refused [.v (webD few fs), .v x] = some (.ok (.lst [dueOf fs]), []) := by
    intro x hx
    rw [hodds] at hx
    rcases List.mem_append.mp hx with q | q
    · obtain ⟨a, b⟩ := odd_ok (names := fs.map Fire.name) h1 h3 x q
      exact refused_ok h1 h3 hl hf a (.inr b)
    · obtain ⟨f, hm, rfl⟩ := List.mem_map.mp q
      have hm' := List.mem_of_mem_take hm
      refine refused_ok h1 h3 hl hf (okn3 (okn_name 1 (hr f hm').1) (okn_rep (by omega) (okn_int 0 1)) (okn_e 0)) (.inr ?_)
      have : f.name ∈ fs.map Fire.name := List.mem_map.mpr ⟨f, hm', rfl⟩
      simp only [hearthB, isOf, decide_eq_true this]; simp
  have mul : mulE (.lst [.lst [dueOf fs]]) (.int odds.length) = some (.lst (List.replicate odds.length (.lst [dueOf fs]))) := by
    simp only [mulE]
    rw [if_pos (by refine ⟨by omega, by omega, by simp⟩)]
    rw [Int.toNat_natCast, rep_flat]
  have nd := ne_dues fs hl olen
  have nd2 : neD (.lst (odds.map fun _ => D.lst [dueOf fs])) (.lst (List.replicate odds.length (.lst [dueOf fs]))) = some (.bl false) := by
    rw [show odds.map (fun _ => D.lst [dueOf fs]) = List.replicate odds.length (.lst [dueOf fs]) from map_rep _ odds]; exact nd
  have last : fs.length = 16 → g_l_refused [.v (webD few fs), .v (.tup [.str "zzzzz", .tup (List.replicate few (.int 1)), .tup []])] = some (.ok (.lst [.non]), []) := by
    intro h
    have := refused_ok h1 h3 hl hf (d := .tup [.str "zzzzz", .tup (List.replicate few (.int 1)), .tup []]) (okn3 (okn_str 1 (by decide) (by decide)) (okn_rep (by omega) (okn_int 0 1)) (okn_e 0)) (.inl h)
    rw [dueOf, if_pos h] at this
    exact this
  have en : eqD (.lst [.non]) (.lst [.non]) = some (.bl true) := rfl
  have key : ∀ d5 : D, d5 = .lst [dueOf fs] → True := fun _ _ => trivial
  apply wF_eq
  refine w_def rfl rfl ?_
  simp only [st_v, st_l, st_n, st_0, h_l_built_right]
  simp [e1, m1, m2, cut, -List.map_take]
  refine lc_map (xs := fs.take 2) (fun f => .tup [.str f.name, ones few, .tup []]) (by simp; omega) ?_ fun f hm => ?_
  rotate_left
  · simp [Fire.d, m1, ones]
  simp [-VS.add_lst, -List.map_take]
  have hadd : addD (.lst (oddB few)) (.lst ((fs.take 2).map fun f => .tup [.str f.name, ones few, .tup []])) = some (.lst odds) := by
    rw [hodds]
    have : (oddB few).length + ((fs.take 2).map fun f => (.tup [.str f.name, ones few, .tup []] : D)).length ≤ lim := by
      rw [lim_le_m]; simp [oddB]; omega
    simp only [add_lst, if_pos this]
  refine wO_eq hadd ?_
  by_cases h16 : fs.length = 16
  case' pos =>
    have i16 : (fs.length : Int) = 16 := by omega
    have due : dueOf fs = .non := by rw [dueOf, if_pos h16]
    have lst := last h16
    have i17 : ¬ (fs.length : Int) < 16 := by omega
  case' neg =>
    have i16 : ¬ (fs.length : Int) = 16 := by omega
    have due : dueOf fs = .int fs.length := by rw [dueOf, if_neg h16]
    have i17 : (fs.length : Int) < 16 := by omega
    have lst : True := trivial
  all_goals
    rw [due] at mul nd oall nd2
    simp [i16]
    refine lc_mapD (fun _ => .lst [dueOf fs]) (by omega) ?_ fun x hx => ?_
    rotate_left
    · simp [oall x hx, due]
    simp [mul, nd, nd2, due, e1, s1.c, i17, lst, en, m1]
end K03
set_option maxHeartbeats 2000000
namespace VS
open PySem L2
theorem cutn (as ds : List D) {n : Int} (h : n = as.length) : cutD (as ++ ds) (some n) none = ds := by
  subst h
  have hn : ¬ ((as.length : Nat) : Int) < 0 := by omega
  unfold cutD HT.sIx
  simp [hn]
theorem cut_end (as : List D) (d : D) : cutD (as ++ [d]) none (some (-1)) = as := by
  have e : (-1 + ((as.length : Int) + 1)).toNat = as.length := by omega
  unfold cutD HT.sIx
  simp [e]
end VS
namespace K03
open PySem L2 VS
def let1 (i : Nat) : Str := ⟨#[97 + i]⟩
theorem let_free {names : List Str} (hl : names.length ≤ 16) : ∃ z r, ((List.range 26).filter fun i => !decide (let1 i ∈ names)) = z :: r ∧ let1 z ∉ names ∧ z < 26 := by
  cases q : (List.range 26).filter fun i => !decide (let1 i ∈ names) with
  | nil =>
    have h1 : ∀ x ∈ (List.range 26).map let1, x ∈ names := by
      intro x hx
      obtain ⟨i, hi, rfl⟩ := List.mem_map.mp hx
      have := List.filter_eq_nil_iff.mp q i hi
      simpa using this
    have h2 := nodup_sub_len (xs := (List.range 26).map let1) (by decide +kernel) h1
    simp at h2
    omega
  | cons z r =>
    have hm : z ∈ (List.range 26).filter fun i => !decide (let1 i ∈ names) := by rw [q]; exact List.mem_cons_self
    obtain ⟨h1, h2⟩ := List.mem_filter.mp hm
    exact ⟨z, r, rfl, by simpa using h2, List.mem_range.mp h1⟩
theorem let_name {i : Nat} (h : i < 26) : IsName (let1 i) := by
  refine ⟨by rw [show (let1 i).length = 1 from rfl]; decide, by rw [show (let1 i).length = 1 from rfl]; decide, fun c hc => ?_⟩
  have : c = 97 + i := by simpa [let1] using hc
  omega
theorem fires_put {few : Nat} {pre post : List Fire} {f g : Fire} (h : Fires few (pre ++ f :: post)) (hn : g.name = f.name) (hh : Hung few g.hung) (nd : g.feed.Nodup) (hz : ∀ z ∈ g.feed, z ∈ pre.map Fire.name) : Fires few (pre ++ g :: post) := by
  have nm : (pre ++ g :: post).map Fire.name = (pre ++ f :: post).map Fire.name := by simp [hn]
  refine ⟨by rw [nm]; exact h.nd, fun x hx => ?_, fun x hx => ?_, fun i x hi => ?_⟩
  · rcases List.mem_append.mp hx with q | q
    · exact h.nm x (List.mem_append_left _ q)
    · rcases List.mem_cons.mp q with rfl | q
      · rw [hn]; exact h.nm f (by simp)
      · exact h.nm x (by simp [q])
  · rcases List.mem_append.mp hx with q | q
    · exact h.hg x (List.mem_append_left _ q)
    · rcases List.mem_cons.mp q with rfl | q
      · exact hh
      · exact h.hg x (by simp [q])
  · have tk : ((pre ++ g :: post).take i).map Fire.name = ((pre ++ f :: post).take i).map Fire.name := by
      rw [List.map_take, List.map_take, nm]
    rw [tk]
    rcases Nat.lt_trichotomy i pre.length with q | q | q
    · rw [List.getElem?_append_left q] at hi
      exact h.fd i x (by rw [List.getElem?_append_left q]; exact hi)
    · subst q
      rw [List.getElem?_append_right (Nat.le_refl _)] at hi
      have : x = g := by simpa using hi.symm
      subst this
      refine ⟨nd, ?_⟩
      rw [List.take_append_of_le_length (Nat.le_refl _), List.take_length]
      exact hz
    · obtain ⟨j, rfl⟩ : ∃ j, i = pre.length + 1 + j := ⟨i - pre.length - 1, by omega⟩
      refine h.fd _ x ?_
      rw [List.getElem?_append_right (by omega)] at hi ⊢
      rw [show pre.length + 1 + j - pre.length = j + 1 by omega] at hi ⊢
      simpa using hi
theorem put_ok {pre post : List Fire} {f : Fire} {x : D} (hl : (pre ++ f :: post).length ≤ 16) : g_l_put [.v (.lst ((pre ++ f :: post).map Fire.d)), .v (.int pre.length), .v x] = some (.ok (.lst (pre.map Fire.d ++ x :: post.map Fire.d)), []) := by
  have c1 : cutD ((pre ++ f :: post).map Fire.d) none (some (pre.length : Int)) = pre.map Fire.d := by
    rw [cut_take, ← List.map_take, List.take_append_of_le_length (Nat.le_refl _), List.take_length]
  have c2 : cutD ((pre ++ f :: post).map Fire.d) (some ((pre.length : Int) + 1)) none = post.map Fire.d := by
    rw [show (pre ++ f :: post).map Fire.d = (pre.map Fire.d ++ [f.d]) ++ post.map Fire.d by simp]
    exact cutn _ _ (by simp)
  have a1 : pre.length + 1 ≤ 16000000 := by simp at hl; omega
  have a2 : pre.length + 1 + post.length ≤ 16000000 := by simp at hl; omega
  have a3 : pre.length + (post.length + 1) ≤ 16000000 := by simp at hl; omega
  obtain ⟨ds, hds⟩ : ∃ ds, ds = (pre ++ f :: post).map Fire.d := ⟨_, rfl⟩
  rw [← hds] at c1 c2 ⊢
  apply wF_eq
  refine w_def rfl rfl ?_
  simp only [st_v, st_l, st_n, st_0, h_l_put]
  simp [c1, c2, a1, a2, a3]
/-- the hungers with the last one put otherwise -/
def bump (hs : List Int) (h : Int) : List Int := hs ++ [h % 9 + 1]
theorem bump_ok {few : Nat} {hs : List Int} {h : Int} (q : Hung few (hs ++ [h])) : Hung few (bump hs h) ∧ bump hs h ≠ hs ++ [h] := by
  have hb := q.bd h (by simp)
  refine ⟨⟨by have := q.len; simpa [bump] using this, fun x hx => ?_, ⟨h % 9 + 1, by simp [bump], by omega⟩⟩, fun e => ?_⟩
  · rcases List.mem_append.mp hx with r | r
    · exact q.bd x (List.mem_append_left _ r)
    · have : x = h % 9 + 1 := by simpa using r
      omega
  · have := List.append_cancel_left e
    simp at this
    omega
def Oth (few : Nat) (fs gs : List Fire) : Prop := Fires few gs ∧ gs.length ≤ 16 ∧ gs ≠ fs
theorem rev_ne {α : Type} {xs : List α} (nd : xs.Nodup) (h : 1 < xs.length) : xs.reverse ≠ xs := by
  intro e
  have h0 : xs.reverse[0]? = xs[0]? := congrArg (·[0]?) e
  rw [List.getElem?_reverse (by omega), List.getElem?_eq_getElem (by omega), List.getElem?_eq_getElem (by omega)] at h0
  have := (List.getElem_inj nd).mp (Option.some.inj h0)
  omega
end K03
set_option maxHeartbeats 4000000
namespace K03
open PySem L2 VS
def OthK (few : Nat) (fs : List Fire) (r : Res) (ms : List MO) : Prop := ∃ (m' : MO) (found : List (List Fire)), r = .nw (.lst (found.map fun gs => D.lst (gs.map Fire.d))) ∧ ms = [m'] ∧ found.length ≤ 10 ∧ ∀ gs ∈ found, Oth few fs gs
theorem others_ok {few n : Nat} {m : MO} {fs : List Fire} (h1 : 1 ≤ few) (h3 : few ≤ 3) (h0 : 0 < fs.length) (hl : fs.length ≤ 16) (hf : Fires few fs) (h : Hand (n + 1) m) :
    wF (g_l_others [.l m, .v (.lst (fs.map Fire.d))]) (OthK few fs) := by
  have hr := rows_of hf hl
  obtain ⟨m1, k, a1, a2, a3, a4⟩ := draw_ok (many := fs.length) h (by omega) (by omega)
  obtain ⟨k, rfl⟩ : ∃ q : Nat, k = (q : Int) := ⟨k.toNat, by omega⟩
  have hk : k < fs.length := by omega
  obtain ⟨pre, f, post, hsp, hpl⟩ : ∃ pre f post, fs = pre ++ f :: post ∧ pre.length = k := ⟨fs.take k, fs[k], fs.drop (k + 1), by rw [← List.drop_eq_getElem_cons hk, List.take_append_drop], by rw [List.length_take]; omega⟩
  obtain ⟨gs, l, hgl⟩ : ∃ gs l, fs = gs ++ [l] := ⟨fs.dropLast, fs.getLast (by intro e; rw [e] at h0; simp at h0), (List.dropLast_concat_getLast _).symm⟩
  have hfm : f ∈ fs := by rw [hsp]; simp
  have hlm : l ∈ fs := by rw [hgl]; simp
  obtain ⟨p1, p2, p3, p4⟩ := hr f hfm
  obtain ⟨q1, q2, q3, q4⟩ := hr l hlm
  have hi : fs[k]? = some f := by rw [hsp, ← hpl]; simp
  obtain ⟨fnd, ffd⟩ := hf.fd k f hi
  have htk : fs.take k = pre := by rw [hsp, ← hpl]; simp
  rw [htk] at ffd
  have hil : fs[gs.length]? = some l := by rw [hgl]; simp
  obtain ⟨lnd, lfd⟩ := hf.fd _ l hil
  have htl : fs.take gs.length = gs := by rw [hgl]; simp
  rw [htl] at lfd
  obtain ⟨hs, hlast, hhs⟩ : ∃ hs hlast, f.hung = hs ++ [hlast] := by
    have hne : f.hung ≠ [] := by intro e; have := p2.len; rw [e] at this; simp at this; omega
    exact ⟨f.hung.dropLast, f.hung.getLast hne, (List.dropLast_concat_getLast hne).symm⟩
  have hung2 := bump_ok (few := few) (hs := hs) (h := hlast) (by rw [← hhs]; exact p2)
  obtain ⟨z, rz, hz1, hz2, hz3⟩ := let_free (names := fs.map Fire.name) (by simpa using hl)
  -- the five
  have put : ∀ g : Fire, g.name = f.name → Hung few g.hung → g.feed.Nodup → (∀ z ∈ g.feed, z ∈ pre.map Fire.name) → g ≠ f → Oth few fs (pre ++ g :: post) := fun g e1 e2 e3 e4 e5 =>
    ⟨fires_put (by rw [← hsp]; exact hf) e1 e2 e3 e4, by rw [hsp] at hl; simpa using hl, fun e => e5 (by rw [hsp] at e; simpa using e)⟩
  have o1 : Oth few fs gs := ⟨fires_pre hf hgl, by rw [hgl] at hl; simp at hl; omega, fun e => by rw [hgl] at e; simpa using congrArg List.length e⟩
  have o2 : Oth few fs (pre ++ ⟨f.name, bump hs hlast, f.feed⟩ :: post) := put _ rfl hung2.1 fnd ffd fun e => hung2.2 (by rw [← hhs]; exact congrArg Fire.hung e)
  have o3 : Oth few fs (gs ++ [⟨let1 z, l.hung, l.feed⟩]) := by
    refine ⟨fires_app (fires_pre hf hgl) (let_name hz3) (fun q => hz2 ?_) q2 lnd lfd, by rw [hgl] at hl; simpa using hl, fun e => hz2 ?_⟩
    · rw [hgl, List.map_append]; exact List.mem_append_left _ q
    · rw [← e]; simp
  have o4 : f.feed ≠ [] → Oth few fs (pre ++ ⟨f.name, f.hung, f.feed.tail⟩ :: post) := fun hne => put _ rfl p2 (fnd.sublist (List.tail_sublist _)) (fun z hz => ffd z (List.mem_of_mem_tail hz)) fun e => by
    have := congrArg (fun g => (Fire.feed g).length) e
    simp at this
    cases q : f.feed with
    | nil => exact hne q
    | cons a as => rw [q] at this; simp at this
  have o5 : 1 < f.feed.length → Oth few fs (pre ++ ⟨f.name, f.hung, f.feed.reverse⟩ :: post) := fun hg => put _ rfl p2 (List.pairwise_reverse.mpr (fnd.imp fun h e => h e.symm)) (fun z hz => ffd z (by simpa using hz)) fun e => rev_ne fnd hg (congrArg Fire.feed e)
  -- what the steps answer
  have P : ∀ x : D, g_l_put [.v (.lst (fs.map Fire.d)), .v (.int k), .v x] = some (.ok (.lst (pre.map Fire.d ++ x :: post.map Fire.d)), []) := fun x => by
    have := put_ok (pre := pre) (post := post) (f := f) (x := x) (by rw [← hsp]; exact hl)
    rw [← hsp, hpl] at this; exact this
  have c1 : cutD (fs.map Fire.d) none (some (-1)) = gs.map Fire.d := by
    rw [hgl, List.map_append]; exact cut_end _ _
  have c2 : cutD (f.hung.map D.int) none (some (-1)) = hs.map D.int := by
    rw [hhs, List.map_append]; exact cut_end _ _
  have i1 : (fs.map Fire.d).getLast? = some l.d := by rw [hgl]; simp
  have i2 : (f.hung.map D.int).getLast? = some (.int hlast) := by rw [hhs]; simp
  have i3 : (fs.map Fire.d)[k]? = some f.d := by rw [List.getElem?_map, hi]; rfl
  have c3 : slD l.d (some 1) none = some (.tup [.tup (l.hung.map D.int), .tup (l.feed.map D.str)]) := by
    rw [Fire.d, VS.sl_tup, cut1]
  have c4 : cutD (f.feed.map D.str) (some 1) none = f.feed.tail.map D.str := by
    cases f.feed with
    | nil => rfl
    | cons a as => rw [List.map_cons, cut1]; rfl
  have lh : hs.length + 1 ≤ 16000000 := by
    have := p2.len
    rw [hhs] at this
    simp at this; omega
  have lg : gs.length + 1 ≤ 16000000 := by
    rw [hgl] at hl
    simp at hl; omega
  have az : signs ("abcdefghijklmnopqrstuvwxyz" : Str) = (List.range 26).map fun i => .str ⟨#[97 + i]⟩ := signs_az
  have e8 : ixD (.lst ((z :: rz).map fun i => D.str (let1 i))) (.int 0) = some (.str (let1 z)) := ix0 _ _
  have nf := ne_feed p3 p4
  refine w_def rfl rfl ?_
  simp only [st_v, st_l, st_n, st_0, h_l_others]
  simp [a4, i3, Fire.d, c2, i2, lh, P, c1, az, -List.map_take]
  refine lc_filter (fun i => !decide (let1 i ∈ fs.map Fire.name)) (fun i => .str (let1 i)) (by simp) ?_ fun i hi => ?_
  rotate_left
  · have nin : notInD (.str (let1 i)) (.lst (fs.map fun f => .str f.name)) = some (.bl (!decide (let1 i ∈ fs.map Fire.name))) := by
      have := nin_lst (let1 i) (fs.map Fire.name)
      rw [List.map_map] at this; exact this
    have nin' : notInD (.str ⟨#[97 + i]⟩) (.lst (fs.map fun f => .str f.name)) = some (.bl (!decide ((⟨#[97 + i]⟩ : Str) ∈ fs.map Fire.name))) := nin
    simp
    refine lc_map (xs := fs) (fun f : Fire => .str f.name) (by omega) ?_ fun f hf => ?_
    rotate_left
    · simp [Fire.d]
    simp [nin', -List.mem_map]
    unfold let1
    by_cases q : (⟨#[97 + i]⟩ : Str) ∈ fs.map Fire.name
    · simp [q, -List.mem_map]
    · simp [q, -List.mem_map]
  rw [hz1]
  have e9 : ixD (.lst (fs.map Fire.d)) (.int (-1)) = some l.d := by rw [ix_lst, atI_neg1, i1]
  have big : ∀ n : Nat, n ≤ 10 → n < 16000000 := fun n h => by omega
  by_cases hne : f.feed = []
  · have hgt : ¬ (1 : Int) < f.feed.length := by rw [hne]; simp
    have nf1 : neD (.tup (f.feed.map D.str)) (.tup []) = some (.bl false) := by rw [nf]; simp [hne]
    simp [e8, e9, c1, c3, lg, nf1, hgt, -VS.ix_lst, -List.map_cons, -List.map_take]
    exact ⟨m1, [gs, pre ++ ⟨f.name, bump hs hlast, f.feed⟩ :: post, gs ++ [⟨let1 z, l.hung, l.feed⟩]], by simp [Fire.d, bump], rfl, by simp, fun g hg => by
      simp only [List.mem_cons, List.not_mem_nil, or_false] at hg
      rcases hg with rfl | rfl | rfl
      · exact o1
      · exact o2
      · exact o3⟩
  · have nf1 : neD (.tup (f.feed.map D.str)) (.tup []) = some (.bl true) := by rw [nf]; simp [hne]
    by_cases hg : 1 < f.feed.length
    · have hgt : (1 : Int) < f.feed.length := by omega
      simp [e8, e9, c1, c3, c4, lg, nf1, hgt, P, -VS.ix_lst, -List.map_cons, -List.map_take]
      exact ⟨m1, [gs, pre ++ ⟨f.name, bump hs hlast, f.feed⟩ :: post, gs ++ [⟨let1 z, l.hung, l.feed⟩], pre ++ ⟨f.name, f.hung, f.feed.tail⟩ :: post, pre ++ ⟨f.name, f.hung, f.feed.reverse⟩ :: post], by simp [Fire.d, bump], rfl, by simp, fun g hg' => by
        simp only [List.mem_cons, List.not_mem_nil, or_false] at hg'
        rcases hg' with rfl | rfl | rfl | rfl | rfl
        · exact o1
        · exact o2
        · exact o3
        · exact o4 hne
        · exact o5 hg⟩
    · have hgt : ¬ (1 : Int) < f.feed.length := by omega
      simp [e8, e9, c1, c3, c4, lg, nf1, hgt, P, -VS.ix_lst, -List.map_cons, -List.map_take]
      exact ⟨m1, [gs, pre ++ ⟨f.name, bump hs hlast, f.feed⟩ :: post, gs ++ [⟨let1 z, l.hung, l.feed⟩], pre ++ ⟨f.name, f.hung, f.feed.tail⟩ :: post], by simp [Fire.d, bump], rfl, by simp, fun g hg' => by
        simp only [List.mem_cons, List.not_mem_nil, or_false] at hg'
        rcases hg' with rfl | rfl | rfl | rfl
        · exact o1
        · exact o2
        · exact o3
        · exact o4 hne⟩
end K03
set_option maxHeartbeats 4000000
namespace K03
open PySem L2 VS
theorem math (ns : List Int) (hl : ns.length ≤ 63) : g_law_ [.v (.frl (ns.map D.int))] = some (.ok (.bl true), []) := by
  apply wF_eq
  refine w_def rfl rfl ?_
  simp only [st_v, st_l, st_n, st_0, h_law_]
  have e5 : ∃ k : Nat, k ≤ 10 ∧ (if (if (10 : Int) < ns.length then 10 else (ns.length : Int)) > 2 then (if (10 : Int) < ns.length then 10 else (ns.length : Int)) else 2) = (k : Int) := by
    refine ⟨max 2 (min ns.length 10), by omega, ?_⟩
    split <;> split <;> omega
  obtain ⟨k, hk, ek⟩ := e5
  simp
  rw [ek, range1_n k (by omega)]
  simp
  refine for_inv _ (fun pre post ρ => ∃ (o1 : Option D) (o2 : Option MO) (o3 o4 o5 o6 o7 : Option D), ρ = [some (.val (.frl (ns.map .int))), o1.map Sl.val, o2.map (Sl.own false), o3.map Sl.val, o4.map Sl.val, o5.map Sl.val, o6.map Sl.val, o7.map Sl.val, none, none]) (List.range k) ⟨none, none, none, none, none, none, none, rfl⟩ ?_ ?_
  · rintro ρ ⟨o1, o2, o3, o4, o5, o6, o7, rfl⟩
    simp
  · rintro pre j post ρ hx ⟨o1, o2, o3, o4, o5, o6, o7, rfl⟩
    have hj : j ≤ 1000 := by
      have : j ∈ List.range k := by rw [hx]; simp
      rw [List.mem_range] at this; omega
    obtain ⟨z, hz⟩ := cell_ok ns j hj
    obtain ⟨m0, a1, a2⟩ := hand_ok z
    obtain ⟨m1, k1, b1, b2, b3, b4⟩ := draw_ok (n := 5000) (many := 3) (a1.mono (by decide)) (by decide) (by decide)
    obtain ⟨m2, k2, c1, c2, c3, c4⟩ := draw_ok (n := 4000) (many := 16) (b1.mono (by decide)) (by decide) (by decide)
    obtain ⟨few, hfew⟩ : ∃ q : Nat, 1 + k1 = (q : Int) := ⟨(1 + k1).toNat, by omega⟩
    obtain ⟨many, hmany⟩ : ∃ q : Nat, 1 + k2 = (q : Int) := ⟨(1 + k2).toNat, by omega⟩
    have f1 : 1 ≤ few := by omega
    have f3 : few ≤ 3 := by omega
    obtain ⟨m3, fs, w1, w2, w3, w4⟩ := fires_ok (n := 10) (many := many) (few := few) (m := m2) (by omega) f1 f3 (c1.mono (by omega))
    have hfl : fs.length ≤ 16 := by omega
    have hr := rows_of w3 hfl
    have web := web_ok' f1 f3 hfl w3
    have gr := grown_ok f1 f3 hfl w3
    have sm : Sames (webD few fs) (webD few fs) true := by
      have := sames_webs f3 f3 hfl hfl hr hr
      simpa using this
    have al1 := alike_of sm
    obtain ⟨r, ms, eo, m4, found, rfl, rfl, fl, fall⟩ := wF_ex (others_ok f1 f3 (by omega) hfl w3 (n := 5) (w1.mono (by decide)))
    obtain ⟨s1, st⟩ : ∃ s1, textI strD 0 g_m_Web_str (webD few fs) = some (.str s1) := ⟨_, str_web f3 hfl hr⟩
    obtain ⟨rs, rp⟩ : ∃ rs, textI reprE 0 g_m_Web_repr (webD few fs) = some (.str rs) := ⟨_, textI_of (said_of (ds := [webD few fs]) (repr_ok5 f3 hfl))⟩
    obtain ⟨gew, u0, u1, u2, u3⟩ : ∃ gew : Nat, (few : Int) % 3 + 1 = (gew : Int) ∧ 1 ≤ gew ∧ gew ≤ 3 ∧ few ≠ gew := ⟨few % 3 + 1, by omega, by omega, by omega, by omega⟩
    have n1 := web_ok' f1 f3 (fs := []) (by simp) (fires_nil few)
    have n2 := web_ok' u1 u2 (fs := []) (by simp) (fires_nil gew)
    rw [List.map_nil] at n1 n2
    have al2 : g_l_alike [.v (webD few []), .v (webD gew []), .v (.bl false)] = some (.ok (.bl true), []) := by
      have := sames_webs (a := few) (b := gew) (fs := []) (gs := []) f3 u2 (by simp) (by simp) (fun f h => by simp at h) (fun f h => by simp at h)
      rw [show decide (few = gew ∧ ([] : List Fire) = []) = false by simp [u3]] at this
      exact alike_of this
    have br := built_right_ok (m := m4) f1 f3 hfl w3
    have nh : neD (.tup (fs.map Fire.d)) (.tup (fs.map Fire.d)) = some (.bl false) := by
      have := ne_of_eq (eq_fires f3 f3 hfl hfl hr hr)
      simpa using this
    have oth : ∀ d, (tyD d).isSome = true → g_l_alike [.v (webD few fs), .v d, .v (.bl false)] = some (.ok (.bl true), []) := fun d h => alike_of (sames_other h)
    simp [hz, a2, b4, c4, hfew, hmany, w4, web, gr, al1, eo]
    refine lc_map (xs := found) (fun _ => .bl true) (by omega) ?_ fun gs hg => ?_
    rotate_left
    · obtain ⟨q1, q2, q3⟩ := fall gs hg
      have wg := web_ok' f1 f3 q2 q1
      have ag : g_l_alike [.v (webD few fs), .v (webD few gs), .v (.bl false)] = some (.ok (.bl true), []) := by
        have := sames_webs f3 f3 hfl q2 hr (rows_of q1 q2)
        rw [show decide (few = few ∧ fs = gs) = false by simp [Ne.symm q3]] at this
        exact alike_of this
      simp [wg, ag]
    simp [-lcGo_cons]
    have fa : (!found.all fun x => true) = false := by simp
    rw [fa, wB_false]
    have t1 := oth .non rfl
    have t2 := oth (.tup (fs.map Fire.d)) rfl
    have t3 := oth (.str s1) rfl
    have t4 := oth (.str rs) rfl
    have t5 := oth (.int few) rfl
    have t6 := oth (.tup [.int few, .tup (fs.map Fire.d)]) rfl
    have t7 := oth (.lst [webD few fs]) rfl
    have t8 := oth (.dct []) rfl
    have t9 := oth (.bl true) rfl
    clear oth
    simp [-lcGo_cons]
    rw [st]
    simp [-lcGo_cons]
    rw [rp]
    simp [t1, t2, t3, t4, t5, t6, t7, t8, t9, blsOf, br, n1, n2, u0, al2, nh]
    exact hide ⟨some (.int j), some m4, some (.int few), some (.int many), some (.lst (fs.map Fire.d)), some (webD few fs), some _, rfl⟩
end K03
set_option maxHeartbeats 0
namespace K03
open PySem PySem.Spec PyProof.Rows L2 VS
def topS (i : Nat) : Stmt := PySem.Challenge.pw_kindlestair_k03_webs_built_and_alike.main.body.getD i (.Pass ⟨0, 0, 0, 0⟩)
def clsB (s : Stmt) : List Stmt := match s with
  | .ClassDef _ _ _ b _ _ _ _ _ _ _ => b
  | _ => []
def metS (i j : Nat) : Stmt := (clsB (topS i)).getD j (.Pass ⟨0, 0, 0, 0⟩)
abbrev s_p_is_whole : Stmt := topS 11
def d_p_is_whole : He.DefD := ⟨("is_whole", none), "is_whole", "is_whole", defArgs s_p_is_whole, defBody s_p_is_whole, defScope s_p_is_whole, [], []⟩
abbrev s_p_is_name : Stmt := topS 12
def d_p_is_name : He.DefD := ⟨("is_name", none), "is_name", "is_name", defArgs s_p_is_name, defBody s_p_is_name, defScope s_p_is_name, [], []⟩
abbrev s_p_are_hungers : Stmt := topS 13
def d_p_are_hungers : He.DefD := ⟨("are_hungers", none), "are_hungers", "are_hungers", defArgs s_p_are_hungers, defBody s_p_are_hungers, defScope s_p_are_hungers, [], []⟩
abbrev s_p_are_feeders : Stmt := topS 14
def d_p_are_feeders : He.DefD := ⟨("are_feeders", none), "are_feeders", "are_feeders", defArgs s_p_are_feeders, defBody s_p_are_feeders, defScope s_p_are_feeders, [], []⟩
abbrev s_p_is_hearth : Stmt := topS 15
def d_p_is_hearth : He.DefD := ⟨("is_hearth", none), "is_hearth", "is_hearth", defArgs s_p_is_hearth, defBody s_p_is_hearth, defScope s_p_is_hearth, [], []⟩
abbrev s_p_hearths_by_name : Stmt := topS 16
def d_p_hearths_by_name : He.DefD := ⟨("hearths_by_name", none), "hearths_by_name", "hearths_by_name", defArgs s_p_hearths_by_name, defBody s_p_hearths_by_name, defScope s_p_hearths_by_name, [], []⟩
abbrev s_p_hearth_row : Stmt := topS 17
def d_p_hearth_row : He.DefD := ⟨("hearth_row", none), "hearth_row", "hearth_row", defArgs s_p_hearth_row, defBody s_p_hearth_row, defScope s_p_hearth_row, [], []⟩
abbrev s_m_Web_init : Stmt := metS 18 0
def d_m_Web_init : He.DefD := ⟨("Web", some "__init__"), "__init__", "Web.__init__", defArgs s_m_Web_init, defBody s_m_Web_init, defScope s_m_Web_init, [.adr (He.dflAt ("Web", some "__init__") 0)], []⟩
abbrev s_m_Web_built : Stmt := metS 18 6
def d_m_Web_built : He.DefD := ⟨("Web", some "built"), "built", "Web.built", defArgs s_m_Web_built, defBody s_m_Web_built, defScope s_m_Web_built, [], []⟩
abbrev s_m_Web_eq : Stmt := metS 18 7
def d_m_Web_eq : He.DefD := ⟨("Web", some "__eq__"), "__eq__", "Web.__eq__", defArgs s_m_Web_eq, defBody s_m_Web_eq, defScope s_m_Web_eq, [], []⟩
abbrev s_m_Web_len : Stmt := metS 18 8
def d_m_Web_len : He.DefD := ⟨("Web", some "__len__"), "__len__", "Web.__len__", defArgs s_m_Web_len, defBody s_m_Web_len, defScope s_m_Web_len, [], []⟩
abbrev s_m_Web_str : Stmt := metS 18 9
def d_m_Web_str : He.DefD := ⟨("Web", some "__str__"), "__str__", "Web.__str__", defArgs s_m_Web_str, defBody s_m_Web_str, defScope s_m_Web_str, [], []⟩
abbrev s_m_Web_repr : Stmt := metS 18 10
def d_m_Web_repr : He.DefD := ⟨("Web", some "__repr__"), "__repr__", "Web.__repr__", defArgs s_m_Web_repr, defBody s_m_Web_repr, defScope s_m_Web_repr, [], []⟩
abbrev s_l_cell : Stmt := topS 20
def d_l_cell : He.DefD := ⟨("_law_cell", none), "_law_cell", "_law_cell", defArgs s_l_cell, defBody s_l_cell, defScope s_l_cell, [], []⟩
abbrev s_l_hand : Stmt := topS 21
def d_l_hand : He.DefD := ⟨("_law_hand", none), "_law_hand", "_law_hand", defArgs s_l_hand, defBody s_l_hand, defScope s_l_hand, [], []⟩
abbrev s_l_draw : Stmt := topS 22
def d_l_draw : He.DefD := ⟨("_law_draw", none), "_law_draw", "_law_draw", defArgs s_l_draw, defBody s_l_draw, defScope s_l_draw, [], []⟩
abbrev s_l_calls : Stmt := topS 23
def d_l_calls : He.DefD := ⟨("_law_calls", none), "_law_calls", "_law_calls", defArgs s_l_calls, defBody s_l_calls, defScope s_l_calls, [], []⟩
abbrev s_l_fires : Stmt := topS 24
def d_l_fires : He.DefD := ⟨("_law_fires", none), "_law_fires", "_law_fires", defArgs s_l_fires, defBody s_l_fires, defScope s_l_fires, [], []⟩
abbrev s_l_put : Stmt := topS 25
def d_l_put : He.DefD := ⟨("_law_put", none), "_law_put", "_law_put", defArgs s_l_put, defBody s_l_put, defScope s_l_put, [], []⟩
abbrev s_l_others : Stmt := topS 26
def d_l_others : He.DefD := ⟨("_law_others", none), "_law_others", "_law_others", defArgs s_l_others, defBody s_l_others, defScope s_l_others, [], []⟩
abbrev s_l_alike : Stmt := topS 27
def d_l_alike : He.DefD := ⟨("_law_alike", none), "_law_alike", "_law_alike", defArgs s_l_alike, defBody s_l_alike, defScope s_l_alike, [], []⟩
abbrev s_l_refused : Stmt := topS 28
def d_l_refused : He.DefD := ⟨("_law_refused", none), "_law_refused", "_law_refused", defArgs s_l_refused, defBody s_l_refused, defScope s_l_refused, [], []⟩
abbrev s_l_grown : Stmt := topS 29
def d_l_grown : He.DefD := ⟨("_law_grown", none), "_law_grown", "_law_grown", defArgs s_l_grown, defBody s_l_grown, defScope s_l_grown, [], []⟩
abbrev s_l_built_right : Stmt := topS 30
def d_l_built_right : He.DefD := ⟨("_law_built_right", none), "_law_built_right", "_law_built_right", defArgs s_l_built_right, defBody s_l_built_right, defScope s_l_built_right, [], []⟩
abbrev s_law_ : Stmt := topS 31
def d_law_ : He.DefD := ⟨("law", none), "law", "law", defArgs s_law_, defBody s_law_, defScope s_law_, [], []⟩
abbrev s_m_NoWeb_init : Stmt := metS 8 0
def d_m_NoWeb_init : He.DefD := ⟨("NoWeb", some "__init__"), "__init__", "NoWeb.__init__", defArgs s_m_NoWeb_init, defBody s_m_NoWeb_init, defScope s_m_NoWeb_init, [], []⟩
def fn0 : List He.DefD := [d_p_is_whole, d_p_is_name, d_p_are_hungers, d_p_are_feeders, d_p_is_hearth, d_p_hearths_by_name, d_p_hearth_row, d_m_Web_init, d_m_Web_built, d_m_Web_eq, d_m_Web_len, d_m_Web_str, d_m_Web_repr, d_l_cell, d_l_hand, d_l_draw, d_l_calls, d_l_fires, d_l_put, d_l_others, d_l_alike, d_l_refused, d_l_grown, d_l_built_right, d_law_, d_m_NoWeb_init]
def fn : List He.DefD := fn0
def fa0 : List He.Fa := [.int "MOST" 16, .int "MOST_STORES" 3, .int "MOST_HUNGER" 9, .int "LONGEST_NAME" 6, .glo "is_whole", .glo "is_name", .glo "are_hungers", .glo "are_feeders", .glo "is_hearth", .glo "hearths_by_name", .glo "hearth_row", .glo "_law_cell", .glo "_law_hand", .glo "_law_draw", .glo "_law_calls", .glo "_law_fires", .glo "_law_put", .glo "_law_others", .glo "_law_alike", .glo "_law_refused", .glo "_law_grown", .glo "_law_built_right", .glo "law", .glo "Web", .cls "Web", .mkr "Web", .keep "Web", .noat "Web" "by_name", .noat "Web" "stores", .noat "Web" "hearths"]
def fa1 : List He.Fa := [.meth "Web" "__init__", .meth "Web" "built", .meth "Web" "__eq__", .meth "Web" "__len__", .meth "Web" "__str__", .meth "Web" "__repr__", .glo "NoWeb", .meth "NoWeb" "__init__", .glo "HearthError", .glo "NoName", .glo "NoStores", .free "ValueError", .free "abs", .free "all", .free "any", .free "bool", .free "divmod", .free "enumerate", .free "int", .free "isinstance", .free "len", .free "list", .free "max", .free "min", .free "range", .free "repr", .free "set", .free "str", .free "tuple"]
def fa : List He.Fa := fa0 ++ fa1
def loose0 : List PySem.Str := ["_wall", "MOST", "MOST_STORES", "MOST_HUNGER", "LONGEST_NAME", "__name__", "HearthError", "NoStores", "NoWeb", "NoName", "is_whole", "is_name", "are_hungers", "are_feeders", "is_hearth", "hearths_by_name", "hearth_row", "Web", "_law_cell", "_law_hand", "_law_draw", "_law_calls", "_law_fires", "_law_put", "_law_others", "_law_alike", "_law_refused", "_law_grown", "_law_built_right"]
def loose : List PySem.Str := loose0
-- law at 31
def exF (K : PySem.W.Frag) : Bool := ((["NoneType", "bool", "int", "str", "tuple", "list", "dict"].all fun n => decide (PySem.W.kitOne K (.type n) (.ref (He.ga K "Web")) = some false)) && (decide (PySem.W.kitOne K (.ref (He.ga K "Web")) (.ref (He.ga K "Web")) = some true) && (He.eqO (PySem.W.findIn K (.ref (He.ga K "Web")) "__class__") (some (some (.builtin "object.__class__"))) && (decide (PySem.W.mroIn K (He.ga K "Web") (.type "object") = some true) && (He.eqO (PySem.W.findIn K (.ref (He.ga K "Web")) "__ne__") (some (some (.builtin "object.__ne__"))) && (He.eqO (PySem.W.findIn K (.ref (He.ga K "Web")) "__bool__") (some none) && (noneAt K (He.dflAt ("Web", some "__init__") 0 K) && (oexAll K (He.ga K "NoWeb") && (decide (PySem.W.findIn K (.ref (He.ga K "NoWeb")) "place" = some none) && (decide (PySem.W.typeIn K (.ref (He.ma K (He.ga K "NoWeb") "__init__")) = some (.type "function")) && (exkB K (He.ga K "NoWeb") && (decide (PySem.W.exmOne K (.ref (He.ga K "NoWeb")) (.ref (He.ga K "HearthError")) = some true) && (upB K (He.ga K "HearthError") && (decide (PySem.W.kitAny K (.type "NoneType") [(.ref (He.ga K "NoStores")), (.ref (He.ga K "NoName"))] = some false) && (decide (PySem.W.kitAny K (.ref (He.ga K "NoWeb")) [(.ref (He.ga K "NoStores")), (.ref (He.ga K "NoName"))] = some false) && (decide (PySem.W.kitOne K (.type "NoneType") (.ref (He.ga K "NoWeb")) = some false) && (decide (PySem.W.kitOne K (.ref (He.ga K "NoWeb")) (.ref (He.ga K "NoWeb")) = some true) && ((["NoneType", "bool", "int", "str", "tuple", "list", "dict"].all fun n => decide (PySem.W.subIn K (.ref (He.ga K "Web")) (.type n) = some false)) && (He.eqO (PySem.W.specialIn K (.builtin "object.__class__") "__get__") (some (some (.builtin "getset_descriptor.__get__"))) && decide (PySem.W.takesIn K (.builtin "object.__class__") = some true))))))))))))))))))))
abbrev R : PySem.W.OpenRow := PySem.W.OpenLaw.row PySem.Challenge.rw_kindlestair_k03_webs_built_and_alike
abbrev hk : PySem.W.Hook := hookY 6 fa fn exF
def ob (s : PySem.W.SharedT) : He.AlX := obsY 6 fa fn exF (HandSHeadRun.getT s)
theorem ob_eq (s : PySem.W.SharedT) : ob s = hk.obs s.abs := obsY_eq (HandSHeadRun.getT_eq s)
theorem run (w : World) : HandSHeadRun.RunEq R (PySem.W.view R.prog [31]) hk ob 6000 loose w := by
  intro os
  kernel_rfl
end K03
set_option maxHeartbeats 2000000
namespace K03
open PySem L2 PySem.Spec PyProof.Rows VS
/-- what the top has left -/
structure Tx (K : PySem.W.Frag) (T : Txt) (mg : Str → Option Value) : Prop where
  b_abs : mg "abs" = none
  b_all : mg "all" = none
  b_any : mg "any" = none
  b_bool : mg "bool" = none
  b_divmod : mg "divmod" = none
  b_enumerate : mg "enumerate" = none
  b_int : mg "int" = none
  b_isinstance : mg "isinstance" = none
  b_len : mg "len" = none
  b_list : mg "list" = none
  b_max : mg "max" = none
  b_min : mg "min" = none
  b_range : mg "range" = none
  b_repr : mg "repr" = none
  b_set : mg "set" = none
  b_str : mg "str" = none
  b_tuple : mg "tuple" = none
  c_LONGEST_NAME : ∃ t, mg "LONGEST_NAME" = some (.int 6 t)
  c_MOST : ∃ t, mg "MOST" = some (.int 16 t)
  c_MOST_HUNGER : ∃ t, mg "MOST_HUNGER" = some (.int 9 t)
  c_MOST_STORES : ∃ t, mg "MOST_STORES" = some (.int 3 t)
  fl_Web : T.fl 0 = (["by_name", "stores", "hearths"] : List Str)
  C_Web : ClsF K T 0
  I_Web : IsiF K T 0
  g_Web : mg "Web" = some (.ref (T.cl 0))
  S_Web : SpF K T 0
  G_Web : SpG K T 0
  g_NoWeb : mg "NoWeb" = some (.ref (T.cl 1))
  g_HearthError : mg "HearthError" = some (.ref (T.cl 2))
  g_NoName : mg "NoName" = some (.ref (T.cl 3))
  g_NoStores : mg "NoStores" = some (.ref (T.cl 4))
  xk : Kinds K T [1]
  hit_HearthError : ∀ c ∈ ([1] : List Nat), PySem.W.exmOne K (.ref (T.cl c)) (.ref (T.cl 2)) = some true
  up_HearthError : upB K (T.cl 2) = true
  xk_place : Kinds K T [1]
  xf_place : ∀ c ∈ ([1] : List Nat), (T.fl c).Nodup ∧ (T.fl c)[0]? = some ("place" : Str) ∧ PySem.W.findIn K (.ref (T.cl c)) "place" = some none
  oex_NoWeb : OexC K (T.cl 1)
  no_NoWeb : PySem.W.findIn K (.ref (T.cl 1)) "place" = some none
  isaT_NoStores_NoName : IsaT K T [.ref (T.cl 4), .ref (T.cl 3)] (isaF ["NoneType"] [(1, false)])
  isa_NoWeb : IsaV K T (.ref (T.cl 1)) (isaF ["NoneType"] [(1, true)])
section
variable {T : Txt} {P : Program} {w : World} {K : PySem.W.Frag} {mg : Str → Option Value} {base : Heap} {f : Addr} {fd : FuncData}
theorem sc_m_NoWeb_init : FnScope ["self", "place"] ["self", "place"] (defScope s_m_NoWeb_init) := ⟨rfl, rfl, rfl, by decide +kernel, rfl, by decide +kernel, by decide +kernel⟩
theorem ok_m_NoWeb_init (X0 : Tx K T mg) (D0 : FunD K "__init__" "NoWeb.__init__" (defArgs s_m_NoWeb_init) (defBody s_m_NoWeb_init) (defScope s_m_NoWeb_init) [] [] f fd) : FnOk P w K mg base CX0 1 f fd ["self", "place"] (spIF (T.cl 1) "place") := by
  refine D0.ok (k := 0) sc_m_NoWeb_init (fun vs H Q E h => by obtain ⟨_, a, y, rfl, _⟩ := h; rfl) fun cdv A outer s H vs Q E hr h => ⟨_, pss_cons (ps_expr (pe_upInit X0.up_HearthError rfl X0.g_HearthError (pa_cons (pv 0) (pa_cons (pe_joined (.cons pe_str (.cons (pe_fmtN (pv 1)) (.cons pe_str .nil)))) pa_nil)))) (pss_cons (ps_ost (pv 0) (pv 1)) pss_nil), ?_⟩
  exact init_rowsF X0.oex_NoWeb X0.no_NoWeb rfl (by decide) (by decide) h
theorem sc_p_is_whole : FnScope ["thing", "low", "high"] ["thing", "low", "high"] (defScope s_p_is_whole) := ⟨rfl, rfl, rfl, by decide +kernel, rfl, by decide +kernel, by decide +kernel⟩
theorem ok_p_is_whole (X0 : Tx K T mg) (D0 : FunD K "is_whole" "is_whole" (defArgs s_p_is_whole) (defBody s_p_is_whole) (defScope s_p_is_whole) [] [] f fd) : FnG P w K mg base 1 f fd ["thing", "low", "high"] (spG K T g_p_is_whole 3) := by
  refine fnG_def' (h := h_p_is_whole) D0 sc_p_is_whole rfl rfl rfl (fun {cdv A outer s H E} hA hr tk po => ?_)
  exact (js_one (js_ret (je_and (je_isi isi_ty X0.b_isinstance (jb_of (je_v 0)) (pe_bltn (v := .ty "int") rfl X0.b_int (by decide +kernel) rfl)) (je_and (je_not (je_isi isi_ty X0.b_isinstance (jb_of (je_v 0)) (pe_bltn (v := .ty "bool") rfl X0.b_bool (by decide +kernel) rfl))) (je_one (je_chain cmp_le cmp_le (je_v 1) (je_v 0) (je_v 2)))))))
theorem sc_p_is_name : FnScope ["thing", "sign"] ["thing"] (defScope s_p_is_name) := ⟨rfl, rfl, rfl, by decide +kernel, rfl, by decide +kernel, by decide +kernel⟩
theorem ok_p_is_name (X0 : Tx K T mg) (D0 : FunD K "is_name" "is_name" (defArgs s_p_is_name) (defBody s_p_is_name) (defScope s_p_is_name) [] [] f fd) : FnG P w K mg base 1 f fd ["thing"] (spG K T g_p_is_name 1) := by
  refine fnG_def' (h := h_p_is_name) D0 sc_p_is_name rfl rfl rfl (fun {cdv A outer s H E} hA hr tk po => ?_)
  exact (js_cons (js_if (jt_of_jw (jw_or (jt_not (jt_truth (je_isi isi_ty X0.b_isinstance (jb_of (je_v 0)) (pe_bltn (v := .ty "str") rfl X0.b_str (by decide +kernel) rfl)))) (jw_or1 (jt_not (jt_chain cmp_le cmp_le je_cint (je_len X0.b_len (jb_of (je_v 0))) (je_gint X0.c_LONGEST_NAME)))))) (js_one (js_ret je_cbl)) js_nil)
    (js_one (js_ret (je_all rfl X0.b_all (jb_of (je_lc rfl sc_p_is_name.nd (ji_seq (je_v 0)) (blkOk_by (own := [("sign", 1)]) (by rfl)) rfl (fun _ _ _ _ _ => (jg_v 1 sc_p_is_name.nd)) (fun _ _ _ _ _ => jts_nil) (fun _ _ _ _ _ => (je_chain cmp_le cmp_le je_cstr (je_v 1) je_cstr)) (by decide)))))))
theorem sc_p_are_hungers : FnScope ["thing", "stores", "hunger"] ["thing", "stores"] (defScope s_p_are_hungers) := ⟨rfl, rfl, rfl, by decide +kernel, rfl, by decide +kernel, by decide +kernel⟩
theorem ok_p_are_hungers (X0 : Tx K T mg) (c_p_is_whole : Cal P w K mg base T 1 "is_whole" g_p_is_whole ["thing", "low", "high"]) (D0 : FunD K "are_hungers" "are_hungers" (defArgs s_p_are_hungers) (defBody s_p_are_hungers) (defScope s_p_are_hungers) [] [] f fd) : FnG P w K mg base 2 f fd ["thing", "stores"] (spG K T g_p_are_hungers 2) := by
  refine fnG_def' (h := h_p_are_hungers) D0 sc_p_are_hungers rfl rfl rfl (fun {cdv A outer s H E} hA hr tk po => ?_)
  exact (js_cons (js_if (jt_of_jw (jw_or (jt_not (jt_truth (je_isi isi_ty X0.b_isinstance (jb_of (je_v 0)) (pe_bltn (v := .ty "tuple") rfl X0.b_tuple (by decide +kernel) rfl)))) (jw_or1 (jt_cmp (cmp_ne hr) (je_len X0.b_len (jb_of (je_v 0))) (je_v 1))))) (js_one (js_ret je_cbl)) js_nil)
    (js_cons (js_if (jt_not (jt_truth (je_all rfl X0.b_all (jb_of (je_lc rfl sc_p_are_hungers.nd (ji_seq (je_v 0)) (blkOk_by (own := [("hunger", 2)]) (by rfl)) rfl (fun _ _ _ _ _ => (jg_v 2 sc_p_are_hungers.nd)) (fun _ _ _ _ _ => jts_nil) (fun _ _ _ _ _ => (je_of_jr (jr_def c_p_is_whole hA (hr.mono (by decide)) takes0 (jc_v (je_v 2) (jc_v je_cint (jc_v (je_gint X0.c_MOST_HUNGER) jc_nil)))))) (by decide)))))) (js_one (js_ret je_cbl)) js_nil)
    (js_one (js_ret (je_any rfl X0.b_any (jb_of (je_lc rfl sc_p_are_hungers.nd (ji_seq (je_v 0)) (blkOk_by (own := [("hunger", 2)]) (by rfl)) rfl (fun _ _ _ _ _ => (jg_v 2 sc_p_are_hungers.nd)) (fun _ _ _ _ _ => jts_nil) (fun _ _ _ _ _ => (je_cmp cmp_gt (je_v 2) je_cint)) (by decide))))))))
theorem sc_p_are_feeders : FnScope ["thing", "ahead", "feeder"] ["thing", "ahead"] (defScope s_p_are_feeders) := ⟨rfl, rfl, rfl, by decide +kernel, rfl, by decide +kernel, by decide +kernel⟩
theorem ok_p_are_feeders (X0 : Tx K T mg) (D0 : FunD K "are_feeders" "are_feeders" (defArgs s_p_are_feeders) (defBody s_p_are_feeders) (defScope s_p_are_feeders) [] [] f fd) : FnG P w K mg base 1 f fd ["thing", "ahead"] (spG K T g_p_are_feeders 2) := by
  refine fnG_def' (h := h_p_are_feeders) D0 sc_p_are_feeders rfl rfl rfl (fun {cdv A outer s H E} hA hr tk po => ?_)
  exact (js_cons (js_if (jt_not (jt_truth (je_isi isi_ty X0.b_isinstance (jb_of (je_v 0)) (pe_bltn (v := .ty "tuple") rfl X0.b_tuple (by decide +kernel) rfl)))) (js_one (js_ret je_cbl)) js_nil)
    (js_cons (js_if (jt_not (jt_truth (je_all rfl X0.b_all (jb_of (je_lc rfl sc_p_are_feeders.nd (ji_seq (je_v 0)) (blkOk_by (own := [("feeder", 2)]) (by rfl)) rfl (fun _ _ _ _ _ => (jg_v 2 sc_p_are_feeders.nd)) (fun _ _ _ _ _ => jts_nil) (fun _ _ _ _ _ => (je_and (je_isi isi_ty X0.b_isinstance (jb_of (je_v 2)) (pe_bltn (v := .ty "str") rfl X0.b_str (by decide +kernel) rfl)) (je_one (je_inO hr (je_v 2) (jb_v 1))))) (by decide)))))) (js_one (js_ret je_cbl)) js_nil)
    (js_one (js_ret (je_cmp (cmp_eq hr) (je_lenSet rfl X0.b_len X0.b_set (je_v 0)) (je_len X0.b_len (jb_of (je_v 0))))))))
theorem sc_p_is_hearth : FnScope ["thing", "stores", "ahead", "name", "hungers", "feeders"] ["thing", "stores", "ahead"] (defScope s_p_is_hearth) := ⟨rfl, rfl, rfl, by decide +kernel, rfl, by decide +kernel, by decide +kernel⟩
theorem ok_p_is_hearth (X0 : Tx K T mg) (c_p_is_name : Cal P w K mg base T 1 "is_name" g_p_is_name ["thing"]) (c_p_are_hungers : Cal P w K mg base T 2 "are_hungers" g_p_are_hungers ["thing", "stores"]) (c_p_are_feeders : Cal P w K mg base T 1 "are_feeders" g_p_are_feeders ["thing", "ahead"]) (D0 : FunD K "is_hearth" "is_hearth" (defArgs s_p_is_hearth) (defBody s_p_is_hearth) (defScope s_p_is_hearth) [] [] f fd) : FnG P w K mg base 3 f fd ["thing", "stores", "ahead"] (spG K T g_p_is_hearth 3) := by
  refine fnG_def' (h := h_p_is_hearth) D0 sc_p_is_hearth rfl rfl rfl (fun {cdv A outer s H E} hA hr tk po => ?_)
  exact (js_cons (js_if (jt_of_jw (jw_or (jt_not (jt_truth (je_isi isi_ty X0.b_isinstance (jb_of (je_v 0)) (pe_bltn (v := .ty "tuple") rfl X0.b_tuple (by decide +kernel) rfl)))) (jw_or1 (jt_cmp (cmp_ne hr) (je_len X0.b_len (jb_of (je_v 0))) je_cint)))) (js_one (js_ret je_cbl)) js_nil)
    (js_cons (js_asg (je_v 0) (jg_tup rfl (jgs_cons (jg_v 3 sc_p_is_hearth.nd) (jgs_cons (jg_v 4 sc_p_is_hearth.nd) (jgs_cons (jg_v 5 sc_p_is_hearth.nd) jgs_nil)))))
    (js_cons (js_if (jt_of_jw (jw_or (jt_not (jt_truth (je_of_jr (jr_def c_p_is_name hA (hr.mono (by decide)) tk (jc_v (je_v 3) jc_nil))))) (jw_or1 (jt_inO hr (je_v 3) (jb_v 2))))) (js_one (js_ret je_cbl)) js_nil)
    (js_one (js_ret (je_and (je_of_jr (jr_def c_p_are_hungers hA (hr.mono (by decide)) tk (jc_v (je_v 4) (jc_v (je_v 1) jc_nil)))) (je_one (je_of_jr (jr_def c_p_are_feeders hA (hr.mono (by decide)) tk (jc_v (je_v 5) (jc_l (pv 2) jc_nil)))))))))))
theorem sc_p_hearths_by_name : FnScope ["stores", "hearths", "ahead", "place", "hearth"] ["stores", "hearths"] (defScope s_p_hearths_by_name) := ⟨rfl, rfl, rfl, by decide +kernel, rfl, by decide +kernel, by decide +kernel⟩
theorem ok_p_hearths_by_name (X0 : Tx K T mg) (c_p_is_hearth : Cal P w K mg base T 3 "is_hearth" g_p_is_hearth ["thing", "stores", "ahead"]) (x_NoWeb : CalXF P w K mg base T 1 "NoWeb" 1 "place") (D0 : FunD K "hearths_by_name" "hearths_by_name" (defArgs s_p_hearths_by_name) (defBody s_p_hearths_by_name) (defScope s_p_hearths_by_name) [] [] f fd) : FnG P w K mg base 4 f fd ["stores", "hearths"] (spG K T g_p_hearths_by_name 2) := by
  refine fnG_def' (h := h_p_hearths_by_name) D0 sc_p_hearths_by_name rfl rfl rfl (fun {cdv A outer s H E} hA hr tk po => ?_)
  exact (js_cons (js_if (jt_of_jw (jw_or (jt_not (jt_truth (je_isi isi_ty X0.b_isinstance (jb_of (je_v 1)) (pe_bltn (v := .ty "tuple") rfl X0.b_tuple (by decide +kernel) rfl)))) (jw_or1 (jt_cmp cmp_gt (je_len X0.b_len (jb_of (je_v 1))) (je_gint X0.c_MOST))))) (js_one (js_raiseF x_NoWeb rfl (hr.mono (by decide)) tk je_cnon)) js_nil)
    (js_cons (js_setF (i := 2) sc_p_hearths_by_name.nd rfl (by first | exact Or.inl rfl | exact Or.inr rfl) jf_dict)
    (js_cons (js_for po rfl (ji_enumE rfl X0.b_enumerate (je_v 1)) (jg_tup rfl (jgs_cons (jg_v 3 sc_p_hearths_by_name.nd) (jgs_cons (jg_v 4 sc_p_hearths_by_name.nd) jgs_nil))) (js_cons (js_if (jt_not (jt_truth (je_of_jr (jr_def c_p_is_hearth hA (hr.mono (by decide)) tk (jc_v (je_v 4) (jc_v (je_v 0) (jc_l (pv 2) jc_nil))))))) (js_one (js_raiseF x_NoWeb rfl (hr.mono (by decide)) tk (je_v 3))) js_nil)
    (js_one (js_asg (je_v 4) (jg_put (W := W0) hr (pv 2) (je_ix hr (je_v 4) je_cint))))))
    (js_one (js_retO (pv 2))))))
theorem sc_p_hearth_row : FnScope ["hearth", "name", "hungers", "feeders", "words", "hunger"] ["hearth"] (defScope s_p_hearth_row) := ⟨rfl, rfl, rfl, by decide +kernel, rfl, by decide +kernel, by decide +kernel⟩
theorem ok_p_hearth_row (X0 : Tx K T mg) (D0 : FunD K "hearth_row" "hearth_row" (defArgs s_p_hearth_row) (defBody s_p_hearth_row) (defScope s_p_hearth_row) [] [] f fd) : FnG P w K mg base 1 f fd ["hearth"] (spG K T g_p_hearth_row 1) := by
  refine fnG_def' (h := h_p_hearth_row) D0 sc_p_hearth_row rfl rfl rfl (fun {cdv A outer s H E} hA hr tk po => ?_)
  exact (js_cons (js_asg (je_v 0) (jg_tup rfl (jgs_cons (jg_v 1 sc_p_hearth_row.nd) (jgs_cons (jg_v 2 sc_p_hearth_row.nd) (jgs_cons (jg_v 3 sc_p_hearth_row.nd) jgs_nil)))))
    (js_cons (js_setF (i := 4) sc_p_hearth_row.nd rfl (by first | exact Or.inl rfl | exact Or.inr rfl) (jf_add (je_lst (ja_cons je_cstr (ja_cons (je_v 1) ja_nil))) (je_lc rfl sc_p_hearth_row.nd (ji_seq (je_v 2)) (blkOk_by (own := [("hunger", 5)]) (by rfl)) rfl (fun _ _ _ _ _ => (jg_v 5 sc_p_hearth_row.nd)) (fun _ _ _ _ _ => jts_nil) (fun _ _ _ _ _ => (je_str X0.b_str (jb_of (je_v 5)))) (by decide))))
    (js_cons (js_if (jt_truth (je_v 3)) (js_one (js_augL (i := 4) sc_p_hearth_row.nd rfl (by first | exact Or.inl rfl | exact Or.inr rfl) (je_add (je_lst (ja_cons je_cstr ja_nil)) (je_list X0.b_list (jb_of (je_v 3)))))) js_nil)
    (js_one (js_ret (je_joinB (jb_v 4)))))))
theorem sc_m_Web_init : FnScope ["self", "stores", "hearths"] ["self", "stores", "hearths"] (defScope s_m_Web_init) := ⟨rfl, rfl, rfl, by decide +kernel, rfl, by decide +kernel, by decide +kernel⟩
theorem ok_m_Web_init {dvs : List V} (X0 : Tx K T mg) (c_p_is_whole : Cal P w K mg base T 1 "is_whole" g_p_is_whole ["thing", "low", "high"]) (c_p_hearths_by_name : Cal P w K mg base T 4 "hearths_by_name" g_p_hearths_by_name ["stores", "hearths"]) (D0 : FunD K "__init__" "Web.__init__" (defArgs s_m_Web_init) (defBody s_m_Web_init) (defScope s_m_Web_init) dvs [] f fd) : FnG P w K mg base 5 f fd ["self", "stores", "hearths"] (spG K T g_m_Web_init 3) := by
  refine fnG_def' (h := h_m_Web_init) D0 sc_m_Web_init rfl rfl rfl (fun {cdv A outer s H E} hA hr tk po => ?_)
  exact (js_cons (js_if (jt_not (jt_truth (je_of_jr (jr_def c_p_is_whole hA (hr.mono (by decide)) tk (jc_v (je_v 1) (jc_v je_cint (jc_v (je_gint X0.c_MOST_STORES) jc_nil))))))) (js_one js_never) js_nil)
    (js_cons (js_fldS X0.C_Web (by rw [X0.fl_Web]; decide) (by rw [X0.fl_Web]; rfl) (pv 0) (je_of_jr (jr_def c_p_hearths_by_name hA (hr.mono (by decide)) tk (jc_v (je_v 1) (jc_v (je_v 2) jc_nil)))))
    (js_cons (js_fldS X0.C_Web (by rw [X0.fl_Web]; decide) (by rw [X0.fl_Web]; rfl) (pv 0) (je_v 1))
    (js_one (js_fldS X0.C_Web (by rw [X0.fl_Web]; decide) (by rw [X0.fl_Web]; rfl) (pv 0) (je_v 2))))))
theorem sc_m_Web_built : FnScope ["self", "hearth"] ["self", "hearth"] (defScope s_m_Web_built) := ⟨rfl, rfl, rfl, by decide +kernel, rfl, by decide +kernel, by decide +kernel⟩
theorem ok_m_Web_built (X0 : Tx K T mg) (c_m_Web_init : CalC P w K mg base T 5 "Web" 0 g_m_Web_init ["self", "stores", "hearths"]) (D0 : FunD K "built" "Web.built" (defArgs s_m_Web_built) (defBody s_m_Web_built) (defScope s_m_Web_built) [] [] f fd) : FnG P w K mg base 7 f fd ["self", "hearth"] (spG K T g_m_Web_built 2) := by
  refine fnG_def' (h := h_m_Web_built) D0 sc_m_Web_built rfl rfl rfl (fun {cdv A outer s H E} hA hr tk po => ?_)
  exact (js_one (js_ret (je_of_jr (jr_cls c_m_Web_init hA (hr.mono (by decide)) tk (ja_cons (je_fld X0.C_Web (by rw [X0.fl_Web]; rfl) (je_v 0)) (ja_cons (je_add (je_fld X0.C_Web (by rw [X0.fl_Web]; rfl) (je_v 0)) (je_tup (ja_cons (je_v 1) ja_nil))) ja_nil))))))
theorem sc_m_Web_eq : FnScope ["self", "other"] ["self", "other"] (defScope s_m_Web_eq) := ⟨rfl, rfl, rfl, by decide +kernel, rfl, by decide +kernel, by decide +kernel⟩
theorem ok_m_Web_eq (X0 : Tx K T mg) (D0 : FunD K "__eq__" "Web.__eq__" (defArgs s_m_Web_eq) (defBody s_m_Web_eq) (defScope s_m_Web_eq) [] [] f fd) : FnG P w K mg base 1 f fd ["self", "other"] (spG K T g_m_Web_eq 2) := by
  refine fnG_def' (h := h_m_Web_eq) D0 sc_m_Web_eq rfl rfl rfl (fun {cdv A outer s H E} hA hr tk po => ?_)
  exact (js_one (js_ret (je_and (je_isiC X0.C_Web X0.I_Web X0.b_isinstance X0.g_Web (jb_of (je_v 1))) (je_and (je_cmp (cmp_eq hr) (je_fld X0.C_Web (by rw [X0.fl_Web]; rfl) (je_v 0)) (je_fld X0.C_Web (by rw [X0.fl_Web]; rfl) (je_v 1))) (je_one (je_cmp (cmp_eq hr) (je_fld X0.C_Web (by rw [X0.fl_Web]; rfl) (je_v 0)) (je_fld X0.C_Web (by rw [X0.fl_Web]; rfl) (je_v 1))))))))
theorem sc_m_Web_len : FnScope ["self"] ["self"] (defScope s_m_Web_len) := ⟨rfl, rfl, rfl, by decide +kernel, rfl, by decide +kernel, by decide +kernel⟩
theorem ok_m_Web_len (X0 : Tx K T mg) (D0 : FunD K "__len__" "Web.__len__" (defArgs s_m_Web_len) (defBody s_m_Web_len) (defScope s_m_Web_len) [] [] f fd) : FnG P w K mg base 1 f fd ["self"] (spG K T g_m_Web_len 1) := by
  refine fnG_def' (h := h_m_Web_len) D0 sc_m_Web_len rfl rfl rfl (fun {cdv A outer s H E} hA hr tk po => ?_)
  exact (js_one (js_ret (je_len X0.b_len (jb_of (je_fld X0.C_Web (by rw [X0.fl_Web]; rfl) (je_v 0))))))
theorem sc_m_Web_str : FnScope ["self", "hearth"] ["self"] (defScope s_m_Web_str) := ⟨rfl, rfl, rfl, by decide +kernel, rfl, by decide +kernel, by decide +kernel⟩
theorem ok_m_Web_str (X0 : Tx K T mg) (c_p_hearth_row : Cal P w K mg base T 1 "hearth_row" g_p_hearth_row ["hearth"]) (D0 : FunD K "__str__" "Web.__str__" (defArgs s_m_Web_str) (defBody s_m_Web_str) (defScope s_m_Web_str) [] [] f fd) : FnG P w K mg base 2 f fd ["self"] (spG K T g_m_Web_str 1) := by
  refine fnG_def' (h := h_m_Web_str) D0 sc_m_Web_str rfl rfl rfl (fun {cdv A outer s H E} hA hr tk po => ?_)
  exact (js_one (js_ret (je_join (je_add (je_lst (ja_cons (je_joined (.cons je_cstr (.cons (je_fmt (je_fld X0.C_Web (by rw [X0.fl_Web]; rfl) (je_v 0))) .nil))) ja_nil)) (je_lc rfl sc_m_Web_str.nd (ji_seq (je_fld X0.C_Web (by rw [X0.fl_Web]; rfl) (je_v 0))) (blkOk_by (own := [("hearth", 1)]) (by rfl)) rfl (fun _ _ _ _ _ => (jg_v 1 sc_m_Web_str.nd)) (fun _ _ _ _ _ => jts_nil) (fun _ _ _ _ _ => (je_of_jr (jr_def c_p_hearth_row hA (hr.mono (by decide)) takes0 (jc_v (je_v 1) jc_nil)))) (by decide))))))
theorem sc_m_Web_repr : FnScope ["self"] ["self"] (defScope s_m_Web_repr) := ⟨rfl, rfl, rfl, by decide +kernel, rfl, by decide +kernel, by decide +kernel⟩
theorem ok_m_Web_repr (X0 : Tx K T mg) (D0 : FunD K "__repr__" "Web.__repr__" (defArgs s_m_Web_repr) (defBody s_m_Web_repr) (defScope s_m_Web_repr) [] [] f fd) : FnG P w K mg base 1 f fd ["self"] (spG K T g_m_Web_repr 1) := by
  refine fnG_def' (h := h_m_Web_repr) D0 sc_m_Web_repr rfl rfl rfl (fun {cdv A outer s H E} hA hr tk po => ?_)
  exact (js_one (js_ret (je_joined (.cons je_cstr (.cons (je_fmt (je_fld X0.C_Web (by rw [X0.fl_Web]; rfl) (je_v 0))) (.cons je_cstr (.cons (je_fmt (je_len X0.b_len (jb_of (je_fld X0.C_Web (by rw [X0.fl_Web]; rfl) (je_v 0))))) (.cons je_cstr .nil))))))))
theorem sc_l_cell : FnScope ["_law_script", "_law_k", "_law_state", "_law_cell_here"] ["_law_script", "_law_k"] (defScope s_l_cell) := ⟨rfl, rfl, rfl, by decide +kernel, rfl, by decide +kernel, by decide +kernel⟩
theorem ok_l_cell (X0 : Tx K T mg) (D0 : FunD K "_law_cell" "_law_cell" (defArgs s_l_cell) (defBody s_l_cell) (defScope s_l_cell) [] [] f fd) : FnG P w K mg base 1 f fd ["_law_script", "_law_k"] (spG K T g_l_cell 2) := by
  refine fnG_def' (h := h_l_cell) D0 sc_l_cell rfl rfl rfl (fun {cdv A outer s H E} hA hr tk po => ?_)
  exact (js_cons (js_if (jt_cmp cmp_lt (je_v 1) (je_len X0.b_len (jb_of (je_v 0)))) (js_one (js_ret (je_ix hr (je_v 0) (je_v 1)))) js_nil)
    (js_cons (js_set (i := 2) sc_l_cell.nd rfl (by first | exact Or.inl rfl | exact Or.inr rfl) (je_mod (je_mulE je_cint (je_add (je_add (je_mulE (je_v 1) (je_v 1)) (je_mulE je_cint (je_v 1))) je_cint)) je_cint))
    (js_cons (js_for po rfl (ji_seq (je_slice (je_v 0) jp_none (jp_some je_cint))) (jg_v 3 sc_l_cell.nd) (js_one (js_set (i := 2) sc_l_cell.nd rfl (by first | exact Or.inl rfl | exact Or.inr rfl) (je_mod (je_add (je_mulE (je_v 2) je_cint) (je_v 3)) je_cint))))
    (js_one (js_ret (je_v 2))))))
theorem sc_l_hand : FnScope ["_law_cell_here", "_law_digits"] ["_law_cell_here"] (defScope s_l_hand) := ⟨rfl, rfl, rfl, by decide +kernel, rfl, by decide +kernel, by decide +kernel⟩
theorem ok_l_hand (X0 : Tx K T mg) (D0 : FunD K "_law_hand" "_law_hand" (defArgs s_l_hand) (defBody s_l_hand) (defScope s_l_hand) [] [] f fd) : FnG P w K mg base 1 f fd ["_law_cell_here"] (spG K T g_l_hand 1) := by
  refine fnG_def' (h := h_l_hand) D0 sc_l_hand rfl rfl rfl (fun {cdv A outer s H E} hA hr tk po => ?_)
  exact (js_cons (js_set (i := 1) sc_l_hand.nd rfl (by first | exact Or.inl rfl | exact Or.inr rfl) (je_if (jt_of_jw (jw_or (jt_cmp cmp_lt (je_v 0) je_cint) (jw_or1 (jt_cmp cmp_ge (je_v 0) (je_pow je_cint je_cint))))) (je_abs X0.b_abs (jb_of (je_v 0))) je_cint))
    (js_one (js_retF (jf_lst (ja_cons (je_v 1) (ja_cons (je_add (je_mulE (je_mod (je_v 0) je_cint) je_cint) je_cint) (ja_cons je_cint ja_nil)))))))
theorem sc_l_draw : FnScope ["_law_hand_here", "_law_many", "_law_digit", "_law_state"] ["_law_hand_here", "_law_many"] (defScope s_l_draw) := ⟨rfl, rfl, rfl, by decide +kernel, rfl, by decide +kernel, by decide +kernel⟩
theorem ok_l_draw (X0 : Tx K T mg) (D0 : FunD K "_law_draw" "_law_draw" (defArgs s_l_draw) (defBody s_l_draw) (defScope s_l_draw) [] [] f fd) : FnG P w K mg base 1 f fd ["_law_hand_here", "_law_many"] (spG K T g_l_draw 2) := by
  refine fnG_def' (h := h_l_draw) D0 sc_l_draw rfl rfl rfl (fun {cdv A outer s H E} hA hr tk po => ?_)
  exact (js_cons (js_asg (je_add (je_ixO hr (pv 0) je_cint) je_cint) (jg_item (W := W0) (pv 0) je_cint))
    (js_cons (js_if (jt_cmp cmp_gt (je_ixO hr (pv 0) je_cint) je_cint) (js_cons (js_asg (je_divmod X0.b_divmod (ja_cons (je_ixO hr (pv 0) je_cint) (ja_cons (je_v 1) ja_nil))) (jg_tup rfl (jgs_cons (jg_item (W := W0) (pv 0) je_cint) (jgs_cons (jg_v 2 sc_l_draw.nd) jgs_nil))))
    (js_one (js_ret (je_v 2)))) js_nil)
    (js_cons (js_set (i := 3) sc_l_draw.nd rfl (by first | exact Or.inl rfl | exact Or.inr rfl) (je_mod (je_ixO hr (pv 0) je_cint) je_cint))
    (js_cons (js_asg (je_add (je_mulE (je_v 3) (je_add (je_mod (je_v 3) je_cint) je_cint)) (je_mulE je_cint (je_ixO hr (pv 0) je_cint))) (jg_item (W := W0) (pv 0) je_cint))
    (js_one (js_ret (je_mod (je_fdiv (je_mod (je_ixO hr (pv 0) je_cint) je_cint) je_cint) (je_v 1))))))))
theorem sc_l_calls : FnScope ["_law_hand_here", "_law_many", "_law_own", "_law_letters", "_law_found", "_law_turn", "_law_word", "_law_some", "_law_k", "_law_letter", "_law_call"] ["_law_hand_here", "_law_many"] (defScope s_l_calls) := ⟨rfl, rfl, rfl, by decide +kernel, rfl, by decide +kernel, by decide +kernel⟩
theorem ok_l_calls (X0 : Tx K T mg) (c_l_draw : Cal P w K mg base T 1 "_law_draw" g_l_draw ["_law_hand_here", "_law_many"]) (D0 : FunD K "_law_calls" "_law_calls" (defArgs s_l_calls) (defBody s_l_calls) (defScope s_l_calls) [] [] f fd) : FnG P w K mg base 2 f fd ["_law_hand_here", "_law_many"] (spG K T g_l_calls 2) := by
  refine fnG_def' (h := h_l_calls) D0 sc_l_calls rfl rfl rfl (fun {cdv A outer s H E} hA hr tk po => ?_)
  exact (js_cons (js_set (i := 2) sc_l_calls.nd rfl (by first | exact Or.inl rfl | exact Or.inr rfl) (je_lst (ja_cons je_cstr (ja_cons je_cstr (ja_cons je_cstr (ja_cons je_cstr (ja_cons je_cstr (ja_cons je_cstr (ja_cons je_cstr (ja_cons je_cstr (ja_cons je_cstr (ja_cons je_cstr (ja_cons je_cstr (ja_cons je_cstr ja_nil))))))))))))))
    (js_cons (by first | exact js_parEF (i := 3) (j := 4) rfl sc_l_calls.nd rfl rfl (by decide) rfl rfl je_cstr (jf_lst ja_nil) (by first | rfl | with_unfolding_all rfl) | exact js_tupEF (i := 3) (j := 4) rfl sc_l_calls.nd rfl rfl je_cstr (jf_lst ja_nil))
    (js_cons (js_for po rfl (ji_range1 rfl X0.b_range (je_v 1)) (jg_v 5 sc_l_calls.nd) (js_cons (js_set (i := 6) sc_l_calls.nd rfl (by first | exact Or.inl rfl | exact Or.inr rfl) (je_ix hr (je_v 2) (je_of_jr (jr_def c_l_draw hA (hr.mono (by decide)) tk (jc_l (pv 0) (jc_v je_cint jc_nil))))))
    (js_cons (js_if (jt_cmp cmp_gt (je_of_jr (jr_def c_l_draw hA (hr.mono (by decide)) tk (jc_l (pv 0) (jc_v je_cint jc_nil)))) je_cint) (js_one (js_set (i := 6) sc_l_calls.nd rfl (by first | exact Or.inl rfl | exact Or.inr rfl) (je_join (je_lc rfl sc_l_calls.nd (ji_range1 rfl X0.b_range (je_add je_cint (je_of_jr (jr_def c_l_draw hA (hr.mono (by decide)) tk (jc_l (pv 0) (jc_v je_cint jc_nil)))))) (blkOk_by (own := [("_law_k", 8)]) (by rfl)) rfl (fun _ _ _ _ _ => (jg_v 8 sc_l_calls.nd)) (fun _ _ _ _ _ => jts_nil) (fun _ _ _ _ _ => (je_ix hr (je_v 3) (je_of_jr (jr_def c_l_draw hA (hr.mono (by decide)) takes0 (jc_l (pv 0) (jc_v je_cint jc_nil)))))) (by decide))))) js_nil)
    (js_cons (js_set (i := 7) sc_l_calls.nd rfl (by first | exact Or.inl rfl | exact Or.inr rfl) (je_add (je_lst (ja_cons (je_v 6) ja_nil)) (je_lc rfl sc_l_calls.nd (ji_seq (je_v 3)) (blkOk_by (own := [("_law_letter", 9)]) (by rfl)) rfl (fun _ _ _ _ _ => (jg_v 9 sc_l_calls.nd)) (fun _ _ _ _ _ => jts_nil) (fun _ _ _ _ _ => (je_add (je_slice (je_v 6) jp_none (jp_some je_cint)) (je_v 9))) (by decide))))
    (js_one (js_append (pv 4) (je_ix hr (je_lc rfl sc_l_calls.nd (ji_seq (je_v 7)) (blkOk_by (own := [("_law_call", 10)]) (by rfl)) rfl (fun _ _ _ _ _ => (jg_v 10 sc_l_calls.nd)) (fun _ _ _ _ _ => (jts_one (jt_ninO hr (je_v 10) (jb_v 4)))) (fun _ _ _ _ _ => (je_v 10)) (by decide)) je_cint)))))))
    (js_one (js_retO (pv 4))))))
theorem sc_l_fires : FnScope ["_law_hand_here", "_law_many", "_law_few", "_law_calls_here", "_law_found", "_law_stair", "_law_k", "_law_hungers", "_law_feeders", "_law_turn", "_law_call", "_law_j"] ["_law_hand_here", "_law_many", "_law_few"] (defScope s_l_fires) := ⟨rfl, rfl, rfl, by decide +kernel, rfl, by decide +kernel, by decide +kernel⟩
theorem ok_l_fires (X0 : Tx K T mg) (c_l_calls : Cal P w K mg base T 2 "_law_calls" g_l_calls ["_law_hand_here", "_law_many"]) (c_l_draw : Cal P w K mg base T 1 "_law_draw" g_l_draw ["_law_hand_here", "_law_many"]) (D0 : FunD K "_law_fires" "_law_fires" (defArgs s_l_fires) (defBody s_l_fires) (defScope s_l_fires) [] [] f fd) : FnG P w K mg base 3 f fd ["_law_hand_here", "_law_many", "_law_few"] (spG K T g_l_fires 3) := by
  refine fnG_def' (h := h_l_fires) D0 sc_l_fires rfl rfl rfl (fun {cdv A outer s H E} hA hr tk po => ?_)
  exact (js_cons (by first | exact js_parEF (i := 3) (j := 4) rfl sc_l_fires.nd rfl rfl (by decide) rfl rfl (je_of_jr (jr_def c_l_calls hA (hr.mono (by decide)) tk (jc_l (pv 0) (jc_v (je_v 1) jc_nil)))) (jf_lst ja_nil) (by first | rfl | with_unfolding_all rfl) | exact js_tupEF (i := 3) (j := 4) rfl sc_l_fires.nd rfl rfl (je_of_jr (jr_def c_l_calls hA (hr.mono (by decide)) tk (jc_l (pv 0) (jc_v (je_v 1) jc_nil)))) (jf_lst ja_nil))
    (js_cons (js_set (i := 5) sc_l_fires.nd rfl (by first | exact Or.inl rfl | exact Or.inr rfl) (je_cmp (cmp_eq hr) (je_of_jr (jr_def c_l_draw hA (hr.mono (by decide)) tk (jc_l (pv 0) (jc_v je_cint jc_nil)))) je_cint))
    (js_cons (js_for po rfl (ji_range1 rfl X0.b_range (je_v 1)) (jg_v 6 sc_l_fires.nd) (js_cons (by first | exact js_setF (i := 7) sc_l_fires.nd rfl (by first | exact Or.inl rfl | exact Or.inr rfl) (jf_lc rfl sc_l_fires.nd (ji_range1 rfl X0.b_range (je_v 2)) (blkOk_by (own := [("_law_j", 11)]) (by rfl)) rfl (fun _ _ _ _ _ => (jg_v 11 sc_l_fires.nd)) (fun _ _ _ _ _ => jts_nil) (fun _ _ _ _ _ => (je_ix hr (je_lst (ja_cons je_cint (ja_cons je_cint (ja_cons je_cint (ja_cons je_cint (ja_cons je_cint (ja_cons je_cint ja_nil))))))) (je_of_jr (jr_def c_l_draw hA (hr.mono (by decide)) takes0 (jc_l (pv 0) (jc_v je_cint jc_nil)))))) (by decide)) | exact js_setLcO (i := 7) rfl sc_l_fires.nd rfl rfl (sw_true rfl rfl rfl (by decide +kernel)) (ji_range1 rfl X0.b_range (je_v 2)) (blkOk_by (own := [("_law_j", 11)]) (by rfl)) rfl (fun _ _ _ _ _ => (jg_v 11 sc_l_fires.nd)) (fun _ _ _ _ _ => jts_nil) (fun _ _ _ _ _ => (je_ix hr (je_lst (ja_cons je_cint (ja_cons je_cint (ja_cons je_cint (ja_cons je_cint (ja_cons je_cint (ja_cons je_cint ja_nil))))))) (je_of_jr (jr_def c_l_draw hA (hr.mono (by decide)) takes0 (jc_l (pv 0) (jc_v je_cint jc_nil)))))) (by decide))
    (js_cons (js_if (jt_cmp (cmp_eq hr) (je_max1 rfl X0.b_max (jb_v 7)) je_cint) (js_one (js_asg (je_add je_cint (je_of_jr (jr_def c_l_draw hA (hr.mono (by decide)) tk (jc_l (pv 0) (jc_v je_cint jc_nil))))) (jg_item (W := W0) (pv 7) (je_of_jr (jr_def c_l_draw hA (hr.mono (by decide)) takes0 (jc_l (pv 0) (jc_v (je_v 2) jc_nil))))))) js_nil)
    (js_cons (js_setF (i := 8) sc_l_fires.nd rfl (by first | exact Or.inl rfl | exact Or.inr rfl) (jf_lst ja_nil))
    (js_cons (js_for po rfl (ji_range1 rfl X0.b_range (je_ix hr (je_lst (ja_cons je_cint (ja_cons je_cint (ja_cons je_cint (ja_cons je_cint ja_nil))))) (je_of_jr (jr_def c_l_draw hA (hr.mono (by decide)) tk (jc_l (pv 0) (jc_v je_cint jc_nil)))))) (jg_v 9 sc_l_fires.nd) (js_cons (js_set (i := 10) sc_l_fires.nd rfl (by first | exact Or.inl rfl | exact Or.inr rfl) (je_ix hr (je_v 3) (je_max2 rfl X0.b_max (ja_cons je_cint (ja_cons (je_sub (je_sub (je_v 6) je_cint) (je_mulE (je_of_jr (jr_def c_l_draw hA (hr.mono (by decide)) tk (jc_l (pv 0) (jc_v je_cint jc_nil)))) (je_int X0.b_int (jb_of (je_not (je_v 5)))))) ja_nil)))))
    (js_one (js_if (jt_ninO hr (je_v 10) (jb_v 8)) (js_one (js_append (pv 8) (je_v 10))) js_nil))))
    (js_cons (js_if (jt_of_jw (jw_or (jt_cmp (cmp_eq hr) (je_v 6) je_cint) (jw_or1 (jt_of_jw (jw_and (jt_not (jt_truth (je_v 5))) (jw_and1 (jt_cmp (cmp_eq hr) (je_of_jr (jr_def c_l_draw hA (hr.mono (by decide)) tk (jc_l (pv 0) (jc_v je_cint jc_nil)))) je_cint))))))) (js_one (js_setF (i := 8) sc_l_fires.nd rfl (by first | exact Or.inl rfl | exact Or.inr rfl) (jf_lst ja_nil))) js_nil)
    (js_one (js_append (pv 4) (je_tup (ja_cons (je_ix hr (je_v 3) (je_v 6)) (ja_cons (je_tupleE rfl X0.b_tuple (jb_v 7)) (ja_cons (je_tupleE rfl X0.b_tuple (jb_v 8)) ja_nil))))))))))))
    (js_one (js_retO (pv 4))))))
theorem sc_l_put : FnScope ["_law_fires_here", "_law_at", "_law_fire"] ["_law_fires_here", "_law_at", "_law_fire"] (defScope s_l_put) := ⟨rfl, rfl, rfl, by decide +kernel, rfl, by decide +kernel, by decide +kernel⟩
theorem ok_l_put (X0 : Tx K T mg) (D0 : FunD K "_law_put" "_law_put" (defArgs s_l_put) (defBody s_l_put) (defScope s_l_put) [] [] f fd) : FnG P w K mg base 1 f fd ["_law_fires_here", "_law_at", "_law_fire"] (spG K T g_l_put 3) := by
  refine fnG_def' (h := h_l_put) D0 sc_l_put rfl rfl rfl (fun {cdv A outer s H E} hA hr tk po => ?_)
  exact (js_one (js_ret (je_add (je_add (je_slice (je_v 0) jp_none (jp_some (je_v 1))) (je_lst (ja_cons (je_v 2) ja_nil))) (je_slice (je_v 0) (jp_some (je_add (je_v 1) je_cint)) jp_none))))
theorem sc_l_others : FnScope ["_law_hand_here", "_law_fires_here", "_law_at", "_law_call", "_law_hungers", "_law_feeders", "_law_found", "_law_free", "_law_letter", "_law_fire"] ["_law_hand_here", "_law_fires_here"] (defScope s_l_others) := ⟨rfl, rfl, rfl, by decide +kernel, rfl, by decide +kernel, by decide +kernel⟩
theorem ok_l_others (X0 : Tx K T mg) (c_l_draw : Cal P w K mg base T 1 "_law_draw" g_l_draw ["_law_hand_here", "_law_many"]) (c_l_put : Cal P w K mg base T 1 "_law_put" g_l_put ["_law_fires_here", "_law_at", "_law_fire"]) (D0 : FunD K "_law_others" "_law_others" (defArgs s_l_others) (defBody s_l_others) (defScope s_l_others) [] [] f fd) : FnG P w K mg base 2 f fd ["_law_hand_here", "_law_fires_here"] (spG K T g_l_others 2) := by
  refine fnG_def' (h := h_l_others) D0 sc_l_others rfl rfl rfl (fun {cdv A outer s H E} hA hr tk po => ?_)
  exact (js_cons (js_set (i := 2) sc_l_others.nd rfl (by first | exact Or.inl rfl | exact Or.inr rfl) (je_of_jr (jr_def c_l_draw hA (hr.mono (by decide)) tk (jc_l (pv 0) (jc_v (je_len X0.b_len (jb_of (je_v 1))) jc_nil)))))
    (js_cons (js_asg (je_ix hr (je_v 1) (je_v 2)) (jg_tup rfl (jgs_cons (jg_v 3 sc_l_others.nd) (jgs_cons (jg_v 4 sc_l_others.nd) (jgs_cons (jg_v 5 sc_l_others.nd) jgs_nil)))))
    (js_cons (js_setF (i := 6) sc_l_others.nd rfl (by first | exact Or.inl rfl | exact Or.inr rfl) (jf_lst (ja_cons (je_slice (je_v 1) jp_none (jp_some (je_neg je_cint))) (ja_cons (je_of_jr (jr_def c_l_put hA (hr.mono (by decide)) tk (jc_v (je_v 1) (jc_v (je_v 2) (jc_v (je_tup (ja_cons (je_v 3) (ja_cons (je_add (je_slice (je_v 4) jp_none (jp_some (je_neg je_cint))) (je_tup (ja_cons (je_add (je_mod (je_ix hr (je_v 4) (je_neg je_cint)) je_cint) je_cint) ja_nil))) (ja_cons (je_v 5) ja_nil)))) jc_nil))))) ja_nil))))
    (js_cons (by first | exact js_setLc (i := 7) rfl sc_l_others.nd rfl rfl (sw_true rfl rfl rfl (by decide +kernel)) (ji_seq je_cstr) (blkOk_by (own := [("_law_letter", 8)]) (by rfl)) rfl (fun _ _ _ _ _ => (jg_v 8 sc_l_others.nd)) (fun _ _ _ _ _ => (jts_one (jt_cmp (cmp_nin hr) (je_v 8) (je_lc rfl sc_l_others.nd (ji_seq (je_v 1)) (blkOk_by (own := [("_law_fire", 9)]) (by rfl)) rfl (fun _ _ _ _ _ => (jg_v 9 sc_l_others.nd)) (fun _ _ _ _ _ => jts_nil) (fun _ _ _ _ _ => (je_ix hr (je_v 9) je_cint)) (by decide))))) (fun _ _ _ _ _ => (je_v 8)) (by decide) | exact js_set (i := 7) sc_l_others.nd rfl (by first | exact Or.inl rfl | exact Or.inr rfl) (je_lc rfl sc_l_others.nd (ji_seq je_cstr) (blkOk_by (own := [("_law_letter", 8)]) (by rfl)) rfl (fun _ _ _ _ _ => (jg_v 8 sc_l_others.nd)) (fun _ _ _ _ _ => (jts_one (jt_cmp (cmp_nin hr) (je_v 8) (je_lc rfl sc_l_others.nd (ji_seq (je_v 1)) (blkOk_by (own := [("_law_fire", 9)]) (by rfl)) rfl (fun _ _ _ _ _ => (jg_v 9 sc_l_others.nd)) (fun _ _ _ _ _ => jts_nil) (fun _ _ _ _ _ => (je_ix hr (je_v 9) je_cint)) (by decide))))) (fun _ _ _ _ _ => (je_v 8)) (by decide)))
    (js_cons (js_append (pv 6) (je_add (je_slice (je_v 1) jp_none (jp_some (je_neg je_cint))) (je_lst (ja_cons (je_add (je_tup (ja_cons (je_ix hr (je_v 7) je_cint) ja_nil)) (je_slice (je_ix hr (je_v 1) (je_neg je_cint)) (jp_some je_cint) jp_none)) ja_nil))))
    (js_cons (js_if (jt_cmp (cmp_ne hr) (je_v 5) (je_tup ja_nil)) (js_one (js_append (pv 6) (je_of_jr (jr_def c_l_put hA (hr.mono (by decide)) tk (jc_v (je_v 1) (jc_v (je_v 2) (jc_v (je_tup (ja_cons (je_v 3) (ja_cons (je_v 4) (ja_cons (je_slice (je_v 5) (jp_some je_cint) jp_none) ja_nil)))) jc_nil))))))) js_nil)
    (js_cons (js_if (jt_cmp cmp_gt (je_len X0.b_len (jb_of (je_v 5))) je_cint) (js_one (js_append (pv 6) (je_of_jr (jr_def c_l_put hA (hr.mono (by decide)) tk (jc_v (je_v 1) (jc_v (je_v 2) (jc_v (je_tup (ja_cons (je_v 3) (ja_cons (je_v 4) (ja_cons (je_rev (je_v 5)) ja_nil)))) jc_nil))))))) js_nil)
    (js_one (js_retO (pv 6))))))))))
theorem sc_l_alike : FnScope ["_law_web", "_law_thing", "_law_due", "_law_told", "_law_word"] ["_law_web", "_law_thing", "_law_due"] (defScope s_l_alike) := ⟨rfl, rfl, rfl, by decide +kernel, rfl, by decide +kernel, by decide +kernel⟩
theorem ok_l_alike (X0 : Tx K T mg) (c_m_Web_eq : CalM P w K mg base T 1 0 "__eq__" g_m_Web_eq ["self", "other"]) (D0 : FunD K "_law_alike" "_law_alike" (defArgs s_l_alike) (defBody s_l_alike) (defScope s_l_alike) [] [] f fd) : FnG P w K mg base 5 f fd ["_law_web", "_law_thing", "_law_due"] (spG K T g_l_alike 3) := by
  refine fnG_def' (h := h_l_alike) D0 sc_l_alike rfl rfl rfl (fun {cdv A outer s H E} hA hr tk po => ?_)
  exact (js_cons (js_set (i := 3) sc_l_alike.nd rfl (by first | exact Or.inl rfl | exact Or.inr rfl) (je_lst (ja_cons (je_cmp (cmp_eqJ X0.G_Web c_m_Web_eq hA (hr.mono (by decide))) (je_v 0) (je_v 1)) (ja_cons (je_cmp (cmp_eqJ X0.G_Web c_m_Web_eq hA (hr.mono (by decide))) (je_v 1) (je_v 0)) (ja_cons (je_not (je_cmp (cmp_neJ X0.S_Web X0.G_Web c_m_Web_eq hA (hr.mono (by decide))) (je_v 0) (je_v 1))) (ja_cons (je_not (je_cmp (cmp_neJ X0.S_Web X0.G_Web c_m_Web_eq hA (hr.mono (by decide))) (je_v 1) (je_v 0))) (ja_cons (je_cmp (cmp_inJ X0.G_Web c_m_Web_eq hA (hr.mono (by decide))) (je_v 1) (je_lst (ja_cons (je_v 0) ja_nil))) (ja_cons (je_cmp (cmp_inJ X0.G_Web c_m_Web_eq hA (hr.mono (by decide))) (je_v 0) (je_tup (ja_cons (je_v 1) ja_nil))) ja_nil))))))))
    (js_one (js_ret (je_and (je_cmp (cmp_eqJ X0.G_Web c_m_Web_eq hA (hr.mono (by decide))) (je_v 3) (je_mulE (je_lst (ja_cons (je_v 2) ja_nil)) je_cint)) (je_one (je_all rfl X0.b_all (jb_of (je_lc rfl sc_l_alike.nd (ji_seq (je_v 3)) (blkOk_by (own := [("_law_word", 4)]) (by rfl)) rfl (fun _ _ _ _ _ => (jg_v 4 sc_l_alike.nd)) (fun _ _ _ _ _ => jts_nil) (fun _ _ _ _ _ => (je_isi isi_ty X0.b_isinstance (jb_of (je_v 4)) (pe_bltn (v := .ty "bool") rfl X0.b_bool (by decide +kernel) rfl))) (by decide)))))))))
theorem sc_l_refused : FnScope ["_law_web", "_law_thing", "_law_caught", "e"] ["_law_web", "_law_thing"] (defScope s_l_refused) := ⟨rfl, rfl, rfl, by decide +kernel, rfl, by decide +kernel, by decide +kernel⟩
theorem ok_l_refused (X0 : Tx K T mg) (c_m_Web_built : CalM P w K mg base T 7 0 "built" g_m_Web_built ["self", "hearth"]) (D0 : FunD K "_law_refused" "_law_refused" (defArgs s_l_refused) (defBody s_l_refused) (defScope s_l_refused) [] [] f fd) : FnG P w K mg base 8 f fd ["_law_web", "_law_thing"] (spG K T g_l_refused 2) := by
  refine fnG_def' (h := h_l_refused) D0 sc_l_refused rfl rfl rfl (fun {cdv A outer s H E} hA hr tk po => ?_)
  exact (js_cons (js_set (i := 2) sc_l_refused.nd rfl (by first | exact Or.inl rfl | exact Or.inr rfl) je_cnon)
    (js_cons (js_tryK (i := 3) (j := 2) (hit := [1]) (by decide) rfl rfl rfl sc_l_refused.nd rfl rfl ⟨rfl, by decide, .inl X0.g_HearthError⟩ X0.hit_HearthError (fun W pn xe tk po => (js_one (js_expr (je_of_jr (jr_met X0.C_Web c_m_Web_built hA (hr.mono (by decide)) tk (by rw [X0.fl_Web]; decide) (je_v 0) (ja_cons (je_v 1) ja_nil)))))) (fun a oe pn => pss_one (ps_set (i := 2) sc_l_refused.nd rfl (by first | exact Or.inl rfl | exact Or.inr rfl) (pv 3))) (fun N σ H v hl hv q => ⟨v, hv, q⟩))
    (js_cons (js_if (jt_of_jw (jw_or (jt_not (jt_truth (je_isa X0.xk X0.isa_NoWeb X0.b_isinstance (jb_of (je_v 2)) (pe_glob rfl X0.g_NoWeb rfl)))) (jw_or1 (jt_truth (je_isaT X0.xk X0.isaT_NoStores_NoName (by simp) X0.b_isinstance (je_v 2) (pa_names (pa_names pa_nil (pe_glob rfl X0.g_NoName rfl) rfl) (pe_glob rfl X0.g_NoStores rfl) rfl)))))) (js_one (js_ret je_cnon)) js_nil)
    (js_one (js_ret (je_lst (ja_cons (je_xfd X0.xk_place X0.xf_place (je_v 2)) ja_nil)))))))
theorem sc_l_grown : FnScope ["_law_fires_here", "_law_few", "_law_webs", "_law_k"] ["_law_fires_here", "_law_few"] (defScope s_l_grown) := ⟨rfl, rfl, rfl, by decide +kernel, rfl, by decide +kernel, by decide +kernel⟩
theorem ok_l_grown (X0 : Tx K T mg) (c_m_Web_len : CalM P w K mg base T 1 0 "__len__" g_m_Web_len ["self"]) (c_m_Web_eq : CalM P w K mg base T 1 0 "__eq__" g_m_Web_eq ["self", "other"]) (c_m_Web_built : CalM P w K mg base T 7 0 "built" g_m_Web_built ["self", "hearth"]) (c_m_Web_init : CalC P w K mg base T 5 "Web" 0 g_m_Web_init ["self", "stores", "hearths"]) (q_m_Web_built : CalMK P w K mg base T 7 0 "built" g_m_Web_built ["self", "hearth"] "hearth") (l_m_Web_init_10 : CalCK P w K mg base T 5 "Web" 0 g_m_Web_init ["self", "stores", "hearths"] ["hearths", "stores"] [1, 0]) (n1_m_Web_init : CalCD P w K mg base T 5 "Web" 0 g_m_Web_init ["self", "stores", "hearths"] [.tup []]) (D0 : FunD K "_law_grown" "_law_grown" (defArgs s_l_grown) (defBody s_l_grown) (defScope s_l_grown) [] [] f fd) : FnG P w K mg base 8 f fd ["_law_fires_here", "_law_few"] (spG K T g_l_grown 2) := by
  refine fnG_def' (h := h_l_grown) D0 sc_l_grown rfl rfl rfl (fun {cdv A outer s H E} hA hr tk po => ?_)
  exact (js_cons (js_setF (i := 2) sc_l_grown.nd rfl (by first | exact Or.inl rfl | exact Or.inr rfl) (jf_lst (ja_cons (je_of_jr (jr_clsD n1_m_Web_init hA (hr.mono (by decide)) tk (ja_cons (je_v 1) ja_nil))) ja_nil)))
    (js_cons (js_for po rfl (ji_range1 rfl X0.b_range (je_lenI c_m_Web_len hA (hr.mono (by decide)) X0.b_len (je_v 0))) (jg_v 3 sc_l_grown.nd) (js_one (js_append (pv 2) (je_if (jt_cmp (cmp_eqJ X0.G_Web c_m_Web_eq hA (hr.mono (by decide))) (je_mod (je_v 3) je_cint) je_cint) (je_of_jr (jr_met X0.C_Web c_m_Web_built hA (hr.mono (by decide)) tk (by rw [X0.fl_Web]; decide) (je_ixO hr (pv 2) (je_neg je_cint)) (ja_cons (je_ix hr (je_v 0) (je_v 3)) ja_nil))) (je_of_jr (jr_metK X0.C_Web q_m_Web_built hA (hr.mono (by decide)) tk (by rw [X0.fl_Web]; decide) (je_ixO hr (pv 2) (je_neg je_cint)) (je_ix hr (je_v 0) (je_v 3))))))))
    (js_cons (js_for po rfl (ji_range1 rfl X0.b_range (je_len X0.b_len (jb_v 2))) (jg_v 3 sc_l_grown.nd) (js_one (js_if (jt_of_jw (jw_or (jt_cmp (cmp_neJ X0.S_Web X0.G_Web c_m_Web_eq hA (hr.mono (by decide))) (je_ixO hr (pv 2) (je_v 3)) (je_of_jr (jr_cls c_m_Web_init hA (hr.mono (by decide)) tk (ja_cons (je_v 1) (ja_cons (je_tupleE rfl X0.b_tuple (jb_of (je_slice (je_v 0) jp_none (jp_some (je_v 3))))) ja_nil))))) (jw_or (jt_cmp (cmp_neJ X0.S_Web X0.G_Web c_m_Web_eq hA (hr.mono (by decide))) (je_lenI c_m_Web_len hA (hr.mono (by decide)) X0.b_len (je_ixO hr (pv 2) (je_v 3))) (je_v 3)) (jw_or1 (jt_cmp (cmp_neJ X0.S_Web X0.G_Web c_m_Web_eq hA (hr.mono (by decide))) (je_fld X0.C_Web (by rw [X0.fl_Web]; rfl) (je_ixO hr (pv 2) (je_v 3))) (je_tupleE rfl X0.b_tuple (jb_of (je_slice (je_v 0) jp_none (jp_some (je_v 3)))))))))) (js_one (js_ret je_cbl)) js_nil)))
    (js_one (js_ret (je_cmp (cmp_eqJ X0.G_Web c_m_Web_eq hA (hr.mono (by decide))) (je_ixO hr (pv 2) (je_neg je_cint)) (je_of_jr (jr_clsK l_m_Web_init_10 hA (hr.mono (by decide)) tk (jk_cons (je_tupleE rfl X0.b_tuple (jb_of (je_v 0))) (jk_cons (je_v 1) jk_nil))))))))))
theorem sc_l_built_right : FnScope ["_law_hand_here", "_law_fires_here", "_law_few", "_law_web", "_law_odd", "_law_due", "_law_fire", "_law_thing"] ["_law_hand_here", "_law_fires_here", "_law_few"] (defScope s_l_built_right) := ⟨rfl, rfl, rfl, by decide +kernel, rfl, by decide +kernel, by decide +kernel⟩
theorem ok_l_built_right (X0 : Tx K T mg) (c_m_Web_init : CalC P w K mg base T 5 "Web" 0 g_m_Web_init ["self", "stores", "hearths"]) (c_m_Web_eq : CalM P w K mg base T 1 0 "__eq__" g_m_Web_eq ["self", "other"]) (c_m_Web_len : CalM P w K mg base T 1 0 "__len__" g_m_Web_len ["self"]) (c_l_refused : Cal P w K mg base T 8 "_law_refused" g_l_refused ["_law_web", "_law_thing"]) (D0 : FunD K "_law_built_right" "_law_built_right" (defArgs s_l_built_right) (defBody s_l_built_right) (defScope s_l_built_right) [] [] f fd) : FnG P w K mg base 9 f fd ["_law_hand_here", "_law_fires_here", "_law_few"] (spG K T g_l_built_right 3) := by
  refine fnG_def' (h := h_l_built_right) D0 sc_l_built_right rfl rfl rfl (fun {cdv A outer s H E} hA hr tk po => ?_)
  exact (js_cons (js_set (i := 3) sc_l_built_right.nd rfl (by first | exact Or.inl rfl | exact Or.inr rfl) (je_of_jr (jr_cls c_m_Web_init hA (hr.mono (by decide)) tk (ja_cons (je_v 2) (ja_cons (je_tupleE rfl X0.b_tuple (jb_of (je_v 1))) ja_nil)))))
    (js_cons (js_set (i := 4) sc_l_built_right.nd rfl (by first | exact Or.inl rfl | exact Or.inr rfl) (je_lst (ja_cons je_cnon (ja_cons (je_tup ja_nil) (ja_cons (je_tup (ja_cons je_cstr ja_nil)) (ja_cons (je_tup (ja_cons je_cstr (ja_cons (je_mulE (je_tup (ja_cons je_cint ja_nil)) (je_v 2)) (ja_cons (je_tup ja_nil) ja_nil)))) (ja_cons (je_tup (ja_cons je_cstr (ja_cons (je_mulE (je_tup (ja_cons je_cint ja_nil)) (je_v 2)) (ja_cons (je_tup ja_nil) ja_nil)))) (ja_cons (je_lst ja_nil) (ja_cons (je_of_jf jf_dict) ja_nil)))))))))
    (js_cons (js_set (i := 4) sc_l_built_right.nd rfl (by first | exact Or.inl rfl | exact Or.inr rfl) (je_add (je_v 4) (je_lst (ja_cons (je_tup (ja_cons je_cstr (ja_cons (je_mulE (je_tup (ja_cons je_cint ja_nil)) (je_v 2)) (ja_cons (je_tup (ja_cons je_cstr ja_nil)) ja_nil)))) ja_nil))))
    (js_cons (js_set (i := 4) sc_l_built_right.nd rfl (by first | exact Or.inl rfl | exact Or.inr rfl) (je_add (je_v 4) (je_lst (ja_cons (je_tup (ja_cons je_cstr (ja_cons (je_mulE (je_tup (ja_cons je_cint ja_nil)) (je_add (je_v 2) je_cint)) (ja_cons (je_tup ja_nil) ja_nil)))) (ja_cons (je_tup (ja_cons je_cstr (ja_cons (je_mulE (je_tup (ja_cons je_cint ja_nil)) (je_v 2)) (ja_cons (je_lst (ja_cons je_cstr ja_nil)) ja_nil)))) (ja_cons (je_tup (ja_cons je_cstr (ja_cons (je_mulE (je_tup (ja_cons je_cbl ja_nil)) (je_v 2)) (ja_cons (je_tup ja_nil) ja_nil)))) ja_nil))))))
    (js_cons (js_set (i := 4) sc_l_built_right.nd rfl (by first | exact Or.inl rfl | exact Or.inr rfl) (je_add (je_v 4) (je_lc rfl sc_l_built_right.nd (ji_seq (je_slice (je_v 1) jp_none (jp_some je_cint))) (blkOk_by (own := [("_law_fire", 6)]) (by rfl)) rfl (fun _ _ _ _ _ => (jg_v 6 sc_l_built_right.nd)) (fun _ _ _ _ _ => jts_nil) (fun _ _ _ _ _ => (je_tup (ja_cons (je_ix hr (je_v 6) je_cint) (ja_cons (je_mulE (je_tup (ja_cons je_cint ja_nil)) (je_v 2)) (ja_cons (je_tup ja_nil) ja_nil))))) (by decide))))
    (js_cons (js_set (i := 5) sc_l_built_right.nd rfl (by first | exact Or.inl rfl | exact Or.inr rfl) (je_lst (ja_cons (je_if (jt_cmp (cmp_eqJ X0.G_Web c_m_Web_eq hA (hr.mono (by decide))) (je_lenI c_m_Web_len hA (hr.mono (by decide)) X0.b_len (je_v 1)) je_cint) je_cnon (je_lenI c_m_Web_len hA (hr.mono (by decide)) X0.b_len (je_v 1))) ja_nil)))
    (js_cons (js_if (jt_of_jw (jw_or (jt_cmp (cmp_neJ X0.S_Web X0.G_Web c_m_Web_eq hA (hr.mono (by decide))) (je_lc rfl sc_l_built_right.nd (ji_seq (je_v 4)) (blkOk_by (own := [("_law_thing", 7)]) (by rfl)) rfl (fun _ _ _ _ _ => (jg_v 7 sc_l_built_right.nd)) (fun _ _ _ _ _ => jts_nil) (fun _ _ _ _ _ => (je_of_jr (jr_def c_l_refused hA (hr.mono (by decide)) takes0 (jc_v (je_v 3) (jc_v (je_v 7) jc_nil))))) (by decide)) (je_mulE (je_lst (ja_cons (je_v 5) ja_nil)) (je_lenI c_m_Web_len hA (hr.mono (by decide)) X0.b_len (je_v 4)))) (jw_or1 (jt_cmp (cmp_neJ X0.S_Web X0.G_Web c_m_Web_eq hA (hr.mono (by decide))) (je_v 3) (je_of_jr (jr_cls c_m_Web_init hA (hr.mono (by decide)) tk (ja_cons (je_v 2) (ja_cons (je_tupleE rfl X0.b_tuple (jb_of (je_v 1))) ja_nil)))))))) (js_one (js_ret je_cbl)) js_nil)
    (js_one (js_ret (je_or (je_cmp cmp_lt (je_lenI c_m_Web_len hA (hr.mono (by decide)) X0.b_len (je_v 1)) je_cint) (je_one (je_cmp (cmp_eqJ X0.G_Web c_m_Web_eq hA (hr.mono (by decide))) (je_of_jr (jr_def c_l_refused hA (hr.mono (by decide)) tk (jc_v (je_v 3) (jc_v (je_tup (ja_cons je_cstr (ja_cons (je_mulE (je_tup (ja_cons je_cint ja_nil)) (je_v 2)) (ja_cons (je_tup ja_nil) ja_nil)))) jc_nil)))) (je_lst (ja_cons je_cnon ja_nil))))))))))))))
theorem sc_law_ : FnScope ["_law_script", "_law_k", "_law_hand_here", "_law_few", "_law_many", "_law_fires_here", "_law_web", "_law_things", "_law_more", "_law_thing"] ["_law_script"] (defScope s_law_) := ⟨rfl, rfl, rfl, by decide +kernel, rfl, by decide +kernel, by decide +kernel⟩
theorem ok_law_ (X0 : Tx K T mg) (c_m_Web_len : CalM P w K mg base T 1 0 "__len__" g_m_Web_len ["self"]) (c_l_cell : Cal P w K mg base T 1 "_law_cell" g_l_cell ["_law_script", "_law_k"]) (c_l_hand : Cal P w K mg base T 1 "_law_hand" g_l_hand ["_law_cell_here"]) (c_l_draw : Cal P w K mg base T 1 "_law_draw" g_l_draw ["_law_hand_here", "_law_many"]) (c_l_fires : Cal P w K mg base T 3 "_law_fires" g_l_fires ["_law_hand_here", "_law_many", "_law_few"]) (c_m_Web_init : CalC P w K mg base T 5 "Web" 0 g_m_Web_init ["self", "stores", "hearths"]) (c_l_grown : Cal P w K mg base T 8 "_law_grown" g_l_grown ["_law_fires_here", "_law_few"]) (c_l_alike : Cal P w K mg base T 5 "_law_alike" g_l_alike ["_law_web", "_law_thing", "_law_due"]) (c_l_others : Cal P w K mg base T 2 "_law_others" g_l_others ["_law_hand_here", "_law_fires_here"]) (c_m_Web_str : CalM P w K mg base T 2 0 "__str__" g_m_Web_str ["self"]) (c_m_Web_repr : CalM P w K mg base T 1 0 "__repr__" g_m_Web_repr ["self"]) (c_l_built_right : Cal P w K mg base T 9 "_law_built_right" g_l_built_right ["_law_hand_here", "_law_fires_here", "_law_few"]) (c_m_Web_eq : CalM P w K mg base T 1 0 "__eq__" g_m_Web_eq ["self", "other"]) (n1_m_Web_init : CalCD P w K mg base T 5 "Web" 0 g_m_Web_init ["self", "stores", "hearths"] [.tup []]) (D0 : FunD K "law" "law" (defArgs s_law_) (defBody s_law_) (defScope s_law_) [] [] f fd) : FnG P w K mg base 10 f fd ["_law_script"] (spG K T g_law_ 1) := by
  refine fnG_def' (h := h_law_) D0 sc_law_ rfl rfl rfl (fun {cdv A outer s H E} hA hr tk po => ?_)
  exact (js_cons (js_for po rfl (ji_range1 rfl X0.b_range (je_max2 rfl X0.b_max (ja_cons je_cint (ja_cons (je_min2 rfl X0.b_min (ja_cons (je_lenI c_m_Web_len hA (hr.mono (by decide)) X0.b_len (je_v 0)) (ja_cons je_cint ja_nil))) ja_nil)))) (jg_v 1 sc_law_.nd) (js_cons (js_setF (i := 2) sc_law_.nd rfl (by first | exact Or.inl rfl | exact Or.inr rfl) (jf_of_jr (jr_def c_l_hand hA (hr.mono (by decide)) tk (jc_v (je_of_jr (jr_def c_l_cell hA (hr.mono (by decide)) tk (jc_v (je_v 0) (jc_v (je_v 1) jc_nil)))) jc_nil))))
    (js_cons (by first | exact js_parEE (i := 3) (j := 4) rfl sc_law_.nd rfl rfl (by decide) rfl rfl (je_add je_cint (je_of_jr (jr_def c_l_draw hA (hr.mono (by decide)) tk (jc_l (pv 2) (jc_v je_cint jc_nil))))) (je_add je_cint (je_of_jr (jr_def c_l_draw hA (hr.mono (by decide)) tk (jc_l (pv 2) (jc_v je_cint jc_nil))))) (by first | rfl | with_unfolding_all rfl) | exact js_tupEE (i := 3) (j := 4) rfl sc_law_.nd rfl rfl (je_add je_cint (je_of_jr (jr_def c_l_draw hA (hr.mono (by decide)) tk (jc_l (pv 2) (jc_v je_cint jc_nil))))) (je_add je_cint (je_of_jr (jr_def c_l_draw hA (hr.mono (by decide)) tk (jc_l (pv 2) (jc_v je_cint jc_nil))))))
    (js_cons (js_set (i := 5) sc_law_.nd rfl (by first | exact Or.inl rfl | exact Or.inr rfl) (je_of_jr (jr_def c_l_fires hA (hr.mono (by decide)) tk (jc_l (pv 2) (jc_v (je_v 4) (jc_v (je_v 3) jc_nil))))))
    (js_cons (js_set (i := 6) sc_law_.nd rfl (by first | exact Or.inl rfl | exact Or.inr rfl) (je_of_jr (jr_cls c_m_Web_init hA (hr.mono (by decide)) tk (ja_cons (je_v 3) (ja_cons (je_tupleE rfl X0.b_tuple (jb_of (je_v 5))) ja_nil)))))
    (js_cons (js_if (jt_of_jw (jw_or (jt_not (jt_truth (je_of_jr (jr_def c_l_grown hA (hr.mono (by decide)) tk (jc_v (je_v 5) (jc_v (je_v 3) jc_nil)))))) (jw_or1 (jt_not (jt_truth (je_of_jr (jr_def c_l_alike hA (hr.mono (by decide)) tk (jc_v (je_v 6) (jc_v (je_of_jr (jr_cls c_m_Web_init hA (hr.mono (by decide)) tk (ja_cons (je_v 3) (ja_cons (je_tupleE rfl X0.b_tuple (jb_of (je_v 5))) ja_nil)))) (jc_v je_cbl jc_nil)))))))))) (js_one (js_ret je_cbl)) js_nil)
    (js_cons (js_if (jt_not (jt_truth (je_all rfl X0.b_all (jb_of (je_lc rfl sc_law_.nd (ji_seq (je_of_jr (jr_def c_l_others hA (hr.mono (by decide)) tk (jc_l (pv 2) (jc_v (je_v 5) jc_nil))))) (blkOk_by (own := [("_law_more", 8)]) (by rfl)) rfl (fun _ _ _ _ _ => (jg_v 8 sc_law_.nd)) (fun _ _ _ _ _ => jts_nil) (fun _ _ _ _ _ => (je_of_jr (jr_def c_l_alike hA (hr.mono (by decide)) takes0 (jc_v (je_v 6) (jc_v (je_of_jr (jr_cls c_m_Web_init hA (hr.mono (by decide)) takes0 (ja_cons (je_v 3) (ja_cons (je_tupleE rfl X0.b_tuple (jb_of (je_v 8))) ja_nil)))) (jc_v je_cbl jc_nil)))))) (by decide)))))) (js_one (js_ret je_cbl)) js_nil)
    (js_cons (js_set (i := 7) sc_law_.nd rfl (by first | exact Or.inl rfl | exact Or.inr rfl) (je_lst (ja_cons je_cnon (ja_cons (je_tupleE rfl X0.b_tuple (jb_of (je_v 5))) (ja_cons (je_strI c_m_Web_str hA (hr.mono (by decide)) X0.b_str (je_v 6)) (ja_cons (je_reprEI c_m_Web_repr hA (hr.mono (by decide)) X0.b_repr (je_v 6)) (ja_cons (je_v 3) (ja_cons (je_tup (ja_cons (je_v 3) (ja_cons (je_tupleE rfl X0.b_tuple (jb_of (je_v 5))) ja_nil))) (ja_cons (je_lst (ja_cons (je_v 6) ja_nil)) (ja_cons (je_of_jf jf_dict) (ja_cons je_cbl ja_nil)))))))))))
    (js_cons (js_if (jt_of_jw (jw_or (jt_not (jt_truth (je_all rfl X0.b_all (jb_of (je_lc rfl sc_law_.nd (ji_seq (je_v 7)) (blkOk_by (own := [("_law_thing", 9)]) (by rfl)) rfl (fun _ _ _ _ _ => (jg_v 9 sc_law_.nd)) (fun _ _ _ _ _ => jts_nil) (fun _ _ _ _ _ => (je_of_jr (jr_def c_l_alike hA (hr.mono (by decide)) takes0 (jc_v (je_v 6) (jc_v (je_v 9) (jc_v je_cbl jc_nil)))))) (by decide)))))) (jw_or1 (jt_not (jt_truth (je_of_jr (jr_def c_l_built_right hA (hr.mono (by decide)) tk (jc_l (pv 2) (jc_v (je_v 5) (jc_v (je_v 3) jc_nil)))))))))) (js_one (js_ret je_cbl)) js_nil)
    (js_one (js_if (jt_of_jw (jw_or (jt_not (jt_truth (je_of_jr (jr_def c_l_alike hA (hr.mono (by decide)) tk (jc_v (je_of_jr (jr_clsD n1_m_Web_init hA (hr.mono (by decide)) tk (ja_cons (je_v 3) ja_nil))) (jc_v (je_of_jr (jr_clsD n1_m_Web_init hA (hr.mono (by decide)) tk (ja_cons (je_add (je_mod (je_v 3) je_cint) je_cint) ja_nil))) (jc_v je_cbl jc_nil))))))) (jw_or1 (jt_cmp (cmp_neJ X0.S_Web X0.G_Web c_m_Web_eq hA (hr.mono (by decide))) (je_fld X0.C_Web (by rw [X0.fl_Web]; rfl) (je_v 6)) (je_tupleE rfl X0.b_tuple (jb_of (je_v 5))))))) (js_one (js_ret je_cbl)) js_nil)))))))))))
    (js_one (js_ret je_cbl)))
end
end K03
set_option maxHeartbeats 0
namespace VS
open PySem L2
/-- arguments by names alone -/
theorem bindsK {K : PySem.W.Frag} {x qual : Str} {params : Arguments} {body : List Stmt} {scope : Scope} {kws : List (Str × V)} {f : Addr} {fd : FuncData} {ps ks : List Str} {idx : List Nat}
    (F : FunD K x qual params body scope [] kws f fd)
    (h : ∀ (a b c : Value) (an : Option Addr) (d e : Value) (ws : List Value), ws.length = ks.length → bindArgs (PySem.W.fnOf x qual params body scope .none a b c an d e) ⟨[], ks.zip ws⟩ = pure (ps.zip (permL idx ws)))
    (s : Shared) (ws : List Value) (_ : K.In s.heap) (hl : ws.length = ks.length) : BindsTo s fd ⟨[], ks.zip ws⟩ (ps.zip (permL idx ws)) := by
  obtain ⟨_, _, _, a, b, c, an, d, e, _, q, _, _, dfl, _⟩ := F.ex
  cases dfl with
  | inl z => rw [q, z.2]; exact .of_eq (h a b c an d e ws hl)
  | inr z => exact absurd rfl z.1
/-- one argument by place, one by its name -/
theorem bindsMK {K : PySem.W.Frag} {x qual kx : Str} {params : Arguments} {body : List Stmt} {scope : Scope} {kws : List (Str × V)} {f : Addr} {fd : FuncData} {ps : List Str}
    (F : FunD K x qual params body scope [] kws f fd)
    (h : ∀ (a b c : Value) (an : Option Addr) (d e u v : Value), bindArgs (PySem.W.fnOf x qual params body scope .none a b c an d e) ⟨[u], [(kx, v)]⟩ = pure (ps.zip [u, v]))
    (s : Shared) (u v : Value) (_ : K.In s.heap) : BindsTo s fd ⟨[u], [(kx, v)]⟩ (ps.zip [u, v]) := by
  obtain ⟨_, _, _, a, b, c, an, d, e, _, q, _, _, dfl, _⟩ := F.ex
  rcases dfl with z | z
  · rw [q, z.2]
    exact .of_eq (h a b c an d e u v)
  · exact absurd rfl z.1
end VS
namespace K03
open PySem L2 PySem.Spec PyProof.Rows VS
def TX (K : PySem.W.Frag) : Txt := { cl := fun n => if n = 0 then He.ga K "Web" else if n = 1 then He.ga K "NoWeb" else if n = 2 then He.ga K "HearthError" else if n = 3 then He.ga K "NoName" else He.ga K "NoStores", fl := fun n => if n = 0 then ["by_name", "stores", "hearths"] else if n = 1 then ["place"] else if n = 2 then [] else if n = 3 then [] else [] }
theorem facts {P : Program} {w : World} {K : PySem.W.Frag} {h : Heap} {mg : Str → Option Value} {f : Addr} (X : K.In h) (G : h.Ns mainGlobals mg) (hfa : mg ("law" : Str) = some (.ref f)) (c0 : SaysY fa fn exF w K) :
    ∃ fd : FuncData, (∀ (s : Shared) (v : Value), BindsTo s fd ⟨[v], []⟩ [("_law_script", v)]) ∧ ∀ base : Heap, K.In base → base.Ns mainGlobals mg → FnG P w K mg base 10 f fd ["_law_script"] (spG K (TX K) g_law_ 1) := by
  have c := c0.t.d
  have m := c0.more
  simp only [exF, Bool.and_eq_true] at m
  have C_Web : ClsF K (TX K) 0 := by
    refine ⟨He.cls_ok (c.fact 24 (f := .cls "Web") rfl), fun f hf => ?_, by show List.Nodup _; simp [TX]; decide⟩
    have hf2 : f = ("by_name" : Str) ∨ f = ("stores" : Str) ∨ f = ("hearths" : Str) := by simpa [TX] using hf
    rcases hf2 with rfl | rfl | rfl
    · exact He.noat_ok (c.fact 27 (f := .noat "Web" "by_name") rfl)
    · exact He.noat_ok (c.fact 28 (f := .noat "Web" "stores") rfl)
    · exact He.noat_ok (c.fact 29 (f := .noat "Web" "hearths") rfl)
  have h_xk : Kinds K (TX K) [1] := by
      intro c hc
      simp only [List.mem_cons, List.not_mem_nil, or_false] at hc
      rcases hc with rfl
      · exact exkB_ok m.2.2.2.2.2.2.2.2.2.2.1
  have h_hit_HearthError : ∀ c ∈ ([1] : List Nat), PySem.W.exmOne K (.ref ((TX K).cl c)) (.ref ((TX K).cl 2)) = some true := by
      intro c hc
      simp only [List.mem_cons, List.not_mem_nil, or_false] at hc
      rcases hc with rfl
      · exact of_decide_eq_true m.2.2.2.2.2.2.2.2.2.2.2.1
  have h_up_HearthError : upB K ((TX K).cl 2) = true := m.2.2.2.2.2.2.2.2.2.2.2.2.1
  have h_xk_place : Kinds K (TX K) [1] := by
      intro c hc
      simp only [List.mem_cons, List.not_mem_nil, or_false] at hc
      rcases hc with rfl
      · exact exkB_ok m.2.2.2.2.2.2.2.2.2.2.1
  have h_xf_place : ∀ c ∈ ([1] : List Nat), ((TX K).fl c).Nodup ∧ ((TX K).fl c)[0]? = some ("place" : Str) ∧ PySem.W.findIn K (.ref ((TX K).cl c)) "place" = some none := by
      intro c hc
      simp only [List.mem_cons, List.not_mem_nil, or_false] at hc
      rcases hc with rfl
      · exact ⟨by simp [TX], rfl, of_decide_eq_true m.2.2.2.2.2.2.2.2.1⟩
  have h_oex_NoWeb : OexC K ((TX K).cl 1) := oexAll_ok m.2.2.2.2.2.2.2.1
  have h_no_NoWeb : PySem.W.findIn K (.ref ((TX K).cl 1)) "place" = some none := of_decide_eq_true m.2.2.2.2.2.2.2.2.1
  have h_isaT_NoStores_NoName : IsaT K (TX K) [.ref ((TX K).cl 4), .ref ((TX K).cl 3)] (isaF ["NoneType"] [(1, false)]) := by
    refine isaT_of (Cs := [(TX K).cl 4, (TX K).cl 3]) (by
      intro c hc
      simp only [List.mem_cons, List.not_mem_nil, or_false] at hc
      rcases hc with rfl
      · exact of_decide_eq_true m.2.2.2.2.2.2.2.2.2.2.2.2.2.1) (by
      intro c hc
      simp only [List.mem_cons, List.not_mem_nil, or_false] at hc
      rcases hc with rfl
      · exact of_decide_eq_true m.2.2.2.2.2.2.2.2.2.2.2.2.2.2.1)
  have h_isa_NoWeb : IsaV K (TX K) (.ref ((TX K).cl 1)) (isaF ["NoneType"] [(1, true)]) := by
    refine isaV_of (by
      intro c hc
      simp only [List.mem_cons, List.not_mem_nil, or_false] at hc
      rcases hc with rfl
      · exact of_decide_eq_true m.2.2.2.2.2.2.2.2.2.2.2.2.2.2.2.1) (by
      intro c hc
      simp only [List.mem_cons, List.not_mem_nil, or_false] at hc
      rcases hc with rfl
      · exact of_decide_eq_true m.2.2.2.2.2.2.2.2.2.2.2.2.2.2.2.2.1)
  have X0 : Tx K (TX K) mg := { b_abs := He.free_ok X G (c.fact 42 (f := .free "abs") rfl), b_all := He.free_ok X G (c.fact 43 (f := .free "all") rfl), b_any := He.free_ok X G (c.fact 44 (f := .free "any") rfl), b_bool := He.free_ok X G (c.fact 45 (f := .free "bool") rfl), b_divmod := He.free_ok X G (c.fact 46 (f := .free "divmod") rfl), b_enumerate := He.free_ok X G (c.fact 47 (f := .free "enumerate") rfl), b_int := He.free_ok X G (c.fact 48 (f := .free "int") rfl), b_isinstance := He.free_ok X G (c.fact 49 (f := .free "isinstance") rfl), b_len := He.free_ok X G (c.fact 50 (f := .free "len") rfl), b_list := He.free_ok X G (c.fact 51 (f := .free "list") rfl), b_max := He.free_ok X G (c.fact 52 (f := .free "max") rfl), b_min := He.free_ok X G (c.fact 53 (f := .free "min") rfl), b_range := He.free_ok X G (c.fact 54 (f := .free "range") rfl), b_repr := He.free_ok X G (c.fact 55 (f := .free "repr") rfl), b_set := He.free_ok X G (c.fact 56 (f := .free "set") rfl), b_str := He.free_ok X G (c.fact 57 (f := .free "str") rfl), b_tuple := He.free_ok X G (c.fact 58 (f := .free "tuple") rfl), c_LONGEST_NAME := He.int_ok X G (c.fact 3 (f := .int "LONGEST_NAME" 6) rfl), c_MOST := He.int_ok X G (c.fact 0 (f := .int "MOST" 16) rfl), c_MOST_HUNGER := He.int_ok X G (c.fact 2 (f := .int "MOST_HUNGER" 9) rfl), c_MOST_STORES := He.int_ok X G (c.fact 1 (f := .int "MOST_STORES" 3) rfl), fl_Web := rfl, C_Web := C_Web, I_Web := ⟨fun n hn => of_decide_eq_true (List.all_eq_true.mp m.1 n hn), of_decide_eq_true m.2.1, He.eqO_ok m.2.2.1, He.eqO_ok m.2.2.2.2.2.2.2.2.2.2.2.2.2.2.2.2.2.2.1, of_decide_eq_true m.2.2.2.2.2.2.2.2.2.2.2.2.2.2.2.2.2.2.2, of_decide_eq_true m.2.2.2.1⟩, g_Web := He.glo_ok X G (c.fact 23 (f := .glo "Web") rfl), S_Web := ⟨He.eqO_ok m.2.2.2.2.1, He.eqO_ok m.2.2.2.2.2.1, of_decide_eq_true m.2.2.2.1⟩, G_Web := ⟨fun n hn => of_decide_eq_true (List.all_eq_true.mp m.2.2.2.2.2.2.2.2.2.2.2.2.2.2.2.2.2.1 n hn)⟩, g_NoWeb := He.glo_ok X G (c.fact 36 (f := .glo "NoWeb") rfl), g_HearthError := He.glo_ok X G (c.fact 38 (f := .glo "HearthError") rfl), g_NoName := He.glo_ok X G (c.fact 39 (f := .glo "NoName") rfl), g_NoStores := He.glo_ok X G (c.fact 40 (f := .glo "NoStores") rfl), xk := h_xk, hit_HearthError := h_hit_HearthError, up_HearthError := h_up_HearthError, xk_place := h_xk_place, xf_place := h_xf_place, oex_NoWeb := h_oex_NoWeb, no_NoWeb := h_no_NoWeb, isaT_NoStores_NoName := h_isaT_NoStores_NoName, isa_NoWeb := h_isa_NoWeb }
  obtain ⟨fd_m_NoWeb_init, F_m_NoWeb_init⟩ := c.def_ 25 (d := d_m_NoWeb_init) rfl
  obtain ⟨fd_p_is_whole, F_p_is_whole⟩ := c.def_ 0 (d := d_p_is_whole) rfl
  obtain ⟨fd_p_is_name, F_p_is_name⟩ := c.def_ 1 (d := d_p_is_name) rfl
  obtain ⟨fd_p_are_hungers, F_p_are_hungers⟩ := c.def_ 2 (d := d_p_are_hungers) rfl
  obtain ⟨fd_p_are_feeders, F_p_are_feeders⟩ := c.def_ 3 (d := d_p_are_feeders) rfl
  obtain ⟨fd_p_is_hearth, F_p_is_hearth⟩ := c.def_ 4 (d := d_p_is_hearth) rfl
  obtain ⟨fd_p_hearths_by_name, F_p_hearths_by_name⟩ := c.def_ 5 (d := d_p_hearths_by_name) rfl
  obtain ⟨fd_p_hearth_row, F_p_hearth_row⟩ := c.def_ 6 (d := d_p_hearth_row) rfl
  obtain ⟨fd_m_Web_init, F_m_Web_init⟩ := c.def_ 7 (d := d_m_Web_init) rfl
  obtain ⟨fd_m_Web_built, F_m_Web_built⟩ := c.def_ 8 (d := d_m_Web_built) rfl
  obtain ⟨fd_m_Web_eq, F_m_Web_eq⟩ := c.def_ 9 (d := d_m_Web_eq) rfl
  obtain ⟨fd_m_Web_len, F_m_Web_len⟩ := c.def_ 10 (d := d_m_Web_len) rfl
  obtain ⟨fd_m_Web_str, F_m_Web_str⟩ := c.def_ 11 (d := d_m_Web_str) rfl
  obtain ⟨fd_m_Web_repr, F_m_Web_repr⟩ := c.def_ 12 (d := d_m_Web_repr) rfl
  obtain ⟨fd_l_cell, F_l_cell⟩ := c.def_ 13 (d := d_l_cell) rfl
  obtain ⟨fd_l_hand, F_l_hand⟩ := c.def_ 14 (d := d_l_hand) rfl
  obtain ⟨fd_l_draw, F_l_draw⟩ := c.def_ 15 (d := d_l_draw) rfl
  obtain ⟨fd_l_calls, F_l_calls⟩ := c.def_ 16 (d := d_l_calls) rfl
  obtain ⟨fd_l_fires, F_l_fires⟩ := c.def_ 17 (d := d_l_fires) rfl
  obtain ⟨fd_l_put, F_l_put⟩ := c.def_ 18 (d := d_l_put) rfl
  obtain ⟨fd_l_others, F_l_others⟩ := c.def_ 19 (d := d_l_others) rfl
  obtain ⟨fd_l_alike, F_l_alike⟩ := c.def_ 20 (d := d_l_alike) rfl
  obtain ⟨fd_l_refused, F_l_refused⟩ := c.def_ 21 (d := d_l_refused) rfl
  obtain ⟨fd_l_grown, F_l_grown⟩ := c.def_ 22 (d := d_l_grown) rfl
  obtain ⟨fd_l_built_right, F_l_built_right⟩ := c.def_ 23 (d := d_l_built_right) rfl
  obtain ⟨fd_law_, F_law_⟩ := c.def_ 24 (d := d_law_) rfl
  have e := hfa.symm.trans (He.glo_ok X G (c.fact 22 (f := .glo "law") rfl))
  cases e
  have bl := FunD.bindsA (ps := ["_law_script"]) F_law_ fun _ _ _ _ _ _ us hl => match us, hl with | [_], _ => rfl
  refine ⟨fd_law_, fun s v => bl s [v] rfl, fun base hK hG => ?_⟩
  have x_NoWeb : CalXF P w K mg base (TX K) 1 "NoWeb" 1 "place" := ⟨_, _, _, ok_m_NoWeb_init X0 F_m_NoWeb_init, X0.g_NoWeb, X0.oex_NoWeb, (He.meth_ok (c.fact 37 (f := .meth "NoWeb" "__init__") rfl)).at_, of_decide_eq_true m.2.2.2.2.2.2.2.2.2.1, F_m_NoWeb_init.bindsN fun _ _ _ _ _ _ us hl => match us, hl with | [_, _], _ => rfl, rfl⟩
  have c_p_is_whole : Cal P w K mg base (TX K) 1 "is_whole" g_p_is_whole ["thing", "low", "high"] := ⟨_, _, ok_p_is_whole X0 F_p_is_whole, He.glo_ok X G (c.fact 4 (f := .glo "is_whole") rfl), F_p_is_whole.kp, F_p_is_whole.bindsN fun _ _ _ _ _ _ us hl => match us, hl with | [_, _, _], _ => rfl⟩
  have c_p_is_name : Cal P w K mg base (TX K) 1 "is_name" g_p_is_name ["thing"] := ⟨_, _, ok_p_is_name X0 F_p_is_name, He.glo_ok X G (c.fact 5 (f := .glo "is_name") rfl), F_p_is_name.kp, F_p_is_name.bindsN fun _ _ _ _ _ _ us hl => match us, hl with | [_], _ => rfl⟩
  have c_p_are_hungers : Cal P w K mg base (TX K) 2 "are_hungers" g_p_are_hungers ["thing", "stores"] := ⟨_, _, ok_p_are_hungers X0 c_p_is_whole F_p_are_hungers, He.glo_ok X G (c.fact 6 (f := .glo "are_hungers") rfl), F_p_are_hungers.kp, F_p_are_hungers.bindsN fun _ _ _ _ _ _ us hl => match us, hl with | [_, _], _ => rfl⟩
  have c_p_are_feeders : Cal P w K mg base (TX K) 1 "are_feeders" g_p_are_feeders ["thing", "ahead"] := ⟨_, _, ok_p_are_feeders X0 F_p_are_feeders, He.glo_ok X G (c.fact 7 (f := .glo "are_feeders") rfl), F_p_are_feeders.kp, F_p_are_feeders.bindsN fun _ _ _ _ _ _ us hl => match us, hl with | [_, _], _ => rfl⟩
  have c_p_is_hearth : Cal P w K mg base (TX K) 3 "is_hearth" g_p_is_hearth ["thing", "stores", "ahead"] := ⟨_, _, ok_p_is_hearth X0 c_p_is_name c_p_are_hungers c_p_are_feeders F_p_is_hearth, He.glo_ok X G (c.fact 8 (f := .glo "is_hearth") rfl), F_p_is_hearth.kp, F_p_is_hearth.bindsN fun _ _ _ _ _ _ us hl => match us, hl with | [_, _, _], _ => rfl⟩
  have c_p_hearths_by_name : Cal P w K mg base (TX K) 4 "hearths_by_name" g_p_hearths_by_name ["stores", "hearths"] := ⟨_, _, ok_p_hearths_by_name X0 c_p_is_hearth x_NoWeb F_p_hearths_by_name, He.glo_ok X G (c.fact 9 (f := .glo "hearths_by_name") rfl), F_p_hearths_by_name.kp, F_p_hearths_by_name.bindsN fun _ _ _ _ _ _ us hl => match us, hl with | [_, _], _ => rfl⟩
  have c_p_hearth_row : Cal P w K mg base (TX K) 1 "hearth_row" g_p_hearth_row ["hearth"] := ⟨_, _, ok_p_hearth_row X0 F_p_hearth_row, He.glo_ok X G (c.fact 10 (f := .glo "hearth_row") rfl), F_p_hearth_row.kp, F_p_hearth_row.bindsN fun _ _ _ _ _ _ us hl => match us, hl with | [_], _ => rfl⟩
  have b_m_Web_init : Binds K fd_m_Web_init ["self", "stores", "hearths"] [] := by
    obtain ⟨ds, r, hb⟩ := FunD.binds1 (ps := ["self", "stores", "hearths"]) F_m_Web_init 3 1 (by intro z; cases z) rfl (fun T kV doc pm an cdv ct us its hl hi => match us, its, hl, hi with | [_, _, _], [_], _, _ => ⟨_, rfl, rfl⟩)
    cases r
    exact hb
  have c_m_Web_init : CalC P w K mg base (TX K) 5 "Web" 0 g_m_Web_init ["self", "stores", "hearths"] := ⟨_, _, ok_m_Web_init X0 c_p_is_whole c_p_hearths_by_name F_m_Web_init, X0.g_Web, He.mkr_ok (c.fact 25 (f := .mkr "Web") rfl), b_m_Web_init⟩
  have n1_m_Web_init : CalCD P w K mg base (TX K) 5 "Web" 0 g_m_Web_init ["self", "stores", "hearths"] [.tup []] := by
    obtain ⟨ds, r, hb⟩ := FunD.binds1 (ps := ["self", "stores", "hearths"]) F_m_Web_init 2 0 (by intro z; cases z) rfl (fun T kV doc pm an cdv ct us its hl hi => match us, its, hl, hi with | [_, _], [_], _, _ => ⟨_, rfl, rfl⟩)
    exact ⟨_, _, ds, _, ok_m_Web_init X0 c_p_is_whole c_p_hearths_by_name F_m_Web_init, X0.g_Web, He.mkr_ok (c.fact 25 (f := .mkr "Web") rfl), hb, r, fun F => ⟨_, _, rfl, noneAt_ok m.2.2.2.2.2.2.1 F, rfl⟩⟩
  have l_m_Web_init_10 : CalCK P w K mg base (TX K) 5 "Web" 0 g_m_Web_init ["self", "stores", "hearths"] ["hearths", "stores"] [1, 0] := ⟨_, _, ok_m_Web_init X0 c_p_is_whole c_p_hearths_by_name F_m_Web_init, X0.g_Web, He.mkr_ok (c.fact 25 (f := .mkr "Web") rfl), bindsCK (ps := ["self", "stores", "hearths"]) (ks := ["hearths", "stores"]) (idx := [1, 0]) F_m_Web_init (by intro z; cases z) fun T kV doc pm an cdv ct u ws its hl hi => match ws, its, hl, hi with | [_, _], [_], _, _ => ⟨_, rfl, rfl⟩⟩
  have c_m_Web_built : CalM P w K mg base (TX K) 7 0 "built" g_m_Web_built ["self", "hearth"] := ⟨_, _, ok_m_Web_built X0 c_m_Web_init F_m_Web_built, He.meth_ok (c.fact 31 (f := .meth "Web" "built") rfl), F_m_Web_built.bindsN fun _ _ _ _ _ _ us hl => match us, hl with | [_, _], _ => rfl⟩
  have q_m_Web_built : CalMK P w K mg base (TX K) 7 0 "built" g_m_Web_built ["self", "hearth"] "hearth" := ⟨_, _, ok_m_Web_built X0 c_m_Web_init F_m_Web_built, He.meth_ok (c.fact 31 (f := .meth "Web" "built") rfl), bindsMK F_m_Web_built fun _ _ _ _ _ _ u v => rfl⟩
  have c_m_Web_eq : CalM P w K mg base (TX K) 1 0 "__eq__" g_m_Web_eq ["self", "other"] := ⟨_, _, ok_m_Web_eq X0 F_m_Web_eq, He.meth_ok (c.fact 32 (f := .meth "Web" "__eq__") rfl), F_m_Web_eq.bindsN fun _ _ _ _ _ _ us hl => match us, hl with | [_, _], _ => rfl⟩
  have c_m_Web_len : CalM P w K mg base (TX K) 1 0 "__len__" g_m_Web_len ["self"] := ⟨_, _, ok_m_Web_len X0 F_m_Web_len, He.meth_ok (c.fact 33 (f := .meth "Web" "__len__") rfl), F_m_Web_len.bindsN fun _ _ _ _ _ _ us hl => match us, hl with | [_], _ => rfl⟩
  have c_m_Web_str : CalM P w K mg base (TX K) 2 0 "__str__" g_m_Web_str ["self"] := ⟨_, _, ok_m_Web_str X0 c_p_hearth_row F_m_Web_str, He.meth_ok (c.fact 34 (f := .meth "Web" "__str__") rfl), F_m_Web_str.bindsN fun _ _ _ _ _ _ us hl => match us, hl with | [_], _ => rfl⟩
  have c_m_Web_repr : CalM P w K mg base (TX K) 1 0 "__repr__" g_m_Web_repr ["self"] := ⟨_, _, ok_m_Web_repr X0 F_m_Web_repr, He.meth_ok (c.fact 35 (f := .meth "Web" "__repr__") rfl), F_m_Web_repr.bindsN fun _ _ _ _ _ _ us hl => match us, hl with | [_], _ => rfl⟩
  have c_l_cell : Cal P w K mg base (TX K) 1 "_law_cell" g_l_cell ["_law_script", "_law_k"] := ⟨_, _, ok_l_cell X0 F_l_cell, He.glo_ok X G (c.fact 11 (f := .glo "_law_cell") rfl), F_l_cell.kp, F_l_cell.bindsN fun _ _ _ _ _ _ us hl => match us, hl with | [_, _], _ => rfl⟩
  have c_l_hand : Cal P w K mg base (TX K) 1 "_law_hand" g_l_hand ["_law_cell_here"] := ⟨_, _, ok_l_hand X0 F_l_hand, He.glo_ok X G (c.fact 12 (f := .glo "_law_hand") rfl), F_l_hand.kp, F_l_hand.bindsN fun _ _ _ _ _ _ us hl => match us, hl with | [_], _ => rfl⟩
  have c_l_draw : Cal P w K mg base (TX K) 1 "_law_draw" g_l_draw ["_law_hand_here", "_law_many"] := ⟨_, _, ok_l_draw X0 F_l_draw, He.glo_ok X G (c.fact 13 (f := .glo "_law_draw") rfl), F_l_draw.kp, F_l_draw.bindsN fun _ _ _ _ _ _ us hl => match us, hl with | [_, _], _ => rfl⟩
  have c_l_calls : Cal P w K mg base (TX K) 2 "_law_calls" g_l_calls ["_law_hand_here", "_law_many"] := ⟨_, _, ok_l_calls X0 c_l_draw F_l_calls, He.glo_ok X G (c.fact 14 (f := .glo "_law_calls") rfl), F_l_calls.kp, F_l_calls.bindsN fun _ _ _ _ _ _ us hl => match us, hl with | [_, _], _ => rfl⟩
  have c_l_fires : Cal P w K mg base (TX K) 3 "_law_fires" g_l_fires ["_law_hand_here", "_law_many", "_law_few"] := ⟨_, _, ok_l_fires X0 c_l_calls c_l_draw F_l_fires, He.glo_ok X G (c.fact 15 (f := .glo "_law_fires") rfl), F_l_fires.kp, F_l_fires.bindsN fun _ _ _ _ _ _ us hl => match us, hl with | [_, _, _], _ => rfl⟩
  have c_l_put : Cal P w K mg base (TX K) 1 "_law_put" g_l_put ["_law_fires_here", "_law_at", "_law_fire"] := ⟨_, _, ok_l_put X0 F_l_put, He.glo_ok X G (c.fact 16 (f := .glo "_law_put") rfl), F_l_put.kp, F_l_put.bindsN fun _ _ _ _ _ _ us hl => match us, hl with | [_, _, _], _ => rfl⟩
  have c_l_others : Cal P w K mg base (TX K) 2 "_law_others" g_l_others ["_law_hand_here", "_law_fires_here"] := ⟨_, _, ok_l_others X0 c_l_draw c_l_put F_l_others, He.glo_ok X G (c.fact 17 (f := .glo "_law_others") rfl), F_l_others.kp, F_l_others.bindsN fun _ _ _ _ _ _ us hl => match us, hl with | [_, _], _ => rfl⟩
  have c_l_alike : Cal P w K mg base (TX K) 5 "_law_alike" g_l_alike ["_law_web", "_law_thing", "_law_due"] := ⟨_, _, ok_l_alike X0 c_m_Web_eq F_l_alike, He.glo_ok X G (c.fact 18 (f := .glo "_law_alike") rfl), F_l_alike.kp, F_l_alike.bindsN fun _ _ _ _ _ _ us hl => match us, hl with | [_, _, _], _ => rfl⟩
  have c_l_refused : Cal P w K mg base (TX K) 8 "_law_refused" g_l_refused ["_law_web", "_law_thing"] := ⟨_, _, ok_l_refused X0 c_m_Web_built F_l_refused, He.glo_ok X G (c.fact 19 (f := .glo "_law_refused") rfl), F_l_refused.kp, F_l_refused.bindsN fun _ _ _ _ _ _ us hl => match us, hl with | [_, _], _ => rfl⟩
  have c_l_grown : Cal P w K mg base (TX K) 8 "_law_grown" g_l_grown ["_law_fires_here", "_law_few"] := ⟨_, _, ok_l_grown X0 c_m_Web_len c_m_Web_eq c_m_Web_built c_m_Web_init q_m_Web_built l_m_Web_init_10 n1_m_Web_init F_l_grown, He.glo_ok X G (c.fact 20 (f := .glo "_law_grown") rfl), F_l_grown.kp, F_l_grown.bindsN fun _ _ _ _ _ _ us hl => match us, hl with | [_, _], _ => rfl⟩
  have c_l_built_right : Cal P w K mg base (TX K) 9 "_law_built_right" g_l_built_right ["_law_hand_here", "_law_fires_here", "_law_few"] := ⟨_, _, ok_l_built_right X0 c_m_Web_init c_m_Web_eq c_m_Web_len c_l_refused F_l_built_right, He.glo_ok X G (c.fact 21 (f := .glo "_law_built_right") rfl), F_l_built_right.kp, F_l_built_right.bindsN fun _ _ _ _ _ _ us hl => match us, hl with | [_, _, _], _ => rfl⟩
  exact ok_law_ X0 c_m_Web_len c_l_cell c_l_hand c_l_draw c_l_fires c_m_Web_init c_l_grown c_l_alike c_l_others c_m_Web_str c_m_Web_repr c_l_built_right c_m_Web_eq n1_m_Web_init F_law_
end K03
set_option maxHeartbeats 0
namespace K03
open PySem L2 PySem.Spec PyProof.Rows VS
theorem law_sp {K : PySem.W.Frag} (H : Hp) (a : Addr) (ns : List Int) (hl : ns.length ≤ 63) (hS : SqL K H a (ns.map V.int)) : spG K (TX K) g_law_ 1 [.ref a] H (fun v _ => v = .bl true) fun _ _ _ => False := by
  refine ⟨H, fun _ => none, [.v (.frl (ns.map D.int))], .ok (.bl true), [], rfl, ?_, math ns hl, fun v F' H' e r p => p⟩
  refine ⟨Ex.refl H, (fun b u q => nomatch (show (none : Option HO) = some u from q)), fun b u q => rfl, rfl, fun i d q => ?_, fun i l m q => ?_, fun i j l m l' m' b q1 => ?_, fun i b q => ?_⟩
  · cases i with
    | zero => cases q; exact ⟨.ref a, rfl, a, _, rfl, hS, reps_ints ns⟩
    | succ i => simp at q
  · cases i with
    | zero => cases q
    | succ i => simp at q
  · cases i with
    | zero => cases q1
    | succ i => simp at q1
  · cases i with
    | zero => cases q
    | succ i => simp [lentOf] at q
end K03
open PySem PySem.W PySem.Calls PyProof.Rows
theorem PySem.Challenge.cw_kindlestair_k03_webs_built_and_alike_holds : PySem.Challenge.rw_kindlestair_k03_webs_built_and_alike.Holds := by
  w_on; o_law
  refine HandSHeadRun.head_any (r := OpenLaw.row PySem.Challenge.rw_kindlestair_k03_webs_built_and_alike) (q := view (OpenLaw.row PySem.Challenge.rw_kindlestair_k03_webs_built_and_alike).prog [31]) (H := K03.hk) (ob := K03.ob) (M := 6000) (loose := K03.loose) (d := HandSHeadRun.topDef (OpenLaw.row PySem.Challenge.rw_kindlestair_k03_webs_built_and_alike).prog 31) (kwd := []) K03.ob_eq
    (by kernel_rfl) (fun s => by kernel_rfl) K03.run (by kernel_rfl) (by kernel_rfl) (by kernel_rfl) (by rfl) (by first | assumption | decide +kernel) (by decide +kernel) ⟨rfl, rfl, rfl, rfl, rfl, by decide +kernel⟩ ?hw ?hc
  case hw => w_witness2
  case hc =>
    refine VS.walkG (l := PySem.Challenge.rw_kindlestair_k03_webs_built_and_alike) (n := 63) (k := 14) (x := "_law_script") rfl (by decide) (by kernel_rfl) ⟨rfl, by decide, by decide⟩ ?F
    intro w mg fa h Y G hmg0
    obtain ⟨K, KX, c⟩ := Y
    have hmg : mg ("law" : PySem.Str) = some (.ref fa) := by
      have e : (HandSHeadRun.topDef (OpenLaw.row PySem.Challenge.rw_kindlestair_k03_webs_built_and_alike).prog 31).name = ("law" : PySem.Str) := by kernel_rfl
      rw [← e]
      exact hmg0
    obtain ⟨fd, hb, hF⟩ := K03.facts (P := (PySem.Challenge.rw_kindlestair_k03_webs_built_and_alike).prog) (w := w) KX G hmg c
    exact ⟨K, fd, _, ⟨KX, hb, fun H a ns hl hS => K03.law_sp H a ns hl hS, fun base h1 h2 => (hF base h1 h2).mono (by decide)⟩⟩
