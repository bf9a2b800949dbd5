import PyProof.Rows.All
import Wide.All
import OpenK.AllK
import Wide.FinOn
import HandS.ForMost
import HandS.ForExc
import HandS.ExcInit
import HandS.IsInst
import HandS.Flow
import HandS.Wide
import HandS.Defaults
import HandS.CallSlots
import HandS.TupAny
import HandS.TupMul
import HandS.Strs
import HandS.SetKeys
import HandS.Deep
import HandS.FStr
import HandS.Conv
import HandS.Style
import HandS.WideBits
import HandS.Zip
import HandS.NoneIn
import KE.KTupSum
import HandS.RaiseMore
import PyProof.CallFns
import HandS.EndBits
import HandS.SortInts
import KE.KSortedM
import PyProof.TupleOfStr
import HandS.Small
import PyProof.StrOps2
import KE.GoesMore
import PyProof.EnumMake
import PyProof.Draws
import HandS.ExcIs
import HandS.ExcField
import KE.KExcIs
import HandS.Codes
import OpenK.KCls
import KE.KExcHand
import HandS.OwnEq
import OpenK.KOps
import KE.KCallOwn
import KE.GoesEnumKw
import KE.DataFind
import HandS.HeadHook4
import PyProof.EqKinds
import PyProof.NeKinds
import HandS.SuiteRaise
import HandS.RaiseFrom
import HandS.ExcInitHot
import HandS.StrMore
import HandS.More
import KE.KExcInit
import PyProof.Rows.StrJoinStr
import KE.KDictDisplayH
import HandS.TryOnly
import KE.SortCalls
import HandS.SetFor
import HandS.DictComp
import HandS.Star
import HandS.TupSets
import KE.DatumOrd
import HandS.SortKw
import HandS.HeadHook2
import KE.DataMinKey
import HandS.TupLe
import HandS.ReplaceLit
import HandS.HeadEnd
import KE.KStateDown
import KE.KIsAll
import HandS.Head0
import HandS.Head1
import HandS.Head2
import HandS.HeadHook1
import HandS.HeadHook3
import HandS.CallLocal
import KE.IntTextLaws
import HandS.ReplaceList
import PySem.Challenge.RW_kindlestair_k07_texts_at_their_bounds
set_option Elab.async false
set_option linter.all false
set_option maxRecDepth 100000
set_option maxHeartbeats 2000000
namespace VS
open PySem L2
inductive D where
  | non | bl (b : Bool) | int (i : Int) | str (x : Str)
  | tup (xs : List D) | lst (xs : List D) | frl (xs : List D) | dct (kvs : List (Key × D))
  | ins (c : Nat) (xs : List D) | exc (c : Nat) (xs : List D) | dtt (kvs : List (List Key × D)) | bad | fru (xs : List D)
instance : Inhabited D := ⟨.non⟩
inductive IO where
  | lst (xs : List D) | dct (kvs : List (Key × D)) | dtt (kvs : List (List Key × D))
inductive MO where
  | lst (xs : List D) | dct (kvs : List (Key × D)) | ins (c : Nat) (xs : List D) | dtt (kvs : List (List Key × D)) | box (c : Nat) (fs : List (D ⊕ IO))
def MO.frz : MO → D
  | .lst xs => .lst xs
  | .dct kvs => .dct kvs
  | .ins c xs => .ins c xs
  | .dtt kvs => .dtt kvs
  | .box _ _ => .bad
def MO.plain : MO → Bool
  | .box _ _ => false
  | _ => true
inductive Sl where
  | val (d : D) | own (lent : Bool) (m : MO)
abbrev VEnv := List (Option Sl)
structure Txt where
  cl : Nat → Addr
  fl : Nat → List Str
def Ex (F H : Hp) : Prop := ∀ a o, F a = some o → H a = some o
theorem Ex.refl (F : Hp) : Ex F F := fun _ _ h => h
theorem Ex.trans {F G H : Hp} (a : Ex F G) (b : Ex G H) : Ex F H := fun x o h => b x o (a x o h)
theorem Ex.new {F : Hp} {p : Addr} {o : HO} (h : F p = none) : Ex F (upd F p o) := fun a u e => by
  rw [upd_ne (ne_of_none e h)]; exact e
theorem Ex.none {F H : Hp} (e : Ex F H) {p : Addr} (h : H p = none) : F p = none := by
  cases q : F p with
  | none => rfl
  | some o => rw [e p o q] at h; cases h
theorem Ex.rd {F H : Hp} {a : Addr} {u : HO} (e : Ex F H) (h : Rd F a u) : Rd H a u := by
  rcases h with h | ⟨o, h⟩
  · exact .inl (e a _ h)
  · exact .inr ⟨o, e a _ h⟩
theorem Ex.sqT {K : PySem.W.Frag} {F H : Hp} {a : Addr} {xs : List V} (e : Ex F H) (h : SqT K F a xs) : SqT K H a xs := by
  rcases h with h | h
  · exact .inl (e.rd h)
  · exact .inr h
theorem Ex.sqL {K : PySem.W.Frag} {F H : Hp} {a : Addr} {xs : List V} (e : Ex F H) (h : SqL K F a xs) : SqL K H a xs := by
  rcases h with h | h
  · exact .inl (e.rd h)
  · exact .inr h
def exH (a C : Addr) (d : Option Addr) : HO := .ext fun h => ∃ o, h.get? a = some o ∧ Zc (.ref C) d o ∧ ∃ vs, o.data = .fields vs
def SqX (K : PySem.W.Frag) (F : Hp) (a : Addr) (xs : List V) : Prop := SqT K F a xs ∧ F a = some (.tup xs)
instance {K : PySem.W.Frag} {F : Hp} {a : Addr} {xs : List V} : Coe (SqX K F a xs) (SqT K F a xs) := ⟨fun h => h.1⟩
theorem SqX.of {K : PySem.W.Frag} {F : Hp} {a : Addr} {xs : List V} (h : F a = some (.tup xs)) : SqX K F a xs := ⟨SqT.of h, h⟩
theorem Ex.sqX {K : PySem.W.Frag} {F H : Hp} {a : Addr} {xs : List V} (e : Ex F H) (h : SqX K F a xs) : SqX K H a xs := ⟨e.sqT h.1, e _ _ h.2⟩
mutual
def Rep (K : PySem.W.Frag) (T : Txt) (F : Hp) : D → V → Prop
  | .non, v => v = .non
  | .bl b, v => v = .bl b
  | .int i, v => v = .int i
  | .str x, v => v = .str x
  | .tup xs, v => ∃ a vs, v = .ref a ∧ SqX K F a vs ∧ Reps K T F xs vs
  | .lst xs, v => ∃ a vs, v = .ref a ∧ F a = some (.lst vs) ∧ Reps K T F xs vs
  | .frl xs, v => ∃ a vs, v = .ref a ∧ SqL K F a vs ∧ Reps K T F xs vs
  | .dct kvs, v => ∃ a ws, v = .ref a ∧ F a = some (.dK ws) ∧ RepK K T F kvs ws
  | .ins c xs, v => ∃ a dx vs, v = .ref a ∧ F a = some (.ins (T.cl c) dx ((T.fl c).zip vs)) ∧ vs.length ≤ (T.fl c).length ∧ Reps K T F xs vs
  | .exc c xs, v => ∃ a dd vs, v = .ref a ∧ F a = some (exH a (T.cl c) dd) ∧ (∀ d, dd = some d → F d = some (.xd ((T.fl c).zip vs))) ∧ (dd = none → vs = []) ∧ Reps K T F xs vs
  | .dtt kvs, v => ∃ a ws, v = .ref a ∧ F a = some (.dT ws) ∧ RepKT K T F kvs ws
  | .bad, v => ∃ a, v = .ref a
  | .fru xs, v => ∃ a vs, v = .ref a ∧ SqT K F a vs ∧ Reps K T F xs vs
def Reps (K : PySem.W.Frag) (T : Txt) (F : Hp) : List D → List V → Prop
  | [], vs => vs = []
  | d :: ds, vs => ∃ v ws, vs = v :: ws ∧ Rep K T F d v ∧ Reps K T F ds ws
def RepK (K : PySem.W.Frag) (T : Txt) (F : Hp) : List (Key × D) → List (Key × V) → Prop
  | [], ws => ws = []
  | (k, d) :: ds, ws => ∃ v us, ws = (k, v) :: us ∧ Rep K T F d v ∧ RepK K T F ds us
def RepKT (K : PySem.W.Frag) (T : Txt) (F : Hp) : List (List Key × D) → List (List Key × V) → Prop
  | [], ws => ws = []
  | (k, d) :: ds, ws => ∃ v us, ws = (k, v) :: us ∧ Rep K T F d v ∧ RepKT K T F ds us
end
section
variable {K : PySem.W.Frag} {T : Txt} {F F' G : Hp}
mutual
theorem Rep.mono (e : Ex F F') : ∀ {d : D} {v : V}, Rep K T F d v → Rep K T F' d v
  | .non, v, h => h
  | .bl b, v, h => h
  | .int i, v, h => h
  | .str x, v, h => h
  | .tup xs, v, ⟨a, vs, e1, h, r⟩ => ⟨a, vs, e1, e.sqX h, Reps.mono e r⟩
  | .lst xs, v, ⟨a, vs, e1, h, r⟩ => ⟨a, vs, e1, e _ _ h, Reps.mono e r⟩
  | .frl xs, v, ⟨a, vs, e1, h, r⟩ => ⟨a, vs, e1, e.sqL h, Reps.mono e r⟩
  | .dct kvs, v, ⟨a, ws, e1, h, r⟩ => ⟨a, ws, e1, e _ _ h, RepK.mono e r⟩
  | .ins c xs, v, ⟨a, dx, vs, e1, h, l, r⟩ => ⟨a, dx, vs, e1, e _ _ h, l, Reps.mono e r⟩
  | .exc c xs, v, ⟨a, dd, vs, e1, h, h2, h3, r⟩ => ⟨a, dd, vs, e1, e _ _ h, fun d q => e _ _ (h2 d q), h3, Reps.mono e r⟩
  | .dtt kvs, v, ⟨a, ws, e1, h, r⟩ => ⟨a, ws, e1, e _ _ h, RepKT.mono e r⟩
  | .bad, v, h => h
  | .fru xs, v, ⟨a, vs, e1, h, r⟩ => ⟨a, vs, e1, e.sqT h, Reps.mono e r⟩
theorem Reps.mono (e : Ex F F') : ∀ {ds : List D} {vs : List V}, Reps K T F ds vs → Reps K T F' ds vs
  | [], vs, h => h
  | d :: ds, vs, ⟨v, ws, e1, h, r⟩ => ⟨v, ws, e1, Rep.mono e h, Reps.mono e r⟩
theorem RepK.mono (e : Ex F F') : ∀ {ds : List (Key × D)} {vs : List (Key × V)}, RepK K T F ds vs → RepK K T F' ds vs
  | [], vs, h => h
  | (k, d) :: ds, vs, ⟨v, ws, e1, h, r⟩ => ⟨v, ws, e1, Rep.mono e h, RepK.mono e r⟩
theorem RepKT.mono (e : Ex F F') : ∀ {ds : List (List Key × D)} {vs : List (List Key × V)}, RepKT K T F ds vs → RepKT K T F' ds vs
  | [], vs, h => h
  | (k, d) :: ds, vs, ⟨v, ws, e1, h, r⟩ => ⟨v, ws, e1, Rep.mono e h, RepKT.mono e r⟩
end
theorem Reps.length : ∀ {ds : List D} {vs : List V}, Reps K T F ds vs → vs.length = ds.length
  | [], _, h => by rw [show _ = ([] : List V) from h]; rfl
  | d :: ds, _, ⟨v, ws, e1, h, r⟩ => by rw [e1]; simp [Reps.length r]
theorem Reps.get : ∀ {ds : List D} {vs : List V} {i : Nat} {d : D}, Reps K T F ds vs → ds[i]? = some d → ∃ v, vs[i]? = some v ∧ Rep K T F d v
  | [], _, i, d, _, h => by simp at h
  | x :: ds, _, 0, d, ⟨v, ws, e1, h, r⟩, e => by simp at e; subst e; exact ⟨v, by rw [e1]; rfl, h⟩
  | x :: ds, _, i + 1, d, ⟨v, ws, e1, h, r⟩, e => by
    obtain ⟨u, h1, h2⟩ := Reps.get (i := i) (d := d) r (by simpa using e)
    exact ⟨u, by rw [e1]; simpa using h1, h2⟩
theorem Reps.getV : ∀ {ds : List D} {vs : List V} {i : Nat} {v : V}, Reps K T F ds vs → vs[i]? = some v → ∃ d, ds[i]? = some d ∧ Rep K T F d v
  | [], _, i, d, h, e => by rw [show _ = ([] : List V) from h] at e; simp at e
  | x :: ds, _, 0, d, ⟨v, ws, e1, h, r⟩, e => by rw [e1] at e; simp at e; subst e; exact ⟨x, rfl, h⟩
  | x :: ds, _, i + 1, d, ⟨v, ws, e1, h, r⟩, e => by
    rw [e1] at e
    obtain ⟨u, h1, h2⟩ := Reps.getV (i := i) (v := d) r (by simpa using e)
    exact ⟨u, by simpa using h1, h2⟩
theorem Reps.append : ∀ {ds es : List D} {vs ws : List V}, Reps K T F ds vs → Reps K T F es ws → Reps K T F (ds ++ es) (vs ++ ws)
  | [], _, _, _, h, r => by rw [show _ = ([] : List V) from h]; exact r
  | d :: ds, _, _, _, ⟨v, us, e1, h, r⟩, s => by rw [e1]; exact ⟨v, _, rfl, h, Reps.append r s⟩
theorem Reps.take : ∀ {ds : List D} {vs : List V} (n : Nat), Reps K T F ds vs → Reps K T F (ds.take n) (vs.take n)
  | _, _, 0, _ => by simp [Reps]
  | [], _, n + 1, h => by rw [show _ = ([] : List V) from h]; simp [Reps]
  | d :: ds, _, n + 1, ⟨v, ws, e1, h, r⟩ => by rw [e1]; exact ⟨v, _, rfl, h, Reps.take n r⟩
theorem Reps.drop : ∀ {ds : List D} {vs : List V} (n : Nat), Reps K T F ds vs → Reps K T F (ds.drop n) (vs.drop n)
  | _, _, 0, h => h
  | [], _, n + 1, h => by rw [show _ = ([] : List V) from h]; simp [Reps]
  | d :: ds, _, n + 1, ⟨v, ws, e1, h, r⟩ => by rw [e1]; exact Reps.drop n r
theorem Reps.set {d : D} {v : V} (q : Rep K T F d v) : ∀ {ds : List D} {vs : List V} (n : Nat), Reps K T F ds vs → Reps K T F (ds.set n d) (vs.set n v)
  | [], _, n, h => by rw [show _ = ([] : List V) from h]; simp [Reps]
  | x :: ds, _, 0, ⟨u, ws, e1, h, r⟩ => by rw [e1]; exact ⟨v, _, rfl, q, r⟩
  | x :: ds, _, n + 1, ⟨u, ws, e1, h, r⟩ => by rw [e1]; exact ⟨u, _, rfl, h, Reps.set q n r⟩
theorem Reps.one {d : D} {v : V} (q : Rep K T F d v) : Reps K T F [d] [v] := ⟨v, [], rfl, q, rfl⟩
theorem Reps.nil : Reps K T F [] [] := rfl
theorem Reps.cons {d : D} {v : V} {ds : List D} {vs : List V} (q : Rep K T F d v) (r : Reps K T F ds vs) : Reps K T F (d :: ds) (v :: vs) := ⟨v, vs, rfl, q, r⟩
def RepI (K : PySem.W.Frag) (T : Txt) (F : Hp) : IO → HO → Prop
  | .lst xs, o => ∃ vs, o = .lst vs ∧ Reps K T F xs vs
  | .dct kvs, o => ∃ ws, o = .dK ws ∧ RepK K T F kvs ws
  | .dtt kvs, o => ∃ ws, o = .dT ws ∧ RepKT K T F kvs ws
theorem RepI.mono (e : Ex F F') {m : IO} {o : HO} (h : RepI K T F m o) : RepI K T F' m o := by
  cases m with
  | lst xs => obtain ⟨vs, e1, r⟩ := h; exact ⟨vs, e1, r.mono e⟩
  | dct kvs => obtain ⟨vs, e1, r⟩ := h; exact ⟨vs, e1, r.mono e⟩
  | dtt kvs => obtain ⟨vs, e1, r⟩ := h; exact ⟨vs, e1, r.mono e⟩
def RepFs (K : PySem.W.Frag) (T : Txt) (F : Hp) : List (D ⊕ IO) → List V → Prop
  | [], vs => vs = []
  | .inl d :: fs, vs => ∃ v ws, vs = v :: ws ∧ Rep K T F d v ∧ RepFs K T F fs ws
  | .inr _ :: fs, vs => ∃ b ws, vs = .ref b :: ws ∧ RepFs K T F fs ws
theorem RepFs.mono (e : Ex F F') : ∀ {fs : List (D ⊕ IO)} {vs : List V}, RepFs K T F fs vs → RepFs K T F' fs vs
  | [], _, h => h
  | .inl d :: fs, _, ⟨v, ws, e1, h, r⟩ => ⟨v, ws, e1, h.mono e, RepFs.mono e r⟩
  | .inr _ :: fs, _, ⟨b, ws, e1, r⟩ => ⟨b, ws, e1, RepFs.mono e r⟩
def RepO (K : PySem.W.Frag) (T : Txt) (F : Hp) : MO → HO → Prop
  | .dtt kvs, o => ∃ ws, o = .dT ws ∧ RepKT K T F kvs ws
  | .box _ _, _ => False
  | .lst xs, o => ∃ vs, o = .lst vs ∧ Reps K T F xs vs
  | .dct kvs, o => ∃ ws, o = .dK ws ∧ RepK K T F kvs ws
  | .ins c xs, o => ∃ dx vs, o = .ins (T.cl c) dx ((T.fl c).zip vs) ∧ vs.length ≤ (T.fl c).length ∧ Reps K T F xs vs
def RepS (K : PySem.W.Frag) (T : Txt) (F : Hp) : MO → HO → Prop
  | .dtt kvs, o => ∃ ws, o = .dT ws ∧ RepKT K T F kvs ws
  | .box c fs, o => ∃ dx vs, o = .ins (T.cl c) dx ((T.fl c).zip vs) ∧ vs.length ≤ (T.fl c).length ∧ RepFs K T F fs vs
  | .lst xs, o => ∃ vs, o = .lst vs ∧ Reps K T F xs vs
  | .dct kvs, o => ∃ ws, o = .dK ws ∧ RepK K T F kvs ws
  | .ins c xs, o => ∃ dx vs, o = .ins (T.cl c) dx ((T.fl c).zip vs) ∧ vs.length ≤ (T.fl c).length ∧ Reps K T F xs vs
theorem RepO.s {m : MO} {o : HO} (h : RepO K T F m o) : RepS K T F m o := by cases m <;> first | exact h | exact h.elim
theorem RepS.o {m : MO} {o : HO} (p : m.plain = true) (h : RepS K T F m o) : RepO K T F m o := by cases m <;> first | exact h | cases p
theorem RepO.plain {m : MO} {o : HO} (h : RepO K T F m o) : m.plain = true := by cases m <;> first | rfl | exact h.elim
theorem RepO.nobox {c : Nat} {fs : List (D ⊕ IO)} {m : MO} {o : HO} (h : RepO K T F m o) : m ≠ .box c fs := by rintro rfl; exact h
theorem RepO.mono (e : Ex F F') {m : MO} {o : HO} (h : RepO K T F m o) : RepO K T F' m o := by
  cases m with
  | lst xs => obtain ⟨vs, e1, r⟩ := h; exact ⟨vs, e1, r.mono e⟩
  | dct kvs => obtain ⟨vs, e1, r⟩ := h; exact ⟨vs, e1, r.mono e⟩
  | ins c xs => obtain ⟨dx, vs, e1, l, r⟩ := h; exact ⟨dx, vs, e1, l, r.mono e⟩
  | dtt kvs => obtain ⟨vs, e1, r⟩ := h; exact ⟨vs, e1, r.mono e⟩
  | box c fs => exact h
theorem RepS.mono (e : Ex F F') {m : MO} {o : HO} (h : RepS K T F m o) : RepS K T F' m o := by
  cases m with
  | lst xs => obtain ⟨vs, e1, r⟩ := h; exact ⟨vs, e1, r.mono e⟩
  | dct kvs => obtain ⟨vs, e1, r⟩ := h; exact ⟨vs, e1, r.mono e⟩
  | ins c xs => obtain ⟨dx, vs, e1, l, r⟩ := h; exact ⟨dx, vs, e1, l, r.mono e⟩
  | dtt kvs => obtain ⟨vs, e1, r⟩ := h; exact ⟨vs, e1, r.mono e⟩
  | box c fs => obtain ⟨dx, vs, e1, l, r⟩ := h; exact ⟨dx, vs, e1, l, r.mono e⟩
theorem RepS.frz {m : MO} {o : HO} {a : Addr} (h : RepS K T F m o) (n : F a = none) : Rep K T (upd F a o) m.frz (.ref a) := by
  have e : Ex F (upd F a o) := Ex.new n
  cases m with
  | lst xs => obtain ⟨vs, e1, r⟩ := h; exact ⟨a, vs, rfl, by rw [upd_same, e1], r.mono e⟩
  | dct kvs => obtain ⟨vs, e1, r⟩ := h; exact ⟨a, vs, rfl, by rw [upd_same, e1], r.mono e⟩
  | ins c xs => obtain ⟨dx, vs, e1, l, r⟩ := h; exact ⟨a, dx, vs, rfl, by rw [upd_same, e1], l, r.mono e⟩
  | dtt kvs => obtain ⟨vs, e1, r⟩ := h; exact ⟨a, vs, rfl, by rw [upd_same, e1], r.mono e⟩
  | box c fs => exact ⟨a, rfl⟩
theorem RepO.frz {m : MO} {o : HO} {a : Addr} (h : RepO K T F m o) (n : F a = none) : Rep K T (upd F a o) m.frz (.ref a) := h.s.frz n
def fieldAt : HO → Nat → Option V
  | .ins _ _ fs, k => (fs[k]?).map (·.2)
  | _, _ => none
def Inn (σ : L2.St) (ρ : VEnv) (H : Hp) (i k : Nat) (io : IO) (b : Addr) : Prop := ∃ (l : Bool) (c : Nat) (fs : List (D ⊕ IO)) (a : Addr) (o : HO), ρ[i]? = some (some (Sl.own l (.box c fs))) ∧ fs[k]? = some (.inr io) ∧ σ[i]? = some (some (V.ref a)) ∧ H a = some o ∧ fieldAt o k = some (V.ref b)
structure Bx (K : PySem.W.Frag) (T : Txt) (F Z : Hp) (σ : L2.St) (ρ : VEnv) (H : Hp) : Prop where
  nest : ∀ (i k : Nat) (io : IO) (b : Addr), Inn σ ρ H i k io b → F b = none ∧ Z b = none ∧ ∃ o, H b = some o ∧ RepI K T F io o
  nsep : ∀ (i k : Nat) (io : IO) (b : Addr) (j : Nat) (l : Bool) (m : MO), Inn σ ρ H i k io b → ρ[j]? = some (some (Sl.own l m)) → σ[j]? ≠ some (some (.ref b))
  nuni : ∀ (i k : Nat) (io : IO) (b : Addr) (j k' : Nat) (io' : IO), Inn σ ρ H i k io b → Inn σ ρ H j k' io' b → i = j ∧ k = k'
theorem Bx.gen {Z Z' H H' : Hp} {σ σ' : L2.St} {ρ ρ' : VEnv} (B : Bx K T F Z σ ρ H) (e : Ex F F') (hI : ∀ i k io b, Inn σ' ρ' H' i k io b → Inn σ ρ H i k io b)
    (hB : ∀ i k io b, Inn σ' ρ' H' i k io b → F b = none → Z b = none → ∀ o, H b = some o → F' b = none ∧ Z' b = none ∧ H' b = some o)
    (hO : ∀ (i k : Nat) (io : IO) (b : Addr) (j : Nat) (l : Bool) (m : MO), Inn σ' ρ' H' i k io b → ρ'[j]? = some (some (Sl.own l m)) → σ'[j]? = some (some (V.ref b)) → ∃ (j' : Nat) (l' : Bool) (m' : MO), ρ[j']? = some (some (Sl.own l' m')) ∧ σ[j']? = some (some (V.ref b))) : Bx K T F' Z' σ' ρ' H' where
  nest := fun i k io b h => by
    obtain ⟨h1, h2, o, h3, h4⟩ := B.nest i k io b (hI _ _ _ _ h)
    obtain ⟨g1, g2, g3⟩ := hB i k io b h h1 h2 o h3
    exact ⟨g1, g2, o, g3, h4.mono e⟩
  nsep := fun i k io b j l m h q1 q2 => by
    obtain ⟨j', l', m', g1, g2⟩ := hO i k io b j l m h q1 q2
    exact B.nsep i k io b j' l' m' (hI _ _ _ _ h) g1 g2
  nuni := fun i k io b j k' io' h h' => B.nuni i k io b j k' io' (hI _ _ _ _ h) (hI _ _ _ _ h')
theorem Bx.sub {Z H : Hp} {σ σ' : L2.St} {ρ ρ' : VEnv} (B : Bx K T F Z σ ρ H) (hs : ∀ (i : Nat) (l : Bool) (m : MO), ρ'[i]? = some (some (Sl.own l m)) → (∃ l' : Bool, ρ[i]? = some (some (Sl.own l' m))) ∧ σ'[i]? = σ[i]?) : Bx K T F Z σ' ρ' H :=
  B.gen (Ex.refl F) (fun i k io b ⟨l, c, fs, a, o, h1, h2, h3, h4, h5⟩ => by
    obtain ⟨⟨l', g1⟩, g2⟩ := hs i l _ h1
    exact ⟨l', c, fs, a, o, g1, h2, by rw [← g2]; exact h3, h4, h5⟩) (fun i k io b h h1 h2 o h3 => ⟨h1, h2, h3⟩)
    (fun i k io b j l m h q1 q2 => by
      obtain ⟨⟨l', g1⟩, g2⟩ := hs j l m q1
      exact ⟨j, l', m, g1, by rw [← g2]; exact q2⟩)
structure Rel (K : PySem.W.Frag) (T : Txt) (F Z : Hp) (L : Nat → Option Addr) (σ : L2.St) (ρ : VEnv) (H : Hp) : Prop where
  exF : Ex F H
  exZ : Ex Z H
  dis : ∀ a o, F a = some o → Z a = none
  len : ρ.length = σ.length
  val : ∀ (i : Nat) (d : D), ρ[i]? = some (some (Sl.val d)) → ∃ v, σ[i]? = some (some v) ∧ Rep K T F d v
  own : ∀ (i : Nat) (l : Bool) (m : MO), ρ[i]? = some (some (Sl.own l m)) → ∃ a o, σ[i]? = some (some (.ref a)) ∧ F a = none ∧ Z a = none ∧ H a = some o ∧ RepS K T F m o
  sep : ∀ (i j : Nat) (l : Bool) (m : MO) (l' : Bool) (m' : MO) (a : Addr), ρ[i]? = some (some (Sl.own l m)) → ρ[j]? = some (some (Sl.own l' m')) → σ[i]? = some (some (.ref a)) → σ[j]? = some (some (.ref a)) → i = j
  lent : ∀ (i : Nat) (a : Addr), L i = some a → σ[i]? = some (some (.ref a)) ∧ ∃ m, ρ[i]? = some (some (Sl.own true m))
  bx : Bx K T F Z σ ρ H
variable {Z H H' : Hp} {L : Nat → Option Addr} {σ : L2.St} {ρ : VEnv}
theorem Rel.bxH {Z' : Hp} (r : Rel K T F Z L σ ρ H) (e : Ex F F') (hk : ∀ a u, F a = none → Z a = none → H a = some u → F' a = none ∧ Z' a = none ∧ H' a = some u) : Bx K T F' Z' σ ρ H' :=
  r.bx.gen e (fun i k io b ⟨l, c, fs, a, o, h1, h2, h3, h4, h5⟩ => by
    obtain ⟨a', u, g1, g2, g3, g4, g5⟩ := r.own i l _ h1
    rw [h3] at g1; cases g1
    have := (hk a u g2 g3 g4).2.2
    rw [h4] at this; cases this
    exact ⟨l, c, fs, a, _, h1, h2, h3, g4, h5⟩) (fun i k io b h h1 h2 o h3 => hk b o h1 h2 h3) (fun i k io b j l m h q1 q2 => ⟨j, l, m, q1, q2⟩)
theorem Rel.new {p : Addr} {o : HO} (r : Rel K T F Z L σ ρ H) (n : H p = none) : Rel K T (upd F p o) Z L σ ρ (upd H p o) where
  exF := fun a u e => by
    by_cases h : a = p
    · subst h; rw [upd_same] at e ⊢; exact e
    · rw [upd_ne h] at e ⊢; exact r.exF a u e
  exZ := fun a u e => by rw [upd_ne (ne_of_none (r.exZ a u e) n)]; exact r.exZ a u e
  dis := fun a u e => by
    by_cases h : a = p
    · subst h; exact r.exZ.none n
    · rw [upd_ne h] at e; exact r.dis a u e
  len := r.len
  val := fun i d e => by
    obtain ⟨v, h1, h2⟩ := r.val i d e
    exact ⟨v, h1, h2.mono (Ex.new (r.exF.none n))⟩
  own := fun i l m e => by
    obtain ⟨a, u, h1, h2, h3, h4, h5⟩ := r.own i l m e
    have ne : a ≠ p := ne_of_none h4 n
    exact ⟨a, u, h1, by rw [upd_ne ne]; exact h2, h3, by rw [upd_ne ne]; exact h4, h5.mono (Ex.new (r.exF.none n))⟩
  sep := r.sep
  lent := r.lent
  bx := r.bxH (Ex.new (r.exF.none n)) fun a u h1 h2 h3 => by
    have ne : a ≠ p := ne_of_none h3 n
    exact ⟨by rw [upd_ne ne]; exact h1, h2, by rw [upd_ne ne]; exact h3⟩
def Grow (K : PySem.W.Frag) (T : Txt) (F H F' H' : Hp) : Prop := Ex F F' ∧ ∀ Z L σ ρ, Rel K T F Z L σ ρ H → Rel K T F' Z L σ ρ H'
theorem Grow.refl : Grow K T F H F H := ⟨Ex.refl F, fun _ _ _ _ r => r⟩
theorem Grow.trans {F2 H2 : Hp} (a : Grow K T F H F' H') (b : Grow K T F' H' F2 H2) : Grow K T F H F2 H2 := ⟨a.1.trans b.1, fun Z L σ ρ r => b.2 Z L σ ρ (a.2 Z L σ ρ r)⟩
theorem Grow.new {p : Addr} {o : HO} (e : Ex F H) (n : H p = none) : Grow K T F H (upd F p o) (upd H p o) := ⟨Ex.new (e.none n), fun _ _ _ _ r => r.new n⟩
end
inductive R (α : Type) where
  | ok (a : α) (ρ : VEnv) | ex (c : Nat) (ds : List D) (ρ : VEnv) | stuck
def R.bind {α β : Type} (r : R α) (k : α → VEnv → R β) : R β := match r with
  | .ok a ρ => k a ρ
  | .ex c ds ρ => .ex c ds ρ
  | .stuck => .stuck
def R.of {α : Type} (o : Option α) (ρ : VEnv) : R α := match o with
  | some a => .ok a ρ
  | none => .stuck
@[simp] theorem R.bind_ok {α β : Type} (a : α) (ρ : VEnv) (k : α → VEnv → R β) : (R.ok a ρ).bind k = k a ρ := id rfl
@[simp] theorem R.bind_ex {α β : Type} (c : Nat) (ds : List D) (ρ : VEnv) (k : α → VEnv → R β) : (R.ex c ds ρ : R α).bind k = R.ex c ds ρ := id rfl
@[simp] theorem R.bind_stuck {α β : Type} (k : α → VEnv → R β) : (R.stuck : R α).bind k = R.stuck := id rfl
@[simp] theorem R.of_some {α : Type} (a : α) (ρ : VEnv) : R.of (some a) ρ = R.ok a ρ := id rfl
abbrev Ev (α : Type) := VEnv → R α
def ExR (K : PySem.W.Frag) (T : Txt) (F : Hp) (cls : Value) (dd : Option Addr) (c : Nat) (ds : List D) : Prop :=
  cls = Value.ref (T.cl c) ∧ ∃ vs, (∀ d, dd = some d → F d = some (.xd ((T.fl c).zip vs))) ∧ (dd = none → vs = []) ∧ Reps K T F ds vs
def rdE (K : PySem.W.Frag) (T : Txt) (W : WX) (ρ : VEnv) : R D → TE
  | .stuck => fun _ _ _ => False
  | .ok d ρ' => fun σ H Q => ∃ F Z L, Rel K T F Z L σ ρ H ∧ ∀ v F' H', Ex F F' → Rel K T F' Z L σ ρ' H' → Rep K T F' d v → Q v H'
  | .ex c ds ρ' => fun σ H _ => ∃ F Z L, Rel K T F Z L σ ρ H ∧ ∀ cls dd F' H', Ex F F' → Rel K T F' Z L σ ρ' H' → ExR K T F' cls dd c ds → W cls dd σ H'
def rdT (K : PySem.W.Frag) (T : Txt) (W : WX) (ρ : VEnv) : R Bool → TT
  | .stuck => fun _ _ _ => False
  | .ok b ρ' => fun σ H Q => ∃ F Z L, Rel K T F Z L σ ρ H ∧ ∀ F' H', Ex F F' → Rel K T F' Z L σ ρ' H' → Q b H'
  | .ex c ds ρ' => fun σ H _ => ∃ F Z L, Rel K T F Z L σ ρ H ∧ ∀ cls dd F' H', Ex F F' → Rel K T F' Z L σ ρ' H' → ExR K T F' cls dd c ds → W cls dd σ H'
def rdA (K : PySem.W.Frag) (T : Txt) (W : WX) (ρ : VEnv) : R (List D) → TA
  | .stuck => fun _ _ _ => False
  | .ok ds ρ' => fun σ H Q => ∃ F Z L, Rel K T F Z L σ ρ H ∧ ∀ vs F' H', Ex F F' → Rel K T F' Z L σ ρ' H' → Reps K T F' ds vs → Q vs H'
  | .ex c ds ρ' => fun σ H _ => ∃ F Z L, Rel K T F Z L σ ρ H ∧ ∀ cls dd F' H', Ex F F' → Rel K T F' Z L σ ρ' H' → ExR K T F' cls dd c ds → W cls dd σ H'
def JE (T : Txt) (X : Cx) (W : WX) (e : Expr) (g : Ev D) : Prop := ∀ ρ, PE X e (rdE X.K T W ρ (g ρ))
def JT (T : Txt) (X : Cx) (W : WX) (e : Expr) (g : Ev Bool) : Prop := ∀ ρ, PT X e (rdT X.K T W ρ (g ρ))
def JW (T : Txt) (X : Cx) (W : WX) (e : Expr) (g : Ev Bool) : Prop := ∀ ρ, PW X e (rdT X.K T W ρ (g ρ))
def JA (T : Txt) (X : Cx) (W : WX) (es : List Expr) (g : Ev (List D)) : Prop := ∀ ρ, PA X es (rdA X.K T W ρ (g ρ))
section
variable {T : Txt} {X : Cx} {W : WX} {e a b : Expr}
theorem pe_weak {t t' : TE} (h : PE X e t) (w : ∀ σ H Q, t' σ H Q → t σ H Q) : PE X e t' := ⟨fun pins s σ H Q I q => h.run pins s σ H Q I (w σ H Q q)⟩
theorem pt_weak {t t' : TT} (h : PT X e t) (w : ∀ σ H Q, t' σ H Q → t σ H Q) : PT X e t' := ⟨fun pins s σ H Q I q => h.run pins s σ H Q I (w σ H Q q)⟩
theorem pw_weak {t t' : TT} (h : PW X e t) (w : ∀ σ H Q, t' σ H Q → t σ H Q) : PW X e t' := ⟨fun wh pins s σ H Q I q => h.run wh pins s σ H Q I (w σ H Q q)⟩
theorem pa_weak {es : List Expr} {t t' : TA} (h : PA X es t) (w : ∀ σ H Q, t' σ H Q → t σ H Q) : PA X es t' := ⟨fun pos pins s σ H Q I q => h.run pos pins s σ H Q I (w σ H Q q)⟩
theorem pe_no : PE X e (fun _ _ _ => False) := ⟨fun _ _ _ _ _ _ h => h.elim⟩
theorem pw_no : PW X e (fun _ _ _ => False) := ⟨fun _ _ _ _ _ _ _ h => h.elim⟩
theorem pa_no {es : List Expr} : PA X es (fun _ _ _ => False) := ⟨fun _ _ _ _ _ _ _ h => h.elim⟩
def mVar (i : Nat) : Ev D := fun ρ => match ρ[i]? with
  | some (some (Sl.val d)) => .ok d ρ
  | _ => .stuck
theorem je_pe_var {i : Nat} (h : PE X e (tVar i)) : JE T X W e (mVar i) := by
  intro ρ
  unfold mVar
  split
  · rename_i d q
    refine pe_weak h fun σ H Q ⟨F, Z, L, r, k⟩ => ?_
    obtain ⟨v, h1, h2⟩ := r.val i d q
    exact ⟨v, h1, k v F H (Ex.refl F) r h2⟩
  · exact pe_no
def mC (d : D) : Ev D := fun ρ => .ok d ρ
def flatD : D → Option V
  | .non => some .non
  | .bl b => some (.bl b)
  | .int i => some (.int i)
  | .str x => some (.str x)
  | _ => none
theorem flat_rep {K : PySem.W.Frag} {F : Hp} {d : D} {v : V} (h : flatD d = some v) : Rep K T F d v := by
  cases d <;> simp [flatD] at h <;> (subst h; rfl)
theorem je_const {d : D} {v : V} (h : PE X e (tC v)) (q : flatD d = some v) : JE T X W e (mC d) := fun ρ =>
  pe_weak h fun σ H Q ⟨F, Z, L, r, k⟩ => k v F H (Ex.refl F) r (flat_rep q)
def mOp (f : D → D → Option D) (ga gb : Ev D) : Ev D := fun ρ => (ga ρ).bind fun x ρ1 => (gb ρ1).bind fun y ρ2 => R.of (f x y) ρ2
def OpV (K : PySem.W.Frag) (T : Txt) (r : R2) (f : D → D → Option D) : Prop := ∀ x y z, f x y = some z → ∀ F H v w Q, Ex F H → Rep K T F x v → Rep K T F y w →
  (∀ u F' H', Grow K T F H F' H' → Rep K T F' z u → Q u H') → r v w H Q
end
end VS
set_option maxHeartbeats 2000000
namespace VS
open PySem L2 PySem.Spec PyProof.Rows
def lim : Nat := 16000000
theorem lim_le : lim ≤ sizeLine := by rw [sizeLine_eq]; decide
theorem le_line {n : Nat} (h : n ≤ lim) : n ≤ sizeLine := Nat.le_trans h lim_le
theorem lt_line {n : Nat} (h : n < lim) : n < sizeLine := Nat.lt_of_lt_of_le h lim_le
def addD : D → D → Option D
  | .int i, .int j => some (.int (i + j))
  | .str x, .str y => if x.length + y.length ≤ lim then some (.str (x ++ y)) else none
  | .tup xs, .tup ys => if xs.length + ys.length ≤ lim then some (.tup (xs ++ ys)) else none
  | .lst xs, .lst ys => if xs.length + ys.length ≤ lim then some (.lst (xs ++ ys)) else none
  | _, _ => none
def subD : D → D → Option D
  | .int i, .int j => some (.int (i - j))
  | _, _ => none
def big : Nat := 2 ^ 250
def mulD : D → D → Option D
  | .int i, .int j => if i.natAbs < big ∧ j.natAbs < big then some (.int (i * j)) else none
  | .tup xs, .int j => if 1 < j ∧ 0 < xs.length ∧ j ≤ 1000 ∧ xs.length ≤ 1000 then some (.tup (List.replicate j.toNat xs).flatten) else none
  | _, _ => none
def modD : D → D → Option D
  | .int i, .int j => if 0 < j then some (.int (i % j)) else none
  | _, _ => none
def fdivD : D → D → Option D
  | .int i, .int j => if 0 < j ∧ j.natAbs < big then some (.int (i / j)) else none
  | _, _ => none
def powD : D → D → Option D
  | .int i, .int j => if 0 ≤ j ∧ j ≤ 1000 ∧ i.natAbs < 1000000 then some (.int (i ^ j.toNat)) else none
  | _, _ => none
section
variable {X : Cx} {T : Txt} {K : PySem.W.Frag}
theorem opr_or {f : Value → Value → Sem Value} {r r' : R2} (h : OpR X f r) (h' : OpR X f r') : OpR X f (fun x y H Q => r x y H Q ∨ r' x y H Q) := by
  intro pins s σ H x y v u Q I rx ry q
  rcases q with q | q
  · exact h pins s σ H x y v u Q I rx ry q
  · exact h' pins s σ H x y v u Q I rx ry q
def rAddA (K : PySem.W.Frag) : R2 := fun x y H Q => rI0 (fun i j => .int (i + j)) x y H Q ∨ ((∃ i j, x = V.str i ∧ y = V.str j ∧ i.length + j.length ≤ sizeLine ∧ Q (V.str (i ++ j)) H) ∨ (rCatA K x y H Q ∨ rCat x y H Q))
theorem op_addA : OpR X (binaryOp .Add) (rAddA X.K) := opr_or op_add (opr_or op_add_str (opr_or op_catA op_cat))
theorem Reps.eq_nil {F : Hp} {ds : List D} {vs : List V} (r : Reps K T F ds vs) : vs = [] ↔ ds = [] := by
  have := r.length
  constructor
  · intro h; subst h; simp at this; exact List.eq_nil_of_length_eq_zero this.symm
  · intro h; subst h; exact r
theorem opv_add : OpV K T (rAddA K) addD := by
  intro x y z h F H v w Q e rx ry k
  cases x <;> cases y <;> simp only [addD, reduceCtorEq] at h
  · obtain rfl : v = _ := rx
    obtain rfl : w = _ := ry
    cases h
    exact .inl ⟨_, _, rfl, rfl, k _ F H .refl rfl⟩
  · obtain rfl : v = _ := rx
    obtain rfl : w = _ := ry
    split at h
    · rename_i q
      cases h
      exact .inr (.inl ⟨_, _, rfl, rfl, le_line q, k _ F H .refl rfl⟩)
    · cases h
  · rename_i xs ys
    obtain ⟨a, vs, rfl, ha, ra⟩ := rx
    obtain ⟨b, ws, rfl, hb, rb⟩ := ry
    split at h
    · rename_i q
      cases h
      refine .inr (.inr (.inl ⟨a, b, vs, ws, rfl, rfl, e.sqT ha, e.sqT hb, by rw [ra.length, rb.length]; exact le_line q, fun n => ?_, fun n1 n2 => ?_, fun n1 n2 p hp => ?_⟩))
      · refine k _ F H .refl ⟨b, ws, rfl, hb, ?_⟩
        rw [ra.eq_nil.mp n]; exact rb
      · refine k _ F H .refl ⟨a, vs, rfl, ha, ?_⟩
        rw [rb.eq_nil.mp n2, List.append_nil]; exact ra
      · have g := Grow.new (K := K) (T := T) (o := HO.tup (vs ++ ws)) e hp
        exact k _ _ _ g ⟨p, _, rfl, SqX.of upd_same, (ra.append rb).mono g.1⟩
    · cases h
  · rename_i xs ys
    obtain ⟨a, vs, rfl, ha, ra⟩ := rx
    obtain ⟨b, ws, rfl, hb, rb⟩ := ry
    split at h
    · rename_i q
      cases h
      refine .inr (.inr (.inr ⟨a, b, vs, ws, rfl, rfl, e _ _ ha, e _ _ hb, by rw [ra.length, rb.length]; exact le_line q, fun p hp => ?_⟩))
      have g := Grow.new (K := K) (T := T) (o := HO.lst (vs ++ ws)) e hp
      exact k _ _ _ g ⟨p, _, rfl, upd_same, (ra.append rb).mono g.1⟩
    · cases h
theorem opv_sub : OpV K T (rI0 fun i j => .int (i - j)) subD := by
  intro x y z h F H v w Q e rx ry k
  cases x <;> cases y <;> simp only [subD, reduceCtorEq] at h
  obtain rfl : v = _ := rx
  obtain rfl : w = _ := ry
  cases h
  exact ⟨_, _, rfl, rfl, k _ F H .refl rfl⟩
theorem opv_mod : OpV K T (rI (fun _ j => 0 < j) fun i j => .int (i % j)) modD := by
  intro x y z h F H v w Q e rx ry k
  cases x <;> cases y <;> simp only [modD, reduceCtorEq] at h
  obtain rfl : v = _ := rx
  obtain rfl : w = _ := ry
  split at h
  · rename_i q
    cases h
    exact ⟨_, _, rfl, rfl, q, k _ F H .refl rfl⟩
  · cases h
theorem opv_fdiv : OpV K T (rI CDivW fun i j => .int (i / j)) fdivD := by
  intro x y z h F H v w Q e rx ry k
  cases x <;> cases y <;> simp only [fdivD, reduceCtorEq] at h
  obtain rfl : v = _ := rx
  obtain rfl : w = _ := ry
  split at h
  · rename_i q
    cases h
    exact ⟨_, _, rfl, rfl, wide_div q.1 (b := 250) q.2 (by decide) (by decide), k _ F H .refl rfl⟩
  · cases h
theorem opv_pow : OpV K T (rI CPow fun i j => .int (i ^ j.toNat)) powD := by
  intro x y z h F H v w Q e rx ry k
  cases x <;> cases y <;> simp only [powD, reduceCtorEq] at h
  obtain rfl : v = _ := rx
  obtain rfl : w = _ := ry
  split at h
  · rename_i q
    cases h
    exact ⟨_, _, rfl, rfl, ⟨q.1, by have := q.2.1; omega, Nat.lt_trans q.2.2 (by decide)⟩, k _ F H .refl rfl⟩
  · cases h
theorem Reps.rep {F : Hp} {ds : List D} {vs : List V} (r : Reps K T F ds vs) : ∀ n : Nat, Reps K T F (List.replicate n ds).flatten (List.replicate n vs).flatten
  | 0 => rfl
  | n + 1 => by
    rw [List.replicate_succ, List.replicate_succ, List.flatten_cons, List.flatten_cons]
    exact r.append (Reps.rep r n)
def rMulA (K : PySem.W.Frag) : R2 := fun x y H Q => rI CMulW (fun i j => .int (i * j)) x y H Q ∨ rRepT K x y H Q
theorem op_mulA : OpR X (binaryOp .Mult) (rMulA X.K) := opr_or op_mulW op_repT
theorem opv_mul : OpV K T (rMulA K) mulD := by
  intro x y z h F H v w Q e rx ry k
  cases x <;> cases y <;> simp only [mulD, reduceCtorEq] at h
  · obtain rfl : v = _ := rx
    obtain rfl : w = _ := ry
    split at h
    · rename_i q
      cases h
      exact .inl ⟨_, _, rfl, rfl, wide_mul (a := 250) (b := 250) q.1 q.2 (by decide) (by decide) (by decide), k _ F H .refl rfl⟩
    · cases h
  · rename_i xs j
    obtain ⟨a, vs, rfl, ha, ra⟩ := rx
    obtain rfl : w = _ := ry
    split at h
    · rename_i q
      cases h
      refine .inr ⟨_, _, vs, rfl, rfl, e.sqT ha, fun n => ?_, by omega, q.2.2.1, by rw [ra.length]; exact q.2.2.2, fun p hp => ?_⟩
      · rw [ra.eq_nil.mp n] at q; simp at q
      · have g := Grow.new (K := K) (T := T) (o := HO.tup (List.replicate j.toNat vs).flatten) e hp
        exact k _ _ _ g ⟨p, _, rfl, SqX.of upd_same, (ra.rep _).mono g.1⟩
    · cases h
def ltD : D → D → Option D
  | .int i, .int j => some (.bl (decide (i < j)))
  | .str x, .str y => some (.bl (decide (x.cps.toList < y.cps.toList)))
  | _, _ => none
def leD : D → D → Option D
  | .int i, .int j => some (.bl (decide (i ≤ j)))
  | .str x, .str y => some (.bl (!decide (y.cps.toList < x.cps.toList)))
  | _, _ => none
def gtD : D → D → Option D
  | .int i, .int j => some (.bl (decide (j < i)))
  | .str x, .str y => some (.bl (decide (y.cps.toList < x.cps.toList)))
  | _, _ => none
def geD : D → D → Option D
  | .int i, .int j => some (.bl (decide (j ≤ i)))
  | .str x, .str y => some (.bl (!decide (x.cps.toList < y.cps.toList)))
  | _, _ => none
def r2S (g : Str → Str → Bool) : R2 := fun x y H Q => ∃ i j, x = .str i ∧ y = .str j ∧ Q (.bl (g i j)) H
def rCmp (f : Int → Int → Bool) (g : Str → Str → Bool) : R2 := fun x y H Q => rI0 (fun i j => .bl (f i j)) x y H Q ∨ r2S g x y H Q
theorem op_ltA : OpR X (compareOp .Lt) (rCmp (fun i j => decide (i < j)) fun i j => decide (i.cps.toList < j.cps.toList)) := opr_or op_lt op_lt_str
theorem op_leA : OpR X (compareOp .LtE) (rCmp (fun i j => decide (i ≤ j)) fun i j => !decide (j.cps.toList < i.cps.toList)) := opr_or op_le op_le_str
theorem op_gtA : OpR X (compareOp .Gt) (rCmp (fun i j => decide (j < i)) fun i j => decide (j.cps.toList < i.cps.toList)) := opr_or op_gt op_gt_str
theorem op_geA : OpR X (compareOp .GtE) (rCmp (fun i j => decide (j ≤ i)) fun i j => !decide (i.cps.toList < j.cps.toList)) := opr_or op_ge op_ge_str
theorem opv_lt : OpV K T (rCmp (fun i j => decide (i < j)) fun i j => decide (i.cps.toList < j.cps.toList)) ltD := by
  intro x y z h F H v w Q e rx ry k
  cases x <;> cases y <;> simp only [ltD, reduceCtorEq] at h
  · obtain rfl : v = _ := rx
    obtain rfl : w = _ := ry
    cases h
    exact .inl ⟨_, _, rfl, rfl, k _ F H .refl rfl⟩
  · obtain rfl : v = _ := rx
    obtain rfl : w = _ := ry
    cases h
    exact .inr ⟨_, _, rfl, rfl, k _ F H .refl rfl⟩
theorem opv_le : OpV K T (rCmp (fun i j => decide (i ≤ j)) fun i j => !decide (j.cps.toList < i.cps.toList)) leD := by
  intro x y z h F H v w Q e rx ry k
  cases x <;> cases y <;> simp only [leD, reduceCtorEq] at h
  · obtain rfl : v = _ := rx
    obtain rfl : w = _ := ry
    cases h
    exact .inl ⟨_, _, rfl, rfl, k _ F H .refl rfl⟩
  · obtain rfl : v = _ := rx
    obtain rfl : w = _ := ry
    cases h
    exact .inr ⟨_, _, rfl, rfl, k _ F H .refl rfl⟩
theorem opv_gt : OpV K T (rCmp (fun i j => decide (j < i)) fun i j => decide (j.cps.toList < i.cps.toList)) gtD := by
  intro x y z h F H v w Q e rx ry k
  cases x <;> cases y <;> simp only [gtD, reduceCtorEq] at h
  · obtain rfl : v = _ := rx
    obtain rfl : w = _ := ry
    cases h
    exact .inl ⟨_, _, rfl, rfl, k _ F H .refl rfl⟩
  · obtain rfl : v = _ := rx
    obtain rfl : w = _ := ry
    cases h
    exact .inr ⟨_, _, rfl, rfl, k _ F H .refl rfl⟩
theorem opv_ge : OpV K T (rCmp (fun i j => decide (j ≤ i)) fun i j => !decide (i.cps.toList < j.cps.toList)) geD := by
  intro x y z h F H v w Q e rx ry k
  cases x <;> cases y <;> simp only [geD, reduceCtorEq] at h
  · obtain rfl : v = _ := rx
    obtain rfl : w = _ := ry
    cases h
    exact .inl ⟨_, _, rfl, rfl, k _ F H .refl rfl⟩
  · obtain rfl : v = _ := rx
    obtain rfl : w = _ := ry
    cases h
    exact .inr ⟨_, _, rfl, rfl, k _ F H .refl rfl⟩
mutual
def toPy : D → Option PyData
  | .non => some .none
  | .bl b => some (.bool b)
  | .int i => some (.int i)
  | .str x => some (.str x)
  | .tup xs => (toPys xs).map .tuple
  | .lst xs => (toPys xs).map .list
  | .frl xs => (toPys xs).map .list
  | _ => none
def toPys : List D → Option (List PyData)
  | [] => some []
  | d :: ds => (toPy d).bind fun p => (toPys ds).map (p :: ·)
end
theorem dpAll_cons {H : Hp} {v : V} {vs : List V} {p : PyData} {ps : List PyData} (h : Dp K H v p) (r : DpAll K H vs ps) : DpAll K H (v :: vs) (p :: ps) := .cons h r
mutual
theorem rep_dp {F H : Hp} (e : Ex F H) : ∀ {d : D} {p : PyData} {v : V}, toPy d = some p → Rep K T F d v → Dp K H v p
  | .non, p, v, h, r => by simp only [toPy] at h; cases h; rw [show v = _ from r]; exact .non
  | .bl b, p, v, h, r => by simp only [toPy] at h; cases h; rw [show v = _ from r]; exact .bl b
  | .int i, p, v, h, r => by simp only [toPy] at h; cases h; rw [show v = _ from r]; exact .int i
  | .str x, p, v, h, r => by simp only [toPy] at h; cases h; rw [show v = _ from r]; exact .str x
  | .tup xs, p, v, h, ⟨a, vs, e1, h1, r⟩ => by
    simp only [toPy] at h
    cases q : toPys xs with
    | none => rw [q] at h; cases h
    | some ps => rw [q] at h; cases h; rw [e1]; exact .tup (e.sqT h1) (reps_dp e q r)
  | .lst xs, p, v, h, ⟨a, vs, e1, h1, r⟩ => by
    simp only [toPy] at h
    cases q : toPys xs with
    | none => rw [q] at h; cases h
    | some ps => rw [q] at h; cases h; rw [e1]; exact .lst (SqL.of (e _ _ h1)) (reps_dp e q r)
  | .frl xs, p, v, h, ⟨a, vs, e1, h1, r⟩ => by
    simp only [toPy] at h
    cases q : toPys xs with
    | none => rw [q] at h; cases h
    | some ps => rw [q] at h; cases h; rw [e1]; exact .lst (e.sqL h1) (reps_dp e q r)
  | .dct _, p, v, h, _ => by simp [toPy] at h
  | .ins _ _, p, v, h, _ => by simp [toPy] at h
  | .exc _ _, p, v, h, _ => by simp [toPy] at h
  | .dtt _, p, v, h, _ => by simp [toPy] at h
  | .bad, p, v, h, _ => by simp [toPy] at h
  | .fru _, p, v, h, _ => by simp [toPy] at h
theorem reps_dp {F H : Hp} (e : Ex F H) : ∀ {ds : List D} {ps : List PyData} {vs : List V}, toPys ds = some ps → Reps K T F ds vs → DpAll K H vs ps
  | [], ps, vs, h, r => by simp only [toPys] at h; cases h; rw [show vs = _ from r]; exact .nil
  | d :: ds, ps, vs, h, ⟨v, ws, e1, h1, r⟩ => by
    simp only [toPys] at h
    cases q : toPy d with
    | none => rw [q] at h; cases h
    | some p =>
      cases q2 : toPys ds with
      | none => rw [q, q2] at h; cases h
      | some ps' =>
        rw [q, q2] at h
        cases h
        rw [e1]
        exact dpAll_cons (rep_dp e q h1) (reps_dp e q2 r)
end
def eqB0 (x y : D) : Option Bool := (toPy x).bind fun a => (toPy y).bind fun b => if (SeqAt.shaped a && SeqAt.shaped b) = true then some (PyData.eqv a b) else none
def eqB : D → D → Option Bool
  | .str a, .str b => some (decide (a = b))
  | .int i, .int j => some (decide (i = j))
  | .bl a, .bl b => some (decide (a = b))
  | x, y => eqB0 x y
def eqD (x y : D) : Option D := (eqB x y).map .bl
def neD (x y : D) : Option D := (eqB x y).map fun b => .bl (!b)
theorem eqB0_some {x y : D} {b : Bool} (h : eqB0 x y = some b) : ∃ p q, toPy x = some p ∧ toPy y = some q ∧ SeqAt.shaped p = true ∧ SeqAt.shaped q = true ∧ b = PyData.eqv p q := by
  unfold eqB0 at h
  cases q1 : toPy x with
  | none => rw [q1] at h; cases h
  | some p =>
    cases q2 : toPy y with
    | none => rw [q1, q2] at h; cases h
    | some q =>
      rw [q1, q2] at h
      simp only [Option.bind_some] at h
      split at h
      · rename_i c
        rw [Bool.and_eq_true] at c
        cases h
        exact ⟨p, q, rfl, rfl, c.1, c.2, rfl⟩
      · cases h
def rEqA (K : PySem.W.Frag) : R2 := fun x y H Q => rEq x y H Q ∨ rEqD K x y H Q
def rNeA (K : PySem.W.Frag) : R2 := fun x y H Q => rNe x y H Q ∨ rNeD K x y H Q
theorem eq_cases {x y : D} {b : Bool} (h : eqB x y = some b) : (∃ v w, flatD x = some v ∧ flatD y = some w ∧ scal v w = true ∧ b = decide (v = w)) ∨ eqB0 x y = some b := by
  unfold eqB at h
  split at h
  · rename_i a c; cases h; exact .inl ⟨.str a, .str c, rfl, rfl, rfl, by simp⟩
  · rename_i a c; cases h; exact .inl ⟨.int a, .int c, rfl, rfl, rfl, by simp⟩
  · rename_i a c; cases h; exact .inl ⟨.bl a, .bl c, rfl, rfl, rfl, by simp⟩
  · exact .inr h
theorem flat_rep' {F : Hp} {d : D} {v w : V} (h : flatD d = some v) (r : Rep K T F d w) : w = v := by
  cases d <;> simp [flatD] at h <;> (subst h; exact r)
theorem opv_eq : OpV K T (rEqA K) eqD := by
  intro x y z h F H v w Q e rx ry k
  unfold eqD at h
  cases q : eqB x y with
  | none => rw [q] at h; cases h
  | some b =>
    rw [q] at h; cases h
    rcases eq_cases q with ⟨v', w', h1, h2, h3, rfl⟩ | q
    · rw [flat_rep' h1 rx, flat_rep' h2 ry]
      exact .inl ⟨h3, k _ F H .refl rfl⟩
    · obtain ⟨p, p', h1, h2, s1, s2, rfl⟩ := eqB0_some q
      exact .inr ⟨p, p', rep_dp e h1 rx, rep_dp e h2 ry, s1, s2, k _ F H .refl rfl⟩
theorem opv_ne : OpV K T (rNeA K) neD := by
  intro x y z h F H v w Q e rx ry k
  unfold neD at h
  cases q : eqB x y with
  | none => rw [q] at h; cases h
  | some b =>
    rw [q] at h; cases h
    rcases eq_cases q with ⟨v', w', h1, h2, h3, rfl⟩ | q
    · rw [flat_rep' h1 rx, flat_rep' h2 ry]
      exact .inl ⟨h3, k _ F H .refl rfl⟩
    · obtain ⟨p, p', h1, h2, s1, s2, rfl⟩ := eqB0_some q
      exact .inr ⟨p, p', rep_dp e h1 rx, rep_dp e h2 ry, s1, s2, k _ F H .refl rfl⟩
def RepB (K : PySem.W.Frag) (T : Txt) (F H : Hp) : D → V → Prop
  | .lst xs, v => ∃ a vs, v = .ref a ∧ H a = some (.lst vs) ∧ Reps K T F xs vs
  | .dct kvs, v => ∃ a ws, v = .ref a ∧ H a = some (.dK ws) ∧ RepK K T F kvs ws
  | .ins c xs, v => ∃ a dx vs, v = .ref a ∧ H a = some (.ins (T.cl c) dx ((T.fl c).zip vs)) ∧ vs.length ≤ (T.fl c).length ∧ Reps K T F xs vs
  | .dtt kvs, v => ∃ a ws, v = .ref a ∧ H a = some (.dT ws) ∧ RepKT K T F kvs ws
  | d, v => Rep K T F d v
theorem Rep.b {F H : Hp} (e : Ex F H) {d : D} {v : V} (h : Rep K T F d v) : RepB K T F H d v := by
  cases d with
  | lst xs => obtain ⟨a, vs, e1, h1, r⟩ := h; exact ⟨a, vs, e1, e _ _ h1, r⟩
  | dct xs => obtain ⟨a, vs, e1, h1, r⟩ := h; exact ⟨a, vs, e1, e _ _ h1, r⟩
  | ins c xs => obtain ⟨a, dx, vs, e1, h1, l, r⟩ := h; exact ⟨a, dx, vs, e1, e _ _ h1, l, r⟩
  | dtt xs => obtain ⟨a, vs, e1, h1, r⟩ := h; exact ⟨a, vs, e1, e _ _ h1, r⟩
  | _ => exact h
theorem RepS.b {F H : Hp} {m : MO} {o : HO} {a : Addr} (h : RepS K T F m o) (ha : H a = some o) : RepB K T F H m.frz (.ref a) := by
  cases m with
  | lst xs => obtain ⟨vs, e1, r⟩ := h; exact ⟨a, vs, rfl, by rw [ha, e1], r⟩
  | dct kvs => obtain ⟨vs, e1, r⟩ := h; exact ⟨a, vs, rfl, by rw [ha, e1], r⟩
  | ins c xs => obtain ⟨dx, vs, e1, l, r⟩ := h; exact ⟨a, dx, vs, rfl, by rw [ha, e1], l, r⟩
  | dtt kvs => obtain ⟨vs, e1, r⟩ := h; exact ⟨a, vs, rfl, by rw [ha, e1], r⟩
  | box c fs => exact ⟨a, rfl⟩
theorem RepO.b {F H : Hp} {m : MO} {o : HO} {a : Addr} (h : RepO K T F m o) (ha : H a = some o) : RepB K T F H m.frz (.ref a) := h.s.b ha
def OpVL (K : PySem.W.Frag) (T : Txt) (r : R2) (f : D → D → Option D) : Prop := ∀ x y z, f x y = some z → ∀ F H v w Q, Ex F H → RepB K T F H x v → Rep K T F y w →
  (∀ u F' H', Grow K T F H F' H' → Rep K T F' z u → Q u H') → r v w H Q
def OpVR (K : PySem.W.Frag) (T : Txt) (r : R2) (f : D → D → Option D) : Prop := ∀ x y z, f x y = some z → ∀ F H v w Q, Ex F H → Rep K T F x v → RepB K T F H y w →
  (∀ u F' H', Grow K T F H F' H' → Rep K T F' z u → Q u H') → r v w H Q
theorem OpVL.v {r : R2} {f : D → D → Option D} (h : OpVL K T r f) : OpV K T r f := fun x y z q F H v w Q e rx ry k => h x y z q F H v w Q e (rx.b e) ry k
theorem OpVR.v {r : R2} {f : D → D → Option D} (h : OpVR K T r f) : OpV K T r f := fun x y z q F H v w Q e rx ry k => h x y z q F H v w Q e rx (ry.b e) k
def flats : List D → Option (List V)
  | [] => some []
  | d :: ds => (flatD d).bind fun v => (flats ds).map (v :: ·)
theorem flatD_V {d : D} {v : V} (h : flatD d = some v) : flatV v = true := by cases d <;> simp [flatD] at h <;> (subst h; rfl)
theorem rep_flat {F : Hp} {d : D} {v w : V} (h : flatD d = some v) (r : Rep K T F d w) : w = v := by
  cases d <;> simp [flatD] at h <;> (subst h; exact r)
theorem reps_flat {F : Hp} : ∀ {ds : List D} {vs ws : List V}, flats ds = some vs → Reps K T F ds ws → ws = vs
  | [], vs, ws, h, r => by simp only [flats] at h; cases h; exact r
  | d :: ds, vs, ws, h, ⟨v, us, e1, h1, r⟩ => by
    simp only [flats] at h
    cases q : flatD d with
    | none => rw [q] at h; cases h
    | some x =>
      cases q2 : flats ds with
      | none => rw [q, q2] at h; cases h
      | some xs => rw [q, q2] at h; cases h; rw [e1, rep_flat q h1, reps_flat q2 r]
theorem flats_all : ∀ {ds : List D} {vs : List V}, flats ds = some vs → vs.all flatV = true
  | [], vs, h => by simp only [flats] at h; cases h; rfl
  | d :: ds, vs, h => by
    simp only [flats] at h
    cases q : flatD d with
    | none => rw [q] at h; cases h
    | some x =>
      cases q2 : flats ds with
      | none => rw [q, q2] at h; cases h
      | some xs => rw [q, q2] at h; cases h; simp [flatD_V q, flats_all q2]
def keyD : D → Option Key
  | .int i => some (.inl i)
  | .str x => some (.inr x)
  | _ => none
theorem rep_key {F : Hp} {d : D} {k : Key} {v : V} (h : keyD d = some k) (r : Rep K T F d v) : v = kV k := by
  cases d <;> simp [keyD] at h <;> (subst h; exact r)
def valD (kvs : List (Key × D)) (k : Key) : Option D := (kvs.find? fun p => decide (p.1 = k)).map (·.2)
def valT (kvs : List (List Key × D)) (k : List Key) : Option D := (kvs.find? fun p => decide (p.1 = k)).map (·.2)
def keyL : List D → Option (List Key)
  | [] => some []
  | d :: ds => (keyD d).bind fun k => (keyL ds).map (k :: ·)
def keysD : D → Option (List Key)
  | .tup ds => keyL ds
  | _ => none
theorem rep_keyL {F : Hp} : ∀ {ds : List D} {ks : List Key} {vs : List V}, keyL ds = some ks → Reps K T F ds vs → vs = ks.map kV
  | [], ks, vs, h, r => by cases h; exact r
  | d :: ds, ks, vs, h, ⟨v, ws, e1, h1, r⟩ => by
    simp only [keyL] at h
    cases q : keyD d with
    | none => rw [q] at h; cases h
    | some k =>
      cases q2 : keyL ds with
      | none => rw [q, q2] at h; cases h
      | some l =>
        rw [q, q2] at h
        cases h
        rw [e1, rep_key q h1, rep_keyL q2 r]; rfl
theorem rep_keys {F : Hp} {d : D} {ks : List Key} {v : V} (h : keysD d = some ks) (r : Rep K T F d v) : ∃ a, v = .ref a ∧ F a = some (.tup (ks.map kV)) := by
  unfold keysD at h
  split at h
  · obtain ⟨a, vs, e1, h1, rr⟩ := r
    have e2 := rep_keyL h rr
    exact ⟨a, e1, by rw [← e2]; exact h1.2⟩
  · cases h
theorem repKT_val {F : Hp} {k : List Key} : ∀ {kvs : List (List Key × D)} {ws : List (List Key × V)}, RepKT K T F kvs ws →
    (∀ d, valT kvs k = some d → ∃ v, valV ws k = some v ∧ Rep K T F d v) ∧ (valT kvs k = none → valV ws k = none)
  | [], ws, r => by
    rw [show ws = _ from r]
    exact ⟨fun d h => by simp [valT] at h, fun _ => rfl⟩
  | (k', d') :: kvs, ws, ⟨v, us, e1, h1, r⟩ => by
    obtain ⟨i1, i2⟩ := repKT_val (k := k) r
    rw [e1]
    by_cases h : k' = k
    · subst h
      refine ⟨fun d q => ?_, fun q => ?_⟩
      · simp [valT] at q; subst q
        exact ⟨v, by simp [valV], h1⟩
      · simp [valT] at q
    · refine ⟨fun d q => ?_, fun q => ?_⟩
      · have q' : valT kvs k = some d := by simpa [valT, h] using q
        obtain ⟨u, h2, h3⟩ := i1 d q'
        exact ⟨u, by simpa [valV, h] using h2, h3⟩
      · have q' : valT kvs k = none := by simpa [valT, h] using q
        simpa [valV, h] using i2 q'
theorem repKT_some {F : Hp} {k : List Key} {kvs : List (List Key × D)} {ws : List (List Key × V)} (r : RepKT K T F kvs ws) : (valV ws k).isSome = (valT kvs k).isSome := by
  cases q : valT kvs k with
  | none => rw [(repKT_val r).2 q]; rfl
  | some d => obtain ⟨v, h, _⟩ := (repKT_val r).1 d q; rw [h]; rfl
def inB (x : D) : D → Option Bool
  | .tup ys => (flatD x).bind fun v => (flats ys).map fun vs => inV v vs
  | .lst ys => (flatD x).bind fun v => (flats ys).map fun vs => inV v vs
  | .frl ys => (flatD x).bind fun v => (flats ys).map fun vs => inV v vs
  | .dct kvs => (keyD x).map fun k => (valD kvs k).isSome
  | .dtt kvs => (keysD x).map fun k => (valT kvs k).isSome
  | .str z => match x with
    | .str y => some (!(Builtin.Str.occurrences z y 0 z.length 1).isEmpty)
    | _ => none
  | .fru ys => (flatD x).bind fun v => (flats ys).map fun vs => inV v vs
  | _ => none
def inD (x y : D) : Option D := (inB x y).map .bl
def notInD (x y : D) : Option D := (inB x y).map fun b => .bl (!b)
def rDIn (neg : Bool) : R2 := fun y x H Q => ∃ a o, x = .ref a ∧ DGet H a y o ∧ Q (.bl (if neg then !o.isSome else o.isSome)) H
theorem op_dinA (hu : X.A.units + 1 < cLine) : OpR X (compareOp .In) (rDIn false) := by
  intro pins s σ H y x v u Q I ry rx h
  obtain ⟨a, o, rfl, g, q⟩ := h
  obtain rfl : u = Value.ref a := rx
  exact d_in hu I g ry fun s3 I3 => ⟨.bl o.isSome, H, I3, rfl, q⟩
theorem op_dnotinA (hu : X.A.units + 1 < cLine) : OpR X (compareOp .NotIn) (rDIn true) := by
  intro pins s σ H y x v u Q I ry rx h
  obtain ⟨a, o, rfl, g, q⟩ := h
  obtain rfl : u = Value.ref a := rx
  exact d_notIn hu I g ry fun s3 I3 => ⟨.bl (!o.isSome), H, I3, rfl, q⟩
def rInS (neg : Bool) : R2 := fun x y H Q => ∃ i j, x = .str i ∧ y = .str j ∧ Q (.bl (if neg then !(!(Builtin.Str.occurrences j i 0 j.length 1).isEmpty) else !(Builtin.Str.occurrences j i 0 j.length 1).isEmpty)) H
def rInA (K : PySem.W.Frag) (neg : Bool) : R2 := fun x y H Q => rIn K neg x y H Q ∨ (rInS neg x y H Q ∨ rDIn neg x y H Q)
theorem op_inA (hu : X.A.units + 1 < cLine) : OpR X (compareOp .In) (rInA X.K false) := opr_or op_in_seq (opr_or op_in_str (op_dinA hu))
theorem op_notInA (hu : X.A.units + 1 < cLine) : OpR X (compareOp .NotIn) (rInA X.K true) := opr_or op_notIn_seq (opr_or op_notIn_str (op_dnotinA hu))
theorem repK_val {F : Hp} {k : Key} : ∀ {kvs : List (Key × D)} {ws : List (Key × V)}, RepK K T F kvs ws →
    (∀ d, valD kvs k = some d → ∃ v, valV ws k = some v ∧ Rep K T F d v) ∧ (valD kvs k = none → valV ws k = none)
  | [], ws, r => by
    rw [show ws = _ from r]
    exact ⟨fun d h => by simp [valD] at h, fun _ => rfl⟩
  | (k', d') :: kvs, ws, ⟨v, us, e1, h1, r⟩ => by
    obtain ⟨i1, i2⟩ := repK_val (k := k) r
    rw [e1]
    by_cases h : k' = k
    · subst h
      refine ⟨fun d q => ?_, fun q => ?_⟩
      · simp [valD] at q; subst q
        exact ⟨v, by simp [valV], h1⟩
      · simp [valD] at q
    · refine ⟨fun d q => ?_, fun q => ?_⟩
      · have q' : valD kvs k = some d := by simpa [valD, h] using q
        obtain ⟨u, h2, h3⟩ := i1 d q'
        exact ⟨u, by simpa [valV, h] using h2, h3⟩
      · have q' : valD kvs k = none := by simpa [valD, h] using q
        simpa [valV, h] using i2 q'
theorem repK_some {F : Hp} {k : Key} {kvs : List (Key × D)} {ws : List (Key × V)} (r : RepK K T F kvs ws) : (valV ws k).isSome = (valD kvs k).isSome := by
  cases q : valD kvs k with
  | none => rw [(repK_val r).2 q]; rfl
  | some d => obtain ⟨v, h, _⟩ := (repK_val r).1 d q; rw [h]; rfl
theorem in_of {F H : Hp} {x y : D} {b : Bool} {v w : V} {Q : VK} (neg : Bool) (h : inB x y = some b) (e : Ex F H) (rx : Rep K T F x v) (ry : RepB K T F H y w) (k : Q (.bl (if neg then !b else b)) H) : rInA K neg v w H Q := by
  have seq : ∀ ys : List D, ((flatD x).bind fun v => (flats ys).map fun vs => inV v vs) = some b → (∃ p us, w = .ref p ∧ (SqL K H p us ∨ SqT K H p us) ∧ Reps K T F ys us) → rInA K neg v w H Q := by
    intro ys q ⟨p, us, e1, hs, r⟩
    cases q1 : flatD x with
    | none => rw [q1] at q; cases q
    | some x' =>
      cases q2 : flats ys with
      | none => rw [q1, q2] at q; cases q
      | some vs =>
        rw [q1, q2] at q
        have qb : inV x' vs = b := Option.some.inj q
        rw [reps_flat q2 r] at hs
        rw [rep_flat q1 rx, e1]
        refine .inl ⟨p, vs, rfl, hs, flatD_V q1, flats_all q2, ?_⟩
        rw [qb]; exact k
  cases y with
  | tup ys => obtain ⟨a, us, e1, h1, r⟩ := ry; exact seq ys h ⟨a, us, e1, .inr (e.sqT h1), r⟩
  | lst ys => obtain ⟨a, us, e1, h1, r⟩ := ry; exact seq ys h ⟨a, us, e1, .inl (SqL.of h1), r⟩
  | frl ys => obtain ⟨a, us, e1, h1, r⟩ := ry; exact seq ys h ⟨a, us, e1, .inl (e.sqL h1), r⟩
  | fru ys => obtain ⟨a, us, e1, h1, r⟩ := ry; exact seq ys h ⟨a, us, e1, .inr (e.sqT h1), r⟩
  | dct kvs =>
    obtain ⟨a, ws, e1, h1, r⟩ := ry
    simp only [inB] at h
    cases q : keyD x with
    | none => rw [q] at h; cases h
    | some key =>
      rw [q] at h
      have hb : (valD kvs key).isSome = b := Option.some.inj h
      rw [rep_key q rx, e1]
      refine .inr (.inr ⟨a, _, rfl, DGet.k h1, ?_⟩)
      rw [repK_some r, hb]; exact k
  | dtt kvs =>
    obtain ⟨a, ws, e1, h1, r⟩ := ry
    simp only [inB] at h
    cases q : keysD x with
    | none => rw [q] at h; cases h
    | some key =>
      rw [q] at h
      have hb : (valT kvs key).isSome = b := Option.some.inj h
      obtain ⟨c, e2, h2⟩ := rep_keys q rx
      rw [e2, e1]
      refine .inr (.inr ⟨a, _, rfl, DGet.t h1 (e _ _ h2), ?_⟩)
      rw [repKT_some r, hb]; exact k
  | str z =>
    obtain rfl : w = _ := ry
    cases x <;> simp only [inB, reduceCtorEq] at h
    obtain rfl : v = _ := rx
    cases h
    exact .inr (.inl ⟨_, _, rfl, rfl, k⟩)
  | _ => simp [inB] at h
theorem opv_inR : OpVR K T (rInA K false) inD := by
  intro x y z h F H v w Q e rx ry k
  unfold inD at h
  cases q : inB x y with
  | none => rw [q] at h; cases h
  | some b => rw [q] at h; cases h; exact in_of false q e rx ry (k _ F H .refl rfl)
theorem opv_notInR : OpVR K T (rInA K true) notInD := by
  intro x y z h F H v w Q e rx ry k
  unfold notInD at h
  cases q : inB x y with
  | none => rw [q] at h; cases h
  | some b => rw [q] at h; cases h; exact in_of true q e rx ry (k _ F H .refl rfl)
theorem opv_notIn : OpV K T (rInA K true) notInD := opv_notInR.v
def isNone : D → Bool
  | .non => true
  | _ => false
def isND (x y : D) : Option D := if isNone y then some (.bl (isNone x)) else none
theorem rep_none {F : Hp} {d : D} {v : V} (r : Rep K T F d v) : decide (v = .non) = isNone d := by
  cases d with
  | non => rw [show v = _ from r]; rfl
  | bl b => rw [show v = _ from r]; rfl
  | int b => rw [show v = _ from r]; rfl
  | str b => rw [show v = _ from r]; rfl
  | tup xs => obtain ⟨a, _, e1, _⟩ := r; rw [e1]; rfl
  | lst xs => obtain ⟨a, _, e1, _⟩ := r; rw [e1]; rfl
  | frl xs => obtain ⟨a, _, e1, _⟩ := r; rw [e1]; rfl
  | dct xs => obtain ⟨a, _, e1, _⟩ := r; rw [e1]; rfl
  | ins c xs => obtain ⟨a, _, _, e1, _⟩ := r; rw [e1]; rfl
  | exc c xs => obtain ⟨a, _, _, e1, _⟩ := r; rw [e1]; rfl
  | dtt xs => obtain ⟨a, _, e1, _⟩ := r; rw [e1]; rfl
  | bad => obtain ⟨a, e1⟩ := r; rw [e1]; rfl
  | fru xs => obtain ⟨a, _, e1, _⟩ := r; rw [e1]; rfl
theorem opv_isN : OpV K T (fun x y H Q => y = .non ∧ Q (.bl (decide (x = .non))) H) isND := by
  intro x y z h F H v w Q e rx ry k
  unfold isND at h
  split at h
  · rename_i q
    cases h
    cases y <;> simp [isNone] at q
    refine ⟨ry, ?_⟩
    rw [rep_none rx]
    exact k _ F H .refl rfl
  · cases h
theorem ix_dict (hu : X.A.units + 1 < cLine) : IxR X (fun x y H Q => ∃ a v, x = .ref a ∧ DGet H a y (some v) ∧ Q v H) := by
  intro value slice pins s σ H x y v u Q I rx ry h hs
  obtain ⟨a, w, rfl, g, q⟩ := h
  obtain rfl : v = Value.ref a := rx
  have hT := dict_typeIs I g
  unfold subscriptTail
  refine wpAny_bind ?_
  rw [getitemInPython_of_ne hT.not_modules]
  refine wpAny_bind (wpAny_specialOf hT PySem.F.slot_dict_getitem.lookup ?_)
  have fin : wpAny (model X.prog X.w) X.A (subscripted slice false (.ref a) u) (fun r s₃ => wpAny (model X.prog X.w) X.A (letTemporaryGo value (.ref a) r >>= fun _ => pure r) (EP X pins σ Q) X.xe s₃) X.xe s := by
    rw [hs]
    exact wpAny_operating (wpAny_mono (d_getItem hu I g ry fun w' s3 I3 rw' => (⟨w, H, I3, rw', q⟩ : EP X pins σ Q w' s3)) (fun r s₃ h₃ => wpAny_bind (wpAny_letTemporaryGo (wpAny_pure h₃))) fun _ _ x => x)
  first
    | exact wpAny_pure (wpAny_bind fin)
    | exact wpAny_bind (wpAny_pure (wpAny_bind fin))
    | exact wpAny_bind fin
def rIxA (K : PySem.W.Frag) : R2 := fun x y H Q => rIx K x y H Q ∨ ∃ a v, x = .ref a ∧ DGet H a y (some v) ∧ Q v H
theorem ix_any (hu : X.A.units + 1 < cLine) : IxR X (rIxA X.K) := ix_seq.or (ix_dict hu)
def ixD : D → D → Option D
  | .tup xs, .int i => atI xs i
  | .lst xs, .int i => atI xs i
  | .frl xs, .int i => atI xs i
  | .str z, .int i => if z.length ≤ lim then (atI z.cps.toList i).map fun c => .str ⟨#[c]⟩ else none
  | .dct kvs, y => (keyD y).bind fun k => valD kvs k
  | .dtt kvs, y => (keysD y).bind fun k => valT kvs k
  | _, _ => none
theorem atI_rep {F : Hp} {ds : List D} {vs : List V} {i : Int} {d : D} (r : Reps K T F ds vs) (h : atI ds i = some d) : ∃ v, atI vs i = some v ∧ Rep K T F d v := by
  unfold atI at h ⊢
  rw [r.length]
  cases q : ixN ds.length i with
  | none => rw [q] at h; cases h
  | some j => rw [q] at h; exact r.get h
theorem opv_ixL : OpVL K T (rIxA K) ixD := by
  intro x y z h F H v w Q e rx ry k
  cases x with
  | tup xs =>
    cases y <;> simp only [ixD, reduceCtorEq] at h
    obtain ⟨a, vs, rfl, ha, ra⟩ := rx
    obtain rfl : w = _ := ry
    obtain ⟨u, h1, h2⟩ := atI_rep ra h
    exact .inl (.inr (.inl ⟨a, vs, _, u, rfl, rfl, e.sqT ha, h1, k _ F H .refl h2⟩))
  | lst xs =>
    cases y <;> simp only [ixD, reduceCtorEq] at h
    obtain ⟨a, vs, rfl, ha, ra⟩ := rx
    obtain rfl : w = _ := ry
    obtain ⟨u, h1, h2⟩ := atI_rep ra h
    exact .inl (.inl ⟨a, vs, _, u, rfl, rfl, SqL.of ha, h1, k _ F H .refl h2⟩)
  | frl xs =>
    cases y <;> simp only [ixD, reduceCtorEq] at h
    obtain ⟨a, vs, rfl, ha, ra⟩ := rx
    obtain rfl : w = _ := ry
    obtain ⟨u, h1, h2⟩ := atI_rep ra h
    exact .inl (.inl ⟨a, vs, _, u, rfl, rfl, e.sqL ha, h1, k _ F H .refl h2⟩)
  | str t =>
    cases y <;> simp only [ixD, reduceCtorEq] at h
    obtain rfl : v = _ := rx
    obtain rfl : w = _ := ry
    split at h
    · rename_i i q
      cases q2 : atI t.cps.toList i with
      | none => rw [q2] at h; cases h
      | some c => rw [q2] at h; cases h; exact .inl (.inr (.inr ⟨_, _, c, rfl, rfl, le_line q, q2, k _ F H .refl rfl⟩))
    · cases h
  | dct kvs =>
    simp only [ixD] at h
    obtain ⟨a, ws, rfl, ha, ra⟩ := rx
    cases q : keyD y with
    | none => rw [q] at h; cases h
    | some key =>
      rw [q] at h
      obtain ⟨u, h1, h2⟩ := (repK_val ra).1 z h
      refine .inr ⟨a, u, rfl, ?_, k _ F H .refl h2⟩
      rw [rep_key q ry, ← h1]
      exact DGet.k ha
  | dtt kvs =>
    simp only [ixD] at h
    obtain ⟨a, ws, rfl, ha, ra⟩ := rx
    cases q : keysD y with
    | none => rw [q] at h; cases h
    | some key =>
      rw [q] at h
      obtain ⟨u, h1, h2⟩ := (repKT_val ra).1 z h
      obtain ⟨c, e2, h3⟩ := rep_keys q ry
      refine .inr ⟨a, u, rfl, ?_, k _ F H .refl h2⟩
      rw [e2, ← h1]
      exact DGet.t ha (e _ _ h3)
  | _ => cases y <;> simp [ixD] at h
theorem opv_ix : OpV K T (rIxA K) ixD := opv_ixL.v
def cutD (xs : List D) (lo hi : Option Int) : List D := (xs.drop (HT.sIx xs.length 0 lo)).take (HT.sIx xs.length xs.length hi - HT.sIx xs.length 0 lo)
def slD (x : D) (lo hi : Option Int) : Option D := match x with
  | .tup xs => some (.tup (cutD xs lo hi))
  | .lst xs => some (.lst (cutD xs lo hi))
  | .frl xs => some (.lst (cutD xs lo hi))
  | .str z => if z.length ≤ lim then some (.str (cutS z lo hi)) else none
  | .fru [] => some (.fru [])
  | _ => none
def rSlAny (K : PySem.W.Frag) : V → Option Int → Option Int → Hp → VK → Prop := fun x lo hi H Q => rSlL K x lo hi H Q ∨ (rSlA K x lo hi H Q ∨ rSlS x lo hi H Q)
theorem sl_any : SlR X (rSlAny X.K) := sl_list.or (sl_tupA.or sl_str)
theorem cut_rep {F : Hp} {ds : List D} {vs : List V} (r : Reps K T F ds vs) (lo hi : Option Int) : Reps K T F (cutD ds lo hi) (cutV vs lo hi) := by
  unfold cutD cutV
  rw [r.length]
  exact (r.drop _).take _
theorem cutD_all {ds : List D} {lo hi : Option Int} (h : HT.sIx ds.length 0 lo = 0 ∧ HT.sIx ds.length ds.length hi = ds.length) : cutD ds lo hi = ds := by
  unfold cutD
  rw [h.1, h.2]
  simp
theorem slv_any {F H : Hp} {x z : D} {lo hi : Option Int} {v : V} {Q : VK} (h : slD x lo hi = some z) (e : Ex F H) (rx : RepB K T F H x v) (k : ∀ u F' H', Grow K T F H F' H' → Rep K T F' z u → Q u H') : rSlAny K v lo hi H Q := by
  cases x with
  | tup xs =>
    obtain ⟨a, vs, rfl, ha, ra⟩ := rx
    cases h
    refine .inr (.inl ⟨a, vs, rfl, e.sqT ha, fun n => ?_, fun n p hp => ?_⟩)
    · refine k _ F H .refl ⟨a, vs, rfl, ha, ?_⟩
      rw [cutD_all (by rw [← ra.length]; exact n)]; exact ra
    · have g := Grow.new (K := K) (T := T) (o := HO.tup (cutV vs lo hi)) e hp
      exact k _ _ _ g ⟨p, _, rfl, SqX.of upd_same, (cut_rep ra lo hi).mono g.1⟩
  | lst xs =>
    obtain ⟨a, vs, rfl, ha, ra⟩ := rx
    cases h
    refine .inl ⟨a, vs, rfl, SqL.of ha, fun p hp => ?_⟩
    have g := Grow.new (K := K) (T := T) (o := HO.lst (cutV vs lo hi)) e hp
    exact k _ _ _ g ⟨p, _, rfl, upd_same, (cut_rep ra lo hi).mono g.1⟩
  | frl xs =>
    obtain ⟨a, vs, rfl, ha, ra⟩ := rx
    cases h
    refine .inl ⟨a, vs, rfl, e.sqL ha, fun p hp => ?_⟩
    have g := Grow.new (K := K) (T := T) (o := HO.lst (cutV vs lo hi)) e hp
    exact k _ _ _ g ⟨p, _, rfl, upd_same, (cut_rep ra lo hi).mono g.1⟩
  | str t =>
    obtain rfl : v = _ := rx
    simp only [slD] at h
    split at h
    · rename_i q
      cases h
      exact .inr (.inr ⟨t, rfl, le_line q, k _ F H .refl rfl⟩)
    · cases h
  | fru xs =>
    cases xs with
    | cons x xs => simp [slD] at h
    | nil =>
      obtain ⟨a, vs, rfl, ha, ra⟩ := rx
      cases h
      refine .inr (.inl ⟨a, vs, rfl, e.sqT ha, fun n => k _ F H .refl ⟨a, vs, rfl, ha, ra⟩, fun n p hp => ?_⟩)
      exfalso
      obtain rfl : vs = [] := ra
      exact n ⟨by unfold HT.sIx; cases lo <;> simp <;> omega, by unfold HT.sIx; cases hi <;> simp <;> omega⟩
  | _ => simp [slD] at h
def truD : D → Option Bool
  | .non => some false
  | .bl b => some b
  | .int i => some (i != 0)
  | .str x => if x.length ≤ lim then some ((x.length : Int) != 0) else none
  | .tup xs => some (!xs.isEmpty)
  | .lst xs => some (!xs.isEmpty)
  | .frl xs => some (!xs.isEmpty)
  | .dct kvs => some (!kvs.isEmpty)
  | _ => none
theorem reps_isEmpty {F : Hp} {ds : List D} {vs : List V} (r : Reps K T F ds vs) : vs.isEmpty = ds.isEmpty := by
  cases ds with
  | nil => rw [show vs = _ from r]; rfl
  | cons d ds => obtain ⟨v, ws, e1, _⟩ := r; rw [e1]; rfl
theorem repK_isEmpty {F : Hp} {ds : List (Key × D)} {vs : List (Key × V)} (r : RepK K T F ds vs) : vs.isEmpty = ds.isEmpty := by
  cases ds with
  | nil => rw [show vs = _ from r]; rfl
  | cons d ds => obtain ⟨k, d⟩ := d; obtain ⟨v, ws, e1, _⟩ := r; rw [e1]; rfl
theorem truvB {F H : Hp} {d : D} {v : V} {b : Bool} (h : truD d = some b) (e : Ex F H) (r : RepB K T F H d v) : TruV K v H b := by
  cases d with
  | non => rw [show v = _ from r]; cases h; rfl
  | bl b => rw [show v = _ from r]; cases h; rfl
  | int b => rw [show v = _ from r]; cases h; rfl
  | str b =>
    rw [show v = _ from r]
    simp only [truD] at h
    split at h
    · rename_i q
      cases h; exact ⟨le_line q, rfl⟩
    · cases h
  | tup xs => obtain ⟨a, vs, rfl, h1, r⟩ := r; cases h; exact .inr (.inl ⟨vs, e.sqT h1, by rw [reps_isEmpty r]⟩)
  | lst xs => obtain ⟨a, vs, rfl, h1, r⟩ := r; cases h; exact .inl ⟨vs, SqL.of h1, by rw [reps_isEmpty r]⟩
  | frl xs => obtain ⟨a, vs, rfl, h1, r⟩ := r; cases h; exact .inl ⟨vs, e.sqL h1, by rw [reps_isEmpty r]⟩
  | dct xs => obtain ⟨a, vs, rfl, h1, r⟩ := r; cases h; exact .inr (.inr ⟨vs, h1, by rw [repK_isEmpty r]⟩)
  | _ => simp [truD] at h
theorem truv {F H : Hp} {d : D} {v : V} {b : Bool} (h : truD d = some b) (e : Ex F H) (r : Rep K T F d v) : TruV K v H b := truvB h e (r.b e)
end
end VS
set_option maxHeartbeats 2000000
namespace VS
open PySem L2 PySem.Spec PyProof.Rows
section
variable {T : Txt} {X : Cx} {W : WX} {e a b c : Expr} {es : List Expr} {pos : Pos}
theorem op_core {r : R2} {f : D → D → Option D} {ga gb : Ev D} (hr : OpV X.K T r f) (ha : JE T X W a ga) (hb : JE T X W b gb) (ρ : VEnv) :
    ∃ ta tb, PE X a ta ∧ PE X b tb ∧ ∀ σ H Q, rdE X.K T W ρ (mOp f ga gb ρ) σ H Q → tOp r ta tb σ H Q := by
  have h1 := ha ρ
  unfold mOp
  cases q1 : ga ρ with
  | stuck => exact ⟨_, _, pe_no, pe_no, fun σ H Q h => h.elim⟩
  | ex c ds ρ1 =>
    rw [q1] at h1
    exact ⟨_, _, h1, pe_no, fun σ H Q ⟨F, Z, L, r, k⟩ => ⟨F, Z, L, r, k⟩⟩
  | ok x ρ1 =>
    rw [q1] at h1
    have h2 := hb ρ1
    cases q2 : gb ρ1 with
    | stuck => exact ⟨_, _, h1, pe_no, fun σ H Q h => by simp only [R.bind_ok, q2, R.bind_stuck] at h; exact h.elim⟩
    | ex c ds ρ2 =>
      rw [q2] at h2
      refine ⟨_, _, h1, h2, fun σ H Q h => ?_⟩
      simp only [R.bind_ok, q2, R.bind_ex] at h
      obtain ⟨F, Z, L, r, k⟩ := h
      exact ⟨F, Z, L, r, fun v F1 H1 e1 r1 p1 => ⟨F1, Z, L, r1, fun cls dd F2 H2 e2 r2 x2 => k cls dd F2 H2 (e1.trans e2) r2 x2⟩⟩
    | ok y ρ2 =>
      rw [q2] at h2
      refine ⟨_, _, h1, h2, fun σ H Q h => ?_⟩
      simp only [R.bind_ok, q2] at h
      cases q3 : f x y with
      | none => rw [q3] at h; exact h.elim
      | some z =>
        rw [q3] at h
        obtain ⟨F, Z, L, r, k⟩ := h
        exact ⟨F, Z, L, r, fun v F1 H1 e1 r1 p1 => ⟨F1, Z, L, r1, fun w F2 H2 e2 r2 p2 =>
          hr x y z q3 F2 H2 v w Q r2.exF (p1.mono e2) p2 fun u F3 H3 g p3 => k u F3 H3 ((e1.trans e2).trans g.1) (g.2 _ _ _ _ r2) p3⟩⟩
def asB (d : D) (ρ : VEnv) : R Bool := match d with
  | .bl b => .ok b ρ
  | _ => .stuck
def mTest (g : Ev D) : Ev Bool := fun ρ => (g ρ).bind asB
def mTruth (g : Ev D) : Ev Bool := fun ρ => (g ρ).bind fun d ρ' => R.of (truD d) ρ'
theorem rdT_test {K : PySem.W.Frag} {ρ : VEnv} {r : R D} {σ : L2.St} {H : Hp} {Q : Bool → Hp → Prop} (h : rdT K T W ρ (r.bind asB) σ H Q) : rdE K T W ρ r σ H (fun x H' => ∃ k, x = .bl k ∧ Q k H') := by
  cases r with
  | stuck => exact h
  | ex c ds ρ' => exact h
  | ok d ρ' =>
    cases d with
    | bl b => obtain ⟨F, Z, L, r, k⟩ := h; exact ⟨F, Z, L, r, fun v F' H' e r' p => ⟨b, p, k F' H' e r'⟩⟩
    | _ => exact h.elim
theorem je_op2 {r : R2} {f : D → D → Option D} {ga gb : Ev D} (rule : ∀ ta tb, PE X a ta → PE X b tb → PE X e (tOp r ta tb)) (hr : OpV X.K T r f) (ha : JE T X W a ga) (hb : JE T X W b gb) : JE T X W e (mOp f ga gb) := fun ρ => by
  obtain ⟨ta, tb, h1, h2, k⟩ := op_core hr ha hb ρ
  exact pe_weak (rule ta tb h1 h2) k
theorem jt_op2 {r : R2} {f : D → D → Option D} {ga gb : Ev D} (rule : ∀ ta tb, PE X a ta → PE X b tb → PT X e (tTest (tOp r ta tb))) (hr : OpV X.K T r f) (ha : JE T X W a ga) (hb : JE T X W b gb) : JT T X W e (mTest (mOp f ga gb)) := fun ρ => by
  obtain ⟨ta, tb, h1, h2, k⟩ := op_core hr ha hb ρ
  exact pt_weak (rule ta tb h1 h2) fun σ H Q h => k σ H _ (rdT_test h)
theorem je_add {ga gb : Ev D} (ha : JE T X W a ga) (hb : JE T X W b gb) : JE T X W (.BinOp a .Add b pos) (mOp addD ga gb) := je_op2 (fun _ _ h1 h2 => pe_op op_addA h1 h2) opv_add ha hb
theorem je_sub {ga gb : Ev D} (ha : JE T X W a ga) (hb : JE T X W b gb) : JE T X W (.BinOp a .Sub b pos) (mOp subD ga gb) := je_op2 (fun _ _ h1 h2 => pe_op op_sub h1 h2) opv_sub ha hb
theorem je_mod {ga gb : Ev D} (ha : JE T X W a ga) (hb : JE T X W b gb) : JE T X W (.BinOp a .Mod b pos) (mOp modD ga gb) := je_op2 (fun _ _ h1 h2 => pe_op op_mod h1 h2) opv_mod ha hb
theorem je_fdiv {ga gb : Ev D} (ha : JE T X W a ga) (hb : JE T X W b gb) : JE T X W (.BinOp a .FloorDiv b pos) (mOp fdivD ga gb) := je_op2 (fun _ _ h1 h2 => pe_op op_fdivW h1 h2) opv_fdiv ha hb
theorem je_pow {ga gb : Ev D} (ha : JE T X W a ga) (hb : JE T X W b gb) : JE T X W (.BinOp a .Pow b pos) (mOp powD ga gb) := je_op2 (fun _ _ h1 h2 => pe_op op_pow h1 h2) opv_pow ha hb
structure Cmp (X : Cx) (T : Txt) (op : CmpOp) (f : D → D → Option D) : Prop where
  ex : ∃ r, OpR X (compareOp op) r ∧ OpV X.K T r f
theorem cmp_lt : Cmp X T .Lt ltD := ⟨_, op_ltA, opv_lt⟩
theorem cmp_le : Cmp X T .LtE leD := ⟨_, op_leA, opv_le⟩
theorem cmp_gt : Cmp X T .Gt gtD := ⟨_, op_gtA, opv_gt⟩
theorem cmp_ge : Cmp X T .GtE geD := ⟨_, op_geA, opv_ge⟩
theorem cmp_eq {k : Nat} (hr : Room k X.A) : Cmp X T .Eq eqD := ⟨_, opr_or op_eq (op_eqD hr.units), opv_eq⟩
theorem cmp_ne {k : Nat} (hr : Room k X.A) : Cmp X T .NotEq neD := ⟨_, opr_or op_ne (op_neD hr.units), opv_ne⟩
theorem cmp_nin {k : Nat} (hr : Room k X.A) : Cmp X T .NotIn notInD := ⟨_, op_notInA (hu_of hr), opv_notIn⟩
theorem cmp_is : Cmp X T .Is isND := ⟨_, op_isN, opv_isN⟩
theorem je_cmp {op : CmpOp} {f : D → D → Option D} {ga gb : Ev D} (q : Cmp X T op f) (ha : JE T X W a ga) (hb : JE T X W b gb) (hm : behindInMarks op b = false := by first | exact nomark _ | rfl) : JE T X W (.Compare a [op] [b] pos) (mOp f ga gb) := by
  obtain ⟨r, h1, h2⟩ := q.ex
  exact je_op2 (fun _ _ p1 p2 => pe_cmpR h1 p1 p2 hm) h2 ha hb
theorem jt_cmp {op : CmpOp} {f : D → D → Option D} {ga gb : Ev D} (q : Cmp X T op f) (ha : JE T X W a ga) (hb : JE T X W b gb) (hm : behindInMarks op b = false := by first | exact nomark _ | rfl) : JT T X W (.Compare a [op] [b] pos) (mTest (mOp f ga gb)) := by
  obtain ⟨r, h1, h2⟩ := q.ex
  exact jt_op2 (fun _ _ p1 p2 => pt_cmpR h1 p1 p2 hm) h2 ha hb
def mChain (f f' : D → D → Option D) (ga gb gc : Ev D) : Ev D := fun ρ => (ga ρ).bind fun x ρ1 => (gb ρ1).bind fun y ρ2 => match f x y with
  | some (.bl true) => (gc ρ2).bind fun z ρ3 => R.of (f' y z) ρ3
  | some (.bl false) => .ok (.bl false) ρ2
  | _ => .stuck
theorem chain_core {r r' : R2} {f f' : D → D → Option D} {ga gb gc : Ev D} (hr : OpV X.K T r f) (hr' : OpV X.K T r' f') (ha : JE T X W a ga) (hb : JE T X W b gb) (hc : JE T X W c gc) (ρ : VEnv) :
    ∃ ta tb tc, PE X a ta ∧ PE X b tb ∧ PE X c tc ∧ ∀ σ H Q, rdE X.K T W ρ (mChain f f' ga gb gc ρ) σ H Q → tChain r r' ta tb tc σ H Q := by
  have h1 := ha ρ
  unfold mChain
  cases q1 : ga ρ with
  | stuck => exact ⟨_, _, _, pe_no, pe_no, pe_no, fun σ H Q h => h.elim⟩
  | ex c ds ρ1 =>
    rw [q1] at h1
    exact ⟨_, _, _, h1, pe_no, pe_no, fun σ H Q ⟨F, Z, L, r, k⟩ => ⟨F, Z, L, r, k⟩⟩
  | ok x ρ1 =>
    rw [q1] at h1
    have h2 := hb ρ1
    cases q2 : gb ρ1 with
    | stuck => exact ⟨_, _, _, h1, pe_no, pe_no, fun σ H Q h => by simp only [R.bind_ok, q2, R.bind_stuck] at h; exact h.elim⟩
    | ex c ds ρ2 =>
      rw [q2] at h2
      refine ⟨_, _, _, h1, h2, pe_no, fun σ H Q h => ?_⟩
      simp only [R.bind_ok, q2, R.bind_ex] at h
      obtain ⟨F, Z, L, r, k⟩ := h
      exact ⟨F, Z, L, r, fun v F1 H1 e1 r1 p1 => ⟨F1, Z, L, r1, fun cls dd F2 H2 e2 r2 x2 => k cls dd F2 H2 (e1.trans e2) r2 x2⟩⟩
    | ok y ρ2 =>
      rw [q2] at h2
      have h3 := hc ρ2
      simp only [R.bind_ok, q2]
      cases q3 : f x y with
      | none => exact ⟨_, _, _, h1, h2, pe_no, fun σ H Q h => h.elim⟩
      | some z =>
        cases z with
        | bl t =>
          cases t with
          | false =>
            refine ⟨_, _, _, h1, h2, pe_no, fun σ H Q ⟨F, Z, L, r, k⟩ => ?_⟩
            exact ⟨F, Z, L, r, fun v F1 H1 e1 r1 p1 => ⟨F1, Z, L, r1, fun w F2 H2 e2 r2 p2 =>
              hr x y _ q3 F2 H2 v w _ r2.exF (p1.mono e2) p2 fun u F3 H3 g p3 => ⟨false, p3, iteF (k _ F3 H3 ((e1.trans e2).trans g.1) (g.2 _ _ _ _ r2) rfl)⟩⟩⟩
          | true =>
            cases q4 : gc ρ2 with
            | stuck => exact ⟨_, _, _, h1, h2, pe_no, fun σ H Q h => by simp only [R.bind_stuck] at h; exact h.elim⟩
            | ex c ds ρ3 =>
              rw [q4] at h3
              refine ⟨_, _, _, h1, h2, h3, fun σ H Q ⟨F, Z, L, r, k⟩ => ?_⟩
              exact ⟨F, Z, L, r, fun v F1 H1 e1 r1 p1 => ⟨F1, Z, L, r1, fun w F2 H2 e2 r2 p2 =>
                hr x y _ q3 F2 H2 v w _ r2.exF (p1.mono e2) p2 fun u F3 H3 g p3 => ⟨true, p3, iteT ⟨F3, Z, L, g.2 _ _ _ _ r2, fun cls dd F4 H4 e4 r4 x4 => k cls dd F4 H4 (((e1.trans e2).trans g.1).trans e4) r4 x4⟩⟩⟩⟩
            | ok z ρ3 =>
              rw [q4] at h3
              cases q5 : f' y z with
              | none => exact ⟨_, _, _, h1, h2, h3, fun σ H Q h => by simp only [R.bind_ok, q5] at h; exact h.elim⟩
              | some u =>
                refine ⟨_, _, _, h1, h2, h3, fun σ H Q h => ?_⟩
                simp only [R.bind_ok, q5] at h
                obtain ⟨F, Z, L, r, k⟩ := h
                exact ⟨F, Z, L, r, fun v F1 H1 e1 r1 p1 => ⟨F1, Z, L, r1, fun w F2 H2 e2 r2 p2 =>
                  hr x y _ q3 F2 H2 v w _ r2.exF (p1.mono e2) p2 fun u F3 H3 g p3 => ⟨true, p3, iteT ⟨F3, Z, L, g.2 _ _ _ _ r2, fun w2 F4 H4 e4 r4 p4 =>
                    hr' y z _ q5 F4 H4 w w2 _ r4.exF ((p2.mono g.1).mono e4) p4 fun u5 F5 H5 g5 p5 => k u5 F5 H5 ((((e1.trans e2).trans g.1).trans e4).trans g5.1) (g5.2 _ _ _ _ r4) p5⟩⟩⟩⟩
        | _ => exact ⟨_, _, _, h1, h2, pe_no, fun σ H Q h => h.elim⟩
theorem je_chain {op op' : CmpOp} {f f' : D → D → Option D} {ga gb gc : Ev D} (q : Cmp X T op f) (q' : Cmp X T op' f') (ha : JE T X W a ga) (hb : JE T X W b gb) (hc : JE T X W c gc) (hm : lastMarks [op, op'] [b, c] = false := by rfl) :
    JE T X W (.Compare a [op, op'] [b, c] pos) (mChain f f' ga gb gc) := fun ρ => by
  obtain ⟨r, h1, h2⟩ := q.ex
  obtain ⟨r', h1', h2'⟩ := q'.ex
  obtain ⟨ta, tb, tc, p1, p2, p3, k⟩ := chain_core h2 h2' ha hb hc ρ
  exact pe_weak (pe_chain h1 h1' p1 p2 p3 hm) k
theorem jt_chain {op op' : CmpOp} {f f' : D → D → Option D} {ga gb gc : Ev D} (q : Cmp X T op f) (q' : Cmp X T op' f') (ha : JE T X W a ga) (hb : JE T X W b gb) (hc : JE T X W c gc) (hm : lastMarks [op, op'] [b, c] = false := by rfl) :
    JT T X W (.Compare a [op, op'] [b, c] pos) (mTest (mChain f f' ga gb gc)) := fun ρ => by
  obtain ⟨r, h1, h2⟩ := q.ex
  obtain ⟨r', h1', h2'⟩ := q'.ex
  obtain ⟨ta, tb, tc, p1, p2, p3, k⟩ := chain_core h2 h2' ha hb hc ρ
  exact pt_weak (pt_chain h1 h1' p1 p2 p3 hm) fun σ H Q h => k σ H _ (rdT_test h)
theorem jt_truth {g : Ev D} (h : JE T X W e g) (he : ∀ whole, isTrue e X.env whole = (do let v ← whole; standAt e.pos; holding [v] (truthy v)) := by intro _; rfl) : JT T X W e (mTruth g) := fun ρ => by
  have h1 := h ρ
  unfold mTruth
  refine pt_weak (pt_truth h1 he) fun σ H Q q => ?_
  cases q1 : g ρ with
  | stuck => rw [q1] at q; exact q.elim
  | ex c ds ρ1 => rw [q1] at q; exact q
  | ok d ρ1 =>
    rw [q1] at q
    cases q2 : truD d with
    | none => simp only [R.bind_ok, q2] at q; exact q.elim
    | some b =>
      simp only [R.bind_ok, q2] at q
      obtain ⟨F, Z, L, r, k⟩ := q
      exact ⟨F, Z, L, r, fun v F' H' e r' p => ⟨b, truv q2 r'.exF p, k F' H' e r'⟩⟩
def mAnd (g h : Ev Bool) : Ev Bool := fun ρ => (g ρ).bind fun b ρ' => if b = true then h ρ' else .ok false ρ'
def mOr (g h : Ev Bool) : Ev Bool := fun ρ => (g ρ).bind fun b ρ' => if b = true then .ok true ρ' else h ρ'
def mNot (g : Ev Bool) : Ev Bool := fun ρ => (g ρ).bind fun b ρ' => .ok (!b) ρ'
variable {rest : List Expr}
theorem jt_of_jw {g : Ev Bool} (h : JW T X W e g) : JT T X W e g := fun ρ => (h ρ).pt
theorem jw_and1 {g : Ev Bool} (h : JT T X W a g) : JW T X W (.BoolOp .And [a] pos) g := fun ρ => pw_and1 (h ρ)
theorem jw_or1 {g : Ev Bool} (h : JT T X W a g) : JW T X W (.BoolOp .Or [a] pos) g := fun ρ => pw_or1 (h ρ)
theorem jw_and {g h : Ev Bool} (h1 : JT T X W a g) (h2 : JW T X W (.BoolOp .And (b :: rest) pos) h) : JW T X W (.BoolOp .And (a :: b :: rest) pos) (mAnd g h) := fun ρ => by
  have p1 := h1 ρ
  unfold mAnd
  cases q1 : g ρ with
  | stuck => exact pw_no
  | ex c ds ρ1 => rw [q1] at p1; exact pw_weak (pw_and p1 pw_no) fun σ H Q q => q
  | ok t ρ1 =>
    rw [q1] at p1
    cases t with
    | false => exact pw_weak (pw_and p1 pw_no) fun σ H Q ⟨F, Z, L, r, k⟩ => ⟨F, Z, L, r, fun F' H' e r' => iteF (k F' H' e r')⟩
    | true =>
      have p2 := h2 ρ1
      refine pw_weak (pw_and p1 p2) fun σ H Q q => ?_
      simp only [R.bind_ok, if_true] at q
      cases q2 : h ρ1 with
      | stuck => rw [q2] at q; exact q.elim
      | ex c ds ρ2 =>
        rw [q2] at q
        obtain ⟨F, Z, L, r, k⟩ := q
        exact ⟨F, Z, L, r, fun F1 H1 e1 r1 => iteT ⟨F1, Z, L, r1, fun cls dd F2 H2 e2 r2 x2 => k cls dd F2 H2 (e1.trans e2) r2 x2⟩⟩
      | ok u ρ2 =>
        rw [q2] at q
        obtain ⟨F, Z, L, r, k⟩ := q
        exact ⟨F, Z, L, r, fun F1 H1 e1 r1 => iteT ⟨F1, Z, L, r1, fun F2 H2 e2 r2 => k F2 H2 (e1.trans e2) r2⟩⟩
theorem jw_or {g h : Ev Bool} (h1 : JT T X W a g) (h2 : JW T X W (.BoolOp .Or (b :: rest) pos) h) : JW T X W (.BoolOp .Or (a :: b :: rest) pos) (mOr g h) := fun ρ => by
  have p1 := h1 ρ
  unfold mOr
  cases q1 : g ρ with
  | stuck => exact pw_no
  | ex c ds ρ1 => rw [q1] at p1; exact pw_weak (pw_or p1 pw_no) fun σ H Q q => q
  | ok t ρ1 =>
    rw [q1] at p1
    cases t with
    | true => exact pw_weak (pw_or p1 pw_no) fun σ H Q ⟨F, Z, L, r, k⟩ => ⟨F, Z, L, r, fun F' H' e r' => iteT (k F' H' e r')⟩
    | false =>
      have p2 := h2 ρ1
      refine pw_weak (pw_or p1 p2) fun σ H Q q => ?_
      simp only [R.bind_ok, Bool.false_eq_true, if_false] at q
      cases q2 : h ρ1 with
      | stuck => rw [q2] at q; exact q.elim
      | ex c ds ρ2 =>
        rw [q2] at q
        obtain ⟨F, Z, L, r, k⟩ := q
        exact ⟨F, Z, L, r, fun F1 H1 e1 r1 => iteF ⟨F1, Z, L, r1, fun cls dd F2 H2 e2 r2 x2 => k cls dd F2 H2 (e1.trans e2) r2 x2⟩⟩
      | ok u ρ2 =>
        rw [q2] at q
        obtain ⟨F, Z, L, r, k⟩ := q
        exact ⟨F, Z, L, r, fun F1 H1 e1 r1 => iteF ⟨F1, Z, L, r1, fun F2 H2 e2 r2 => k F2 H2 (e1.trans e2) r2⟩⟩
theorem jt_not {g : Ev Bool} (h : JT T X W a g) : JT T X W (.UnaryOp .Not a pos) (mNot g) := fun ρ => by
  refine pt_weak (pt_not (h ρ)) fun σ H Q q => ?_
  unfold mNot at q
  cases q1 : g ρ with
  | stuck => rw [q1] at q; exact q.elim
  | ex c ds ρ1 => rw [q1] at q; exact q
  | ok t ρ1 => rw [q1] at q; exact q
def mAndV (g h : Ev D) : Ev D := fun ρ => (g ρ).bind fun d ρ' => match truD d with
  | some true => h ρ'
  | some false => .ok d ρ'
  | none => .stuck
def mOrV (g h : Ev D) : Ev D := fun ρ => (g ρ).bind fun d ρ' => match truD d with
  | some true => .ok d ρ'
  | some false => h ρ'
  | none => .stuck
def mNotV (g : Ev D) : Ev D := fun ρ => (g ρ).bind fun d ρ' => R.of ((truD d).map fun b => .bl (!b)) ρ'
theorem je_one {op : BoolOp} {g : Ev D} (h : JE T X W a g) : JE T X W (.BoolOp op [a] pos) g := fun ρ => pe_one (h ρ)
theorem rd_then {K : PySem.W.Frag} {ρ ρ1 : VEnv} {d : D} {r2 : R D} {σ : L2.St} {H : Hp} {Q : VK} {C : V → Hp → Prop}
    (q : rdE K T W ρ r2 σ H Q) (hc : ∀ v F' H', Ex F' H' → Rep K T F' d v → rdE K T W ρ1 r2 σ H' Q → C v H') (ne : r2 ≠ .stuck) : rdE K T W ρ (.ok d ρ1) σ H C := by
  cases r2 with
  | stuck => exact absurd rfl ne
  | ex c ds ρ2 =>
    obtain ⟨F, Z, L, r, k⟩ := q
    exact ⟨F, Z, L, r, fun v F1 H1 e1 r1 p1 => hc v F1 H1 r1.exF p1 ⟨F1, Z, L, r1, fun cls dd F2 H2 e2 r2 x2 => k cls dd F2 H2 (e1.trans e2) r2 x2⟩⟩
  | ok u ρ2 =>
    obtain ⟨F, Z, L, r, k⟩ := q
    exact ⟨F, Z, L, r, fun v F1 H1 e1 r1 p1 => hc v F1 H1 r1.exF p1 ⟨F1, Z, L, r1, fun w F2 H2 e2 r2 p2 => k w F2 H2 (e1.trans e2) r2 p2⟩⟩
theorem je_and {g h : Ev D} (h1 : JE T X W a g) (h2 : JE T X W (.BoolOp .And (b :: rest) pos) h) : JE T X W (.BoolOp .And (a :: b :: rest) pos) (mAndV g h) := fun ρ => by
  have p1 := h1 ρ
  unfold mAndV
  cases q1 : g ρ with
  | stuck => exact pe_no
  | ex c ds ρ1 => rw [q1] at p1; exact pe_weak (pe_andT p1 pe_no) fun σ H Q q => q
  | ok d ρ1 =>
    rw [q1] at p1
    have p2 := h2 ρ1
    simp only [R.bind_ok]
    cases q2 : truD d with
    | none => exact pe_no
    | some t =>
      cases t with
      | false => exact pe_weak (pe_andT p1 pe_no) fun σ H Q ⟨F, Z, L, r, k⟩ => ⟨F, Z, L, r, fun v F' H' e r' p => ⟨false, truv q2 r'.exF p, iteF (k v F' H' e r' p)⟩⟩
      | true =>
        by_cases ne : h ρ1 = .stuck
        · simp only [ne]; exact pe_no
        · exact pe_weak (pe_andT p1 p2) fun σ H Q q => rd_then q (fun v F' H' e p q' => ⟨true, truv q2 e p, iteT q'⟩) ne
theorem je_or {g h : Ev D} (h1 : JE T X W a g) (h2 : JE T X W (.BoolOp .Or (b :: rest) pos) h) : JE T X W (.BoolOp .Or (a :: b :: rest) pos) (mOrV g h) := fun ρ => by
  have p1 := h1 ρ
  unfold mOrV
  cases q1 : g ρ with
  | stuck => exact pe_no
  | ex c ds ρ1 => rw [q1] at p1; exact pe_weak (pe_orT p1 pe_no) fun σ H Q q => q
  | ok d ρ1 =>
    rw [q1] at p1
    have p2 := h2 ρ1
    simp only [R.bind_ok]
    cases q2 : truD d with
    | none => exact pe_no
    | some t =>
      cases t with
      | true => exact pe_weak (pe_orT p1 pe_no) fun σ H Q ⟨F, Z, L, r, k⟩ => ⟨F, Z, L, r, fun v F' H' e r' p => ⟨true, truv q2 r'.exF p, iteT (k v F' H' e r' p)⟩⟩
      | false =>
        by_cases ne : h ρ1 = .stuck
        · simp only [ne]; exact pe_no
        · exact pe_weak (pe_orT p1 p2) fun σ H Q q => rd_then q (fun v F' H' e p q' => ⟨false, truv q2 e p, iteF q'⟩) ne
theorem je_not {g : Ev D} (h : JE T X W a g) : JE T X W (.UnaryOp .Not a pos) (mNotV g) := fun ρ => by
  refine pe_weak (pe_notT (h ρ)) fun σ H Q q => ?_
  unfold mNotV at q
  cases q1 : g ρ with
  | stuck => rw [q1] at q; exact q.elim
  | ex c ds ρ1 => rw [q1] at q; exact q
  | ok d ρ1 =>
    rw [q1] at q
    simp only [R.bind_ok] at q
    cases q2 : truD d with
    | none => rw [q2] at q; exact q.elim
    | some t =>
      rw [q2] at q
      obtain ⟨F, Z, L, r, k⟩ := q
      exact ⟨F, Z, L, r, fun v F' H' e r' p => ⟨t, truv q2 r'.exF p, k _ F' H' e r' rfl⟩⟩
def mIf (t : Ev Bool) (g h : Ev D) : Ev D := fun ρ => (t ρ).bind fun b ρ' => if b = true then g ρ' else h ρ'
theorem rdT_then {K : PySem.W.Frag} {ρ ρ1 : VEnv} {t : Bool} {r2 : R D} {σ : L2.St} {H : Hp} {Q : VK} {C : Bool → Hp → Prop}
    (q : rdE K T W ρ r2 σ H Q) (hc : ∀ H', rdE K T W ρ1 r2 σ H' Q → C t H') (ne : r2 ≠ .stuck) : rdT K T W ρ (.ok t ρ1) σ H C := by
  cases r2 with
  | stuck => exact absurd rfl ne
  | ex c ds ρ2 =>
    obtain ⟨F, Z, L, r, k⟩ := q
    exact ⟨F, Z, L, r, fun F1 H1 e1 r1 => hc H1 ⟨F1, Z, L, r1, fun cls dd F2 H2 e2 r2 x2 => k cls dd F2 H2 (e1.trans e2) r2 x2⟩⟩
  | ok u ρ2 =>
    obtain ⟨F, Z, L, r, k⟩ := q
    exact ⟨F, Z, L, r, fun F1 H1 e1 r1 => hc H1 ⟨F1, Z, L, r1, fun w F2 H2 e2 r2 p2 => k w F2 H2 (e1.trans e2) r2 p2⟩⟩
theorem je_if {t : Ev Bool} {g h : Ev D} (hc : JT T X W c t) (ha : JE T X W a g) (hb : JE T X W b h) : JE T X W (.IfExp c a b pos) (mIf t g h) := fun ρ => by
  have p1 := hc ρ
  unfold mIf
  cases q1 : t ρ with
  | stuck => exact pe_no
  | ex c ds ρ1 => rw [q1] at p1; exact pe_weak (pe_ifExp p1 pe_no pe_no) fun σ H Q q => q
  | ok d ρ1 =>
    rw [q1] at p1
    have p2 := ha ρ1
    have p3 := hb ρ1
    simp only [R.bind_ok]
    cases d with
    | true =>
      rw [if_pos rfl]
      by_cases ne : g ρ1 = .stuck
      · simp only [ne]; exact pe_no
      · exact pe_weak (pe_ifExp p1 p2 p3) fun σ H Q q => rdT_then q (fun H' q' => iteT q') ne
    | false =>
      rw [if_neg Bool.false_ne_true]
      by_cases ne : h ρ1 = .stuck
      · simp only [ne]; exact pe_no
      · exact pe_weak (pe_ifExp p1 p2 p3) fun σ H Q q => rdT_then q (fun H' q' => iteF q') ne
def mNil : Ev (List D) := fun ρ => .ok [] ρ
def mCons (g : Ev D) (h : Ev (List D)) : Ev (List D) := fun ρ => (g ρ).bind fun d ρ1 => (h ρ1).bind fun ds ρ2 => .ok (d :: ds) ρ2
theorem ja_nil : JA T X W [] mNil := fun ρ => pa_weak pa_nil fun σ H Q ⟨F, Z, L, r, k⟩ => k [] F H (Ex.refl F) r rfl
theorem ja_cons {g : Ev D} {h : Ev (List D)} (h1 : JE T X W e g) (h2 : JA T X W es h) (hs : starEach (e :: es) X.env = (false, eval e X.env) :: starEach es X.env := by rfl) : JA T X W (e :: es) (mCons g h) := fun ρ => by
  have p1 := h1 ρ
  unfold mCons
  cases q1 : g ρ with
  | stuck => exact pa_no
  | ex c ds ρ1 => rw [q1] at p1; exact pa_weak (pa_cons p1 pa_no hs) fun σ H Q q => q
  | ok d ρ1 =>
    rw [q1] at p1
    have p2 := h2 ρ1
    simp only [R.bind_ok]
    cases q2 : h ρ1 with
    | stuck => exact pa_no
    | ex c ds ρ2 =>
      rw [q2] at p2
      exact pa_weak (pa_cons p1 p2 hs) fun σ H Q ⟨F, Z, L, r, k⟩ => ⟨F, Z, L, r, fun v F1 H1 e1 r1 _ => ⟨F1, Z, L, r1, fun cls dd F2 H2 e2 r2 x2 => k cls dd F2 H2 (e1.trans e2) r2 x2⟩⟩
    | ok ds ρ2 =>
      rw [q2] at p2
      exact pa_weak (pa_cons p1 p2 hs) fun σ H Q ⟨F, Z, L, r, k⟩ => ⟨F, Z, L, r, fun v F1 H1 e1 r1 x1 => ⟨F1, Z, L, r1, fun vs F2 H2 e2 r2 x2 => k _ F2 H2 (e1.trans e2) r2 ⟨v, vs, rfl, x1.mono e2, x2⟩⟩⟩
def mTup (g : Ev (List D)) : Ev D := fun ρ => (g ρ).bind fun ds ρ' => if ds.length ≤ lim then .ok (.tup ds) ρ' else .stuck
def mLst (g : Ev (List D)) : Ev D := fun ρ => (g ρ).bind fun ds ρ' => if ds.length ≤ lim then .ok (.lst ds) ρ' else .stuck
theorem je_tup {n : Nat} {g : Ev (List D)} (h : JA T X W es g) : JE T X W (.Tuple es n pos) (mTup g) := fun ρ => by
  have p1 := h ρ
  unfold mTup
  cases q1 : g ρ with
  | stuck => exact pe_no
  | ex c ds ρ1 => rw [q1] at p1; exact pe_weak (pe_tup p1) fun σ H Q q => q
  | ok ds ρ1 =>
    rw [q1] at p1
    simp only [R.bind_ok]
    split
    · rename_i hz
      refine pe_weak (pe_tup p1) fun σ H Q ⟨F, Z, L, r, k⟩ => ⟨F, Z, L, r, fun vs F1 H1 e1 r1 x1 => ⟨by rw [x1.length]; exact le_line hz, fun p hp => ?_⟩⟩
      have g := Grow.new (K := X.K) (T := T) (o := HO.tup vs) r1.exF hp
      exact k _ _ _ (e1.trans g.1) (g.2 _ _ _ _ r1) ⟨p, vs, rfl, SqX.of upd_same, x1.mono g.1⟩
    · exact pe_no
theorem je_lst {g : Ev (List D)} (h : JA T X W es g) : JE T X W (.List es pos) (mLst g) := fun ρ => by
  have p1 := h ρ
  unfold mLst
  cases q1 : g ρ with
  | stuck => exact pe_no
  | ex c ds ρ1 => rw [q1] at p1; exact pe_weak (pe_lst p1) fun σ H Q q => q
  | ok ds ρ1 =>
    rw [q1] at p1
    simp only [R.bind_ok]
    split
    · rename_i hz
      refine pe_weak (pe_lst p1) fun σ H Q ⟨F, Z, L, r, k⟩ => ⟨F, Z, L, r, fun vs F1 H1 e1 r1 x1 => ⟨by rw [x1.length]; exact le_line hz, fun p hp => ?_⟩⟩
      have g := Grow.new (K := X.K) (T := T) (o := HO.lst vs) r1.exF hp
      exact k _ _ _ (e1.trans g.1) (g.2 _ _ _ _ r1) ⟨p, vs, rfl, upd_same, x1.mono g.1⟩
    · exact pe_no
theorem je_ix {k : Nat} (hr : Room k X.A) {ga gb : Ev D} (ha : JE T X W a ga) (hb : JE T X W b gb) (hs : PlainIx b := by exact fun _ _ => rfl) : JE T X W (.Subscript a b pos) (mOp ixD ga gb) := je_op2 (fun _ _ p1 p2 => pe_ix (ix_any (hu_of hr)) p1 p2 hs) opv_ix ha hb
def CallV (K : PySem.W.Frag) (T : Txt) (r : List V → Hp → VK → Prop) (f : List D → Option D) : Prop := ∀ ds z, f ds = some z → ∀ F H vs Q, Ex F H → Reps K T F ds vs →
  (∀ u F' H', Grow K T F H F' H' → Rep K T F' z u → Q u H') → r vs H Q
def mCall (f : List D → Option D) (g : Ev (List D)) : Ev D := fun ρ => (g ρ).bind fun ds ρ' => R.of (f ds) ρ'
theorem je_callR {r : List V → Hp → VK → Prop} {f : List D → Option D} {g : Ev (List D)} (rule : ∀ ta, PA X es ta → PE X e (tCB r ta)) (hr : CallV X.K T r f) (ha : JA T X W es g) : JE T X W e (mCall f g) := fun ρ => by
  have p1 := ha ρ
  unfold mCall
  cases q1 : g ρ with
  | stuck => exact pe_no
  | ex c ds ρ1 => rw [q1] at p1; exact pe_weak (rule _ p1) fun σ H Q q => q
  | ok ds ρ1 =>
    rw [q1] at p1
    simp only [R.bind_ok]
    cases q2 : f ds with
    | none => exact pe_no
    | some z => exact pe_weak (rule _ p1) fun σ H Q ⟨F, Z, L, r, k⟩ => ⟨F, Z, L, r, fun vs F1 H1 e1 r1 x1 => hr ds z q2 F1 H1 vs Q r1.exF x1 fun u F2 H2 g x2 => k u F2 H2 (e1.trans g.1) (g.2 _ _ _ _ r1) x2⟩
end
end VS
set_option maxHeartbeats 2000000
namespace VS
open PySem L2 PySem.Spec PyProof.Rows
def rdB (K : PySem.W.Frag) (T : Txt) (W : WX) (ρ : VEnv) : R D → TE
  | .stuck => fun _ _ _ => False
  | .ok d ρ' => fun σ H Q => ∃ F Z L, Rel K T F Z L σ ρ H ∧ ∀ v F' H', Ex F F' → Rel K T F' Z L σ ρ' H' → RepB K T F' H' d v → Q v H'
  | .ex c ds ρ' => fun σ H _ => ∃ F Z L, Rel K T F Z L σ ρ H ∧ ∀ cls dd F' H', Ex F F' → Rel K T F' Z L σ ρ' H' → ExR K T F' cls dd c ds → W cls dd σ H'
def JB (T : Txt) (X : Cx) (W : WX) (e : Expr) (g : Ev D) : Prop := ∀ ρ, PE X e (rdB X.K T W ρ (g ρ))
def mOwn (i : Nat) : Ev D := fun ρ => match ρ[i]? with
  | some (some (Sl.own _ m)) => .ok m.frz ρ
  | _ => .stuck
section
variable {T : Txt} {X : Cx} {W : WX} {e a b c : Expr} {es : List Expr} {pos p : Pos} {K : PySem.W.Frag}
theorem jb_of {g : Ev D} (h : JE T X W e g) : JB T X W e g := fun ρ => by
  refine pe_weak (h ρ) fun σ H Q q => ?_
  cases q1 : g ρ with
  | stuck => rw [q1] at q; exact q.elim
  | ex c ds ρ1 => rw [q1] at q; exact q
  | ok d ρ1 =>
    rw [q1] at q
    obtain ⟨F, Z, L, r, k⟩ := q
    exact ⟨F, Z, L, r, fun v F' H' e r' p => k v F' H' e r' (p.b r'.exF)⟩
theorem jb_own {i : Nat} (h : PE X e (tVar i)) : JB T X W e (mOwn i) := fun ρ => by
  unfold mOwn
  split
  · rename_i l m q
    refine pe_weak h fun σ H Q ⟨F, Z, L, r, k⟩ => ?_
    obtain ⟨a, o, h1, h2, h3, h4, h5⟩ := r.own i l m q
    exact ⟨_, h1, k _ F H (Ex.refl F) r (h5.b h4)⟩
  · exact pe_no
theorem opR_core {r : R2} {f : D → D → Option D} {ga gb : Ev D} (hr : OpVR X.K T r f) (ha : JE T X W a ga) (hb : JB T X W b gb) (ρ : VEnv) :
    ∃ ta tb, PE X a ta ∧ PE X b tb ∧ ∀ σ H Q, rdE X.K T W ρ (mOp f ga gb ρ) σ H Q → tOp r ta tb σ H Q := by
  have h1 := ha ρ
  unfold mOp
  cases q1 : ga ρ with
  | stuck => exact ⟨_, _, pe_no, pe_no, fun σ H Q h => h.elim⟩
  | ex c ds ρ1 =>
    rw [q1] at h1
    exact ⟨_, _, h1, pe_no, fun σ H Q ⟨F, Z, L, r, k⟩ => ⟨F, Z, L, r, k⟩⟩
  | ok x ρ1 =>
    rw [q1] at h1
    have h2 := hb ρ1
    cases q2 : gb ρ1 with
    | stuck => exact ⟨_, _, h1, pe_no, fun σ H Q h => by simp only [R.bind_ok, q2, R.bind_stuck] at h; exact h.elim⟩
    | ex c ds ρ2 =>
      rw [q2] at h2
      refine ⟨_, _, h1, h2, fun σ H Q h => ?_⟩
      simp only [R.bind_ok, q2, R.bind_ex] at h
      obtain ⟨F, Z, L, r, k⟩ := h
      exact ⟨F, Z, L, r, fun v F1 H1 e1 r1 p1 => ⟨F1, Z, L, r1, fun cls dd F2 H2 e2 r2 x2 => k cls dd F2 H2 (e1.trans e2) r2 x2⟩⟩
    | ok y ρ2 =>
      rw [q2] at h2
      refine ⟨_, _, h1, h2, fun σ H Q h => ?_⟩
      simp only [R.bind_ok, q2] at h
      cases q3 : f x y with
      | none => rw [q3] at h; exact h.elim
      | some z =>
        rw [q3] at h
        obtain ⟨F, Z, L, r, k⟩ := h
        exact ⟨F, Z, L, r, fun v F1 H1 e1 r1 p1 => ⟨F1, Z, L, r1, fun w F2 H2 e2 r2 p2 =>
          hr x y z q3 F2 H2 v w Q r2.exF (p1.mono e2) p2 fun u F3 H3 g p3 => k u F3 H3 ((e1.trans e2).trans g.1) (g.2 _ _ _ _ r2) p3⟩⟩
theorem je_inO {k : Nat} (hr : Room k X.A) {ga gb : Ev D} (ha : JE T X W a ga) (hb : JB T X W b gb) (hm : behindInMarks .In b = false := by rfl) : JE T X W (.Compare a [.In] [b] pos) (mOp inD ga gb) := fun ρ => by
  obtain ⟨ta, tb, h1, h2, k⟩ := opR_core opv_inR ha hb ρ
  exact pe_weak (pe_cmpR (op_inA (hu_of hr)) h1 h2 hm) k
theorem jt_inO {k : Nat} (hr : Room k X.A) {ga gb : Ev D} (ha : JE T X W a ga) (hb : JB T X W b gb) (hm : behindInMarks .In b = false := by rfl) : JT T X W (.Compare a [.In] [b] pos) (mTest (mOp inD ga gb)) := fun ρ => by
  obtain ⟨ta, tb, h1, h2, k⟩ := opR_core opv_inR ha hb ρ
  exact pt_weak (pt_cmpR (op_inA (hu_of hr)) h1 h2 hm) fun σ H Q h => k σ H _ (rdT_test h)
theorem jt_ninO {k : Nat} (hr : Room k X.A) {ga gb : Ev D} (ha : JE T X W a ga) (hb : JB T X W b gb) (hm : behindInMarks .NotIn b = false := by rfl) : JT T X W (.Compare a [.NotIn] [b] pos) (mTest (mOp notInD ga gb)) := fun ρ => by
  obtain ⟨ta, tb, h1, h2, k⟩ := opR_core opv_notInR ha hb ρ
  exact pt_weak (pt_cmpR (op_notInA (hu_of hr)) h1 h2 hm) fun σ H Q h => k σ H _ (rdT_test h)
def mOpO (f : D → D → Option D) (i : Nat) (gb : Ev D) : Ev D := fun ρ => match ρ[i]? with
  | some (some (Sl.own _ _)) => (gb ρ).bind fun y ρ2 => (mOwn i ρ2).bind fun x ρ3 => R.of (f x y) ρ3
  | _ => .stuck
theorem je_opO {i : Nat} {r : R2} {f : D → D → Option D} {gb : Ev D} (rule : ∀ ta tb, PE X a ta → PE X b tb → PE X e (tOp r ta tb)) (hr : OpVL X.K T r f) (ha : PE X a (tVar i)) (hb : JE T X W b gb) : JE T X W e (mOpO f i gb) := fun ρ => by
  have h2 := hb ρ
  unfold mOpO
  split
  · rename_i l0 m0 q0
    cases q2 : gb ρ with
    | stuck => exact pe_no
    | ex c ds ρ2 =>
      rw [q2] at h2
      refine pe_weak (rule _ _ ha h2) fun σ H Q ⟨F, Z, L, r, k⟩ => ?_
      obtain ⟨a0, o0, g1, _⟩ := r.own i l0 m0 q0
      exact ⟨_, g1, ⟨F, Z, L, r, k⟩⟩
    | ok y ρ2 =>
      rw [q2] at h2
      simp only [R.bind_ok]
      unfold mOwn
      split
      · rename_i l m q
        simp only [R.bind_ok]
        cases q3 : f m.frz y with
        | none => exact pe_no
        | some z =>
          refine pe_weak (rule _ _ ha h2) fun σ H Q ⟨F, Z, L, r, k⟩ => ?_
          obtain ⟨a0, o0, g1, _⟩ := r.own i l0 m0 q0
          refine ⟨_, g1, ⟨F, Z, L, r, fun w F2 H2 e2 r2 p2 => ?_⟩⟩
          obtain ⟨a1, o1, g2, g3, g4, g5, g6⟩ := r2.own i l m q
          have ea : a0 = a1 := by rw [g1] at g2; cases g2; rfl
          subst ea
          exact hr _ y z q3 F2 H2 _ w Q r2.exF (g6.b g5) p2 fun u F3 H3 g p3 => k u F3 H3 (e2.trans g.1) (g.2 _ _ _ _ r2) p3
      · exact pe_no
  · exact pe_no
theorem je_ixO {k i : Nat} (hr : Room k X.A) {gb : Ev D} (ha : PE X a (tVar i)) (hb : JE T X W b gb) (hs : PlainIx b := by exact fun _ _ => rfl) : JE T X W (.Subscript a b pos) (mOpO ixD i gb) := je_opO (fun _ _ p1 p2 => pe_ix (ix_any (hu_of hr)) p1 p2 hs) opv_ixL ha hb
def CallV1 (K : PySem.W.Frag) (T : Txt) (r : List V → Hp → VK → Prop) (f : D → Option D) : Prop := ∀ d z, f d = some z → ∀ F H v Q, Ex F H → RepB K T F H d v →
  (∀ u F' H', Grow K T F H F' H' → Rep K T F' z u → Q u H') → r [v] H Q
def mCall1 (f : D → Option D) (g : Ev D) : Ev D := fun ρ => (g ρ).bind fun d ρ' => R.of (f d) ρ'
theorem je_call1 {r : List V → Hp → VK → Prop} {f : D → Option D} {g : Ev D} (rule : ∀ ta, PA X [a] ta → PE X e (tCB r ta)) (hr : CallV1 X.K T r f) (ha : JB T X W a g) (hs : starEach [a] X.env = (false, eval a X.env) :: starEach [] X.env := by rfl) : JE T X W e (mCall1 f g) := fun ρ => by
  have p1 := ha ρ
  unfold mCall1
  cases q1 : g ρ with
  | stuck => exact pe_no
  | ex c ds ρ1 => rw [q1] at p1; exact pe_weak (rule _ (pa_cons p1 pa_nil hs)) fun σ H Q q => q
  | ok d ρ1 =>
    rw [q1] at p1
    simp only [R.bind_ok]
    cases q2 : f d with
    | none => exact pe_no
    | some z => exact pe_weak (rule _ (pa_cons p1 pa_nil hs)) fun σ H Q ⟨F, Z, L, r, k⟩ => ⟨F, Z, L, r, fun v F1 H1 e1 r1 x1 => hr d z q2 F1 H1 v Q r1.exF x1 fun u F2 H2 g x2 => k u F2 H2 (e1.trans g.1) (g.2 _ _ _ _ r1) x2⟩
theorem callr_or {f : Value} {r r' : List V → Hp → VK → Prop} (h : CallR X f r) (h' : CallR X f r') : CallR X f (fun xs H Q => r xs H Q ∨ r' xs H Q) := by
  intro pins s σ H xs us Q I rs q
  rcases q with q | q
  · exact h pins s σ H xs us Q I rs q
  · exact h' pins s σ H xs us Q I rs q
def lenD : D → Option D
  | .str x => if x.length ≤ lim then some (.int x.length) else none
  | .tup xs => some (.int xs.length)
  | .lst xs => some (.int xs.length)
  | .frl xs => some (.int xs.length)
  | .dct kvs => some (.int kvs.length)
  | .fru xs => some (.int xs.length)
  | _ => none
def rLenA (K : PySem.W.Frag) : List V → Hp → VK → Prop := fun xs H Q => (∃ x n, xs = [x] ∧ LenV K x H n ∧ Q (.int n) H) ∨ (∃ a kvs, xs = [V.ref a] ∧ H a = some (.dK kvs) ∧ Q (.int kvs.length) H)
theorem call_lenA : CallR X (.builtin "len") (rLenA X.K) := callr_or call_len call_lenD
theorem RepK.length {F : Hp} : ∀ {ds : List (Key × D)} {vs : List (Key × V)}, RepK K T F ds vs → vs.length = ds.length
  | [], _, h => by rw [show _ = ([] : List (Key × V)) from h]; rfl
  | (k, d) :: ds, _, ⟨v, ws, e1, h, r⟩ => by rw [e1]; simp [RepK.length r]
theorem callv_len : CallV1 K T (rLenA K) lenD := by
  intro d z h F H v Q e r k
  cases d with
  | str x =>
    obtain rfl : v = _ := r
    simp only [lenD] at h
    split at h
    · rename_i q; cases h; exact .inl ⟨_, _, rfl, ⟨le_line q, rfl⟩, k _ F H .refl rfl⟩
    · cases h
  | tup xs => obtain ⟨a, vs, rfl, h1, r⟩ := r; cases h; exact .inl ⟨_, _, rfl, .inr ⟨vs, e.sqT h1, rfl⟩, k _ F H .refl (by rw [r.length]; rfl)⟩
  | lst xs => obtain ⟨a, vs, rfl, h1, r⟩ := r; cases h; exact .inl ⟨_, _, rfl, .inl ⟨vs, SqL.of h1, rfl⟩, k _ F H .refl (by rw [r.length]; rfl)⟩
  | frl xs => obtain ⟨a, vs, rfl, h1, r⟩ := r; cases h; exact .inl ⟨_, _, rfl, .inl ⟨vs, e.sqL h1, rfl⟩, k _ F H .refl (by rw [r.length]; rfl)⟩
  | dct xs => obtain ⟨a, vs, rfl, h1, r⟩ := r; cases h; exact .inr ⟨_, _, rfl, h1, k _ F H .refl (by rw [r.length]; rfl)⟩
  | fru xs => obtain ⟨a, vs, rfl, h1, r⟩ := r; cases h; exact .inl ⟨_, _, rfl, .inr ⟨vs, e.sqT h1, rfl⟩, k _ F H .refl (by rw [r.length]; rfl)⟩
  | _ => simp [lenD] at h
def absD : D → Option D
  | .int i => some (.int (if i < 0 then -i else i))
  | _ => none
theorem callv_abs : CallV1 K T (fun xs H Q => ∃ i, xs = [.int i] ∧ Q (.int (if i < 0 then -i else i)) H) absD := by
  intro d z h F H v Q e r k
  cases d <;> simp only [absD, reduceCtorEq] at h
  obtain rfl : v = _ := r
  cases h
  exact ⟨_, rfl, k _ F H .refl rfl⟩
def int1D : D → Option D
  | .int i => some (.int i)
  | .bl b => some (.int (if b then 1 else 0))
  | _ => none
theorem callv_int : CallV1 K T (fun xs H Q => (∃ i, xs = [.int i] ∧ Q (.int i) H) ∨ ∃ k, xs = [.bl k] ∧ Q (.int (if k then 1 else 0)) H) int1D := by
  intro d z h F H v Q e r k
  cases d <;> simp only [int1D, reduceCtorEq] at h
  · obtain rfl : v = _ := r
    cases h
    exact .inr ⟨_, rfl, k _ F H .refl rfl⟩
  · obtain rfl : v = _ := r
    cases h
    exact .inl ⟨_, rfl, k _ F H .refl rfl⟩
def strD : D → Option D
  | .int i => if i.natAbs < big then some (.str (toString i)) else none
  | .str x => some (.str x)
  | _ => none
def rStr1 : List V → Hp → VK → Prop := fun xs H Q => (∃ i, xs = [V.int i] ∧ i.natAbs.log2 < 1920 ∧ Q (.str (toString i)) H) ∨ ∃ a, xs = [V.str a] ∧ Q (.str a) H
theorem call_strA : CallR X (.type "str") rStr1 := callr_or call_str_int SkE.call_str_str
theorem big_log {i : Int} (h : i.natAbs < big) : i.natAbs.log2 < 1920 := by
  have := PySem.Flt.log2_lt_of (k := 250) (by decide) h
  omega
theorem callv_str : CallV1 K T rStr1 strD := by
  intro d z h F H v Q e r k
  cases d <;> simp only [strD, reduceCtorEq] at h
  · obtain rfl : v = _ := r
    split at h
    · rename_i q; cases h; exact .inl ⟨_, rfl, big_log q, k _ F H .refl rfl⟩
    · cases h
  · obtain rfl : v = _ := r
    cases h
    exact .inr ⟨_, rfl, k _ F H .refl rfl⟩
def tupleD : D → Option D
  | .tup xs => some (.tup xs)
  | .lst xs => some (.tup xs)
  | .frl xs => some (.tup xs)
  | _ => none
def rTup1 (K : PySem.W.Frag) : List V → Hp → VK → Prop := fun xs H Q => ∃ p ys, xs = [V.ref p] ∧ ((SqL K H p ys ∧ ∀ l, H l = none → Q (.ref l) (upd H l (.tup ys))) ∨ (SqT K H p ys ∧ Q (.ref p) H))
theorem callv_tuple : CallV1 K T (rTup1 K) tupleD := by
  intro d z h F H v Q e r k
  cases d <;> simp only [tupleD, reduceCtorEq] at h
  · obtain ⟨a, vs, rfl, h1, r⟩ := r
    cases h
    exact ⟨a, vs, rfl, .inr ⟨e.sqT h1, k _ F H .refl ⟨a, vs, rfl, h1, r⟩⟩⟩
  · obtain ⟨a, vs, rfl, h1, r⟩ := r
    cases h
    refine ⟨a, vs, rfl, .inl ⟨SqL.of h1, fun l hl => ?_⟩⟩
    have g := Grow.new (K := K) (T := T) (o := HO.tup vs) e hl
    exact k _ _ _ g ⟨l, vs, rfl, SqX.of upd_same, r.mono g.1⟩
  · obtain ⟨a, vs, rfl, h1, r⟩ := r
    cases h
    refine ⟨a, vs, rfl, .inl ⟨e.sqL h1, fun l hl => ?_⟩⟩
    have g := Grow.new (K := K) (T := T) (o := HO.tup vs) e hl
    exact k _ _ _ g ⟨l, vs, rfl, SqX.of upd_same, r.mono g.1⟩
def intsOf : List D → Option (List Int)
  | [] => some []
  | .int i :: ds => (intsOf ds).map (i :: ·)
  | _ => none
def blsOf : List D → Option (List Bool)
  | [] => some []
  | .bl b :: ds => (blsOf ds).map (b :: ·)
  | _ => none
theorem ints_rep {F : Hp} : ∀ {ds : List D} {ns : List Int} {vs : List V}, intsOf ds = some ns → Reps K T F ds vs → vs = ns.map V.int
  | [], ns, vs, h, r => by simp only [intsOf] at h; cases h; exact r
  | d :: ds, ns, vs, h, ⟨v, ws, e1, h1, r⟩ => by
    cases d <;> simp only [intsOf, reduceCtorEq] at h
    cases q : intsOf ds with
    | none => rw [q] at h; cases h
    | some ms => rw [q] at h; cases h; rw [e1, ints_rep q r, show v = _ from h1]; rfl
theorem bls_rep {F : Hp} : ∀ {ds : List D} {ns : List Bool} {vs : List V}, blsOf ds = some ns → Reps K T F ds vs → vs = ns.map V.bl
  | [], ns, vs, h, r => by simp only [blsOf] at h; cases h; exact r
  | d :: ds, ns, vs, h, ⟨v, ws, e1, h1, r⟩ => by
    cases d <;> simp only [blsOf, reduceCtorEq] at h
    cases q : blsOf ds with
    | none => rw [q] at h; cases h
    | some ms => rw [q] at h; cases h; rw [e1, bls_rep q r, show v = _ from h1]; rfl
def allD : D → Option D
  | .lst xs => (blsOf xs).map fun ns => .bl (ns.all id)
  | _ => none
def anyD : D → Option D
  | .lst xs => (blsOf xs).map fun ns => .bl (ns.any id)
  | _ => none
def maxD : D → Option D
  | .lst xs => (intsOf xs).bind fun ns => match ns with
    | [] => none
    | n :: r => some (.int (r.foldl max n))
  | _ => none
def minD : D → Option D
  | .lst xs => (intsOf xs).bind fun ns => match ns with
    | [] => none
    | n :: r => some (.int (r.foldl min n))
  | _ => none
theorem callv_all : CallV1 K T (rAll K) allD := by
  intro d z h F H v Q e r k
  cases d <;> simp only [allD, reduceCtorEq] at h
  obtain ⟨a, vs, rfl, h1, r⟩ := r
  rename_i xs
  cases q : blsOf xs with
  | none => rw [q] at h; cases h
  | some ns => rw [q] at h; cases h; rw [bls_rep q r] at h1; exact ⟨a, ns, rfl, SqL.of h1, k _ F H .refl rfl⟩
theorem callv_any : CallV1 K T (rAny K) anyD := by
  intro d z h F H v Q e r k
  cases d <;> simp only [anyD, reduceCtorEq] at h
  obtain ⟨a, vs, rfl, h1, r⟩ := r
  rename_i xs
  cases q : blsOf xs with
  | none => rw [q] at h; cases h
  | some ns => rw [q] at h; cases h; rw [bls_rep q r] at h1; exact ⟨a, ns, rfl, SqL.of h1, k _ F H .refl rfl⟩
theorem foldl_max_mem : ∀ (r : List Int) (n : Int), r.foldl max n ∈ n :: r ∧ ∀ y ∈ n :: r, y ≤ r.foldl max n
  | [], n => ⟨by simp, by simp⟩
  | m :: r, n => by
    obtain ⟨h1, h2⟩ := foldl_max_mem r (max n m)
    have e : (m :: r).foldl max n = r.foldl max (max n m) := rfl
    rw [e]
    refine ⟨?_, fun y hy => ?_⟩
    · rcases List.mem_cons.mp h1 with q | q
      · rw [q]
        by_cases c : n ≤ m
        · rw [Int.max_eq_right c]; simp
        · rw [Int.max_eq_left (by omega)]; simp
      · simp [q]
    · have b := h2 (max n m) (by simp)
      rcases List.mem_cons.mp hy with q | q
      · subst q; have := Int.le_max_left y m; omega
      · rcases List.mem_cons.mp q with q | q
        · subst q; have := Int.le_max_right n y; omega
        · exact h2 y (by simp [q])
theorem foldl_min_mem : ∀ (r : List Int) (n : Int), r.foldl min n ∈ n :: r ∧ ∀ y ∈ n :: r, r.foldl min n ≤ y
  | [], n => ⟨by simp, by simp⟩
  | m :: r, n => by
    obtain ⟨h1, h2⟩ := foldl_min_mem r (min n m)
    have e : (m :: r).foldl min n = r.foldl min (min n m) := rfl
    rw [e]
    refine ⟨?_, fun y hy => ?_⟩
    · rcases List.mem_cons.mp h1 with q | q
      · rw [q]
        by_cases c : n ≤ m
        · rw [Int.min_eq_left c]; simp
        · rw [Int.min_eq_right (by omega)]; simp
      · simp [q]
    · have b := h2 (min n m) (by simp)
      rcases List.mem_cons.mp hy with q | q
      · subst q; have := Int.min_le_left y m; omega
      · rcases List.mem_cons.mp q with q | q
        · subst q; have := Int.min_le_right n y; omega
        · exact h2 y (by simp [q])
theorem callv_max : CallV1 K T (rMax K) maxD := by
  intro d z h F H v Q e r k
  cases d <;> simp only [maxD, reduceCtorEq] at h
  obtain ⟨a, vs, rfl, h1, r⟩ := r
  rename_i xs
  cases q : intsOf xs with
  | none => rw [q] at h; cases h
  | some ns =>
    rw [q] at h
    cases ns with
    | nil => cases h
    | cons n ns =>
      cases h
      rw [ints_rep q r] at h1
      refine ⟨a, _, rfl, SqL.of h1, by simp, fun m hm hy => ?_⟩
      obtain ⟨g1, g2⟩ := foldl_max_mem ns n
      have em : m = ns.foldl max n := Int.le_antisymm (g2 m hm) (hy _ g1)
      rw [em]
      exact k _ F H .refl rfl
theorem callv_min : CallV1 K T (rMin K) minD := by
  intro d z h F H v Q e r k
  cases d <;> simp only [minD, reduceCtorEq] at h
  obtain ⟨a, vs, rfl, h1, r⟩ := r
  rename_i xs
  cases q : intsOf xs with
  | none => rw [q] at h; cases h
  | some ns =>
    rw [q] at h
    cases ns with
    | nil => cases h
    | cons n ns =>
      cases h
      rw [ints_rep q r] at h1
      refine ⟨a, _, rfl, SqL.of h1, by simp, fun m hm hy => ?_⟩
      obtain ⟨g1, g2⟩ := foldl_min_mem ns n
      have em : m = ns.foldl min n := Int.le_antisymm (hy _ g1) (g2 m hm)
      rw [em]
      exact k _ F H .refl rfl
end
end VS
set_option maxHeartbeats 2000000
namespace VS
open PySem L2 PySem.Spec PyProof.Rows
structure ItD (K : PySem.W.Frag) (T : Txt) (F : Hp) (J : It) (ds : List D) : Prop where
  go : ∀ (i : Nat) (H : Hp), Ex F H → i < ds.length → J.go i H
  stop : ∀ H, Ex F H → J.stop ds.length H
  yld : ∀ (i : Nat) (d : D) (G H : Hp) (x : V) (H' : Hp), Ex F G → Ex G H → ds[i]? = some d → J.yld i H x H' → ∃ G', Grow K T G H G' H' ∧ Rep K T G' d x
def rdI (K : PySem.W.Frag) (T : Txt) (W : WX) (ρ : VEnv) : R (List D) → TI
  | .stuck => fun _ _ _ => False
  | .ok ds ρ' => fun σ H Q => ∃ F Z L, Rel K T F Z L σ ρ H ∧ ∀ J F' H', Ex F F' → Rel K T F' Z L σ ρ' H' → ItD K T F' J ds → Q J H'
  | .ex c ds ρ' => fun σ H _ => ∃ F Z L, Rel K T F Z L σ ρ H ∧ ∀ cls dd F' H', Ex F F' → Rel K T F' Z L σ ρ' H' → ExR K T F' cls dd c ds → W cls dd σ H'
def JI (T : Txt) (X : Cx) (W : WX) (tg iter : Expr) (g : Ev (List D)) : Prop := ∀ ρ, PI X tg iter (rdI X.K T W ρ (g ρ))
section
variable {T : Txt} {X : Cx} {W : WX} {tg e a b c : Expr} {es : List Expr} {pos p : Pos} {K : PySem.W.Frag} {F : Hp}
theorem pi_weak {w w' : TI} (h : PI X tg e w) (k : ∀ σ H R, w' σ H R → w σ H R) : PI X tg e w' := ⟨fun pins s σ H R I q => h.run pins s σ H R I (k σ H R q)⟩
theorem pi_no : PI X tg e (fun _ _ _ => False) := ⟨fun _ _ _ _ _ _ h => h.elim⟩
def signs (z : Str) : List D := z.cps.toList.map fun c => .str ⟨#[c]⟩
def seqOf : D → Option (List D)
  | .tup xs => some xs
  | .lst xs => some xs
  | .frl xs => some xs
  | .str z => some (signs z)
  | .fru xs => some xs
  | _ => none
def mSeqOf (g : Ev D) : Ev (List D) := fun ρ => (g ρ).bind fun d ρ' => R.of (seqOf d) ρ'
theorem itd_list {a : Addr} {vs : List V} {ds : List D} (hs : SqL K F a vs) (r : Reps K T F ds vs) : ItD K T F (Itl K a) ds where
  go := fun i H e hi => by
    have : i < vs.length := by rw [r.length]; exact hi
    exact ⟨vs, vs[i], e.sqL hs, by simp [this]⟩
  stop := fun H e => ⟨vs, e.sqL hs, by rw [r.length]; exact Nat.le_refl _⟩
  yld := fun i d G H x H' e1 e2 hd y => by
    obtain ⟨rfl, q⟩ := y
    obtain ⟨v, h1, h2⟩ := r.get hd
    have hx := q vs ((e1.trans e2).sqL hs)
    rw [h1] at hx; cases hx
    exact ⟨G, .refl, h2.mono e1⟩
theorem itd_tup {a : Addr} {vs : List V} {ds : List D} (hs : SqT K F a vs) (r : Reps K T F ds vs) : ItD K T F (Itt K a) ds where
  go := fun i H e hi => by
    have : i < vs.length := by rw [r.length]; exact hi
    exact ⟨vs, vs[i], e.sqT hs, by simp [this]⟩
  stop := fun H e => ⟨vs, e.sqT hs, by rw [r.length]; exact Nat.le_refl _⟩
  yld := fun i d G H x H' e1 e2 hd y => by
    obtain ⟨rfl, q⟩ := y
    obtain ⟨v, h1, h2⟩ := r.get hd
    have hx := q vs ((e1.trans e2).sqT hs)
    rw [h1] at hx; cases hx
    exact ⟨G, .refl, h2.mono e1⟩
theorem itd_str (z : Str) : ItD K T F (Its z) (signs z) where
  go := fun i H e hi => by
    have h : i < z.cps.size := by simpa [signs] using hi
    exact h
  stop := fun H e => by simp [signs, Its]
  yld := fun i d G H x H' e1 e2 hd y => by
    obtain ⟨rfl, c, hc, rfl⟩ := y
    refine ⟨G, .refl, ?_⟩
    have hd' : (z.cps.toList.map fun c => (D.str ⟨#[c]⟩))[i]? = some d := hd
    rw [List.getElem?_map] at hd'
    rw [show z.cps.toList[i]? = some c by simpa using hc] at hd'
    cases hd'
    rfl
theorem ji_seq {g : Ev D} (h : JE T X W e g) : JI T X W tg e (mSeqOf g) := fun ρ => by
  have p1 := h ρ
  unfold mSeqOf
  cases q1 : g ρ with
  | stuck => exact pi_no
  | ex c ds ρ1 => rw [q1] at p1; exact pi_weak (pi_list p1) fun σ H Q q => q
  | ok d ρ1 =>
    rw [q1] at p1
    simp only [R.bind_ok]
    cases d with
    | tup xs =>
      refine pi_weak (pi_tup p1) fun σ H Q ⟨F, Z, L, r, k⟩ => ⟨F, Z, L, r, fun v F' H' e r' p => ?_⟩
      obtain ⟨a, vs, rfl, h1, rr⟩ := p
      exact ⟨a, rfl, ⟨vs, r'.exF.sqT h1⟩, k _ F' H' e r' (itd_tup h1 rr)⟩
    | lst xs =>
      refine pi_weak (pi_list p1) fun σ H Q ⟨F, Z, L, r, k⟩ => ⟨F, Z, L, r, fun v F' H' e r' p => ?_⟩
      obtain ⟨a, vs, rfl, h1, rr⟩ := p
      exact ⟨a, rfl, ⟨vs, SqL.of (r'.exF _ _ h1)⟩, k _ F' H' e r' (itd_list (SqL.of h1) rr)⟩
    | frl xs =>
      refine pi_weak (pi_list p1) fun σ H Q ⟨F, Z, L, r, k⟩ => ⟨F, Z, L, r, fun v F' H' e r' p => ?_⟩
      obtain ⟨a, vs, rfl, h1, rr⟩ := p
      exact ⟨a, rfl, ⟨vs, r'.exF.sqL h1⟩, k _ F' H' e r' (itd_list h1 rr)⟩
    | str z =>
      refine pi_weak (pi_str p1) fun σ H Q ⟨F, Z, L, r, k⟩ => ⟨F, Z, L, r, fun v F' H' e r' p => ?_⟩
      exact ⟨z, p, k _ F' H' e r' (itd_str z)⟩
    | fru xs =>
      refine pi_weak (pi_tup p1) fun σ H Q ⟨F, Z, L, r, k⟩ => ⟨F, Z, L, r, fun v F' H' e r' p => ?_⟩
      obtain ⟨a, vs, rfl, h1, rr⟩ := p
      exact ⟨a, rfl, ⟨vs, r'.exF.sqT h1⟩, k _ F' H' e r' (itd_tup h1 rr)⟩
    | _ => exact pi_no
@[irreducible] def small (i : Int) : Bool := decide (-(2 ^ 62) ≤ i ∧ i < 2 ^ 62)
theorem small_iff {i : Int} (h : small i = true) : -(2 ^ 62) ≤ i ∧ i < 2 ^ 62 := by unfold small at h; exact of_decide_eq_true h
def upFrom (lo : Int) : Nat → List D
  | n => (List.range n).map fun i => .int (lo + (i : Nat))
def range1D : D → Option (List D)
  | .int j => if small j = true then some (upFrom 0 j.toNat) else none
  | _ => none
def range2D : List D → Option (List D)
  | [.int i, .int j] => if small i = true ∧ small j = true then some (upFrom i (j - i).toNat) else none
  | _ => none
def mRange1 (g : Ev D) : Ev (List D) := fun ρ => (g ρ).bind fun d ρ' => R.of (range1D d) ρ'
def mRange2 (g : Ev (List D)) : Ev (List D) := fun ρ => (g ρ).bind fun ds ρ' => R.of (range2D ds) ρ'
theorem upFrom_length (lo : Int) (n : Nat) : (upFrom lo n).length = n := by simp [upFrom]
theorem itd_range (lo : Int) (n : Nat) : ItD K T F (Itr lo n) (upFrom lo n) where
  go := fun i H e hi => by rw [upFrom_length] at hi; exact hi
  stop := fun H e => by rw [upFrom_length]; exact Nat.le_refl _
  yld := fun i d G H x H' e1 e2 hd y => by
    obtain ⟨rfl, rfl⟩ := y
    refine ⟨G, .refl, ?_⟩
    have hi : i < n := by
      have := (List.getElem?_eq_some_iff.mp hd).1
      rw [upFrom_length] at this; exact this
    have e3 : (upFrom lo n)[i]? = some (.int (lo + (i : Nat))) := by simp [upFrom, hi]
    rw [e3] at hd; cases hd
    rfl
theorem ji_range1 {g : Ev D} (hg : Gl X "range") (hm : X.mg "range" = none) (h : JE T X W a g) (hs : starEach [a] X.env = [(false, eval a X.env)] := by rfl) (hs1 : starEach [a] X.env = (false, eval a X.env) :: starEach [] X.env := by rfl) :
    JI T X W tg (.Call (.Name "range" p) [a] [] pos) (mRange1 g) := fun ρ => by
  have p1 := h ρ
  unfold mRange1
  cases q1 : g ρ with
  | stuck => exact pi_no
  | ex c ds ρ1 => rw [q1] at p1; exact pi_weak (pi_range1 hg hm (pa_cons p1 pa_nil hs1) hs) fun σ H Q q => q
  | ok d ρ1 =>
    rw [q1] at p1
    simp only [R.bind_ok]
    cases d with
    | int j =>
      simp only [range1D]
      split
      · rename_i c
        have c' := small_iff c
        refine pi_weak (pi_range1 hg hm (pa_cons p1 pa_nil hs1) hs) fun σ H Q ⟨F, Z, L, r, k⟩ => ⟨F, Z, L, r, fun v F' H' e r' x => ?_⟩
        exact ⟨j, by rw [show v = _ from x], c'.1, c'.2, k _ F' H' e r' (itd_range 0 _)⟩
      · exact pi_no
    | _ => exact pi_no
theorem ji_range2 {g : Ev (List D)} (hg : Gl X "range") (hm : X.mg "range" = none) (h : JA T X W [a, b] g) (hs : starEach [a, b] X.env = [(false, eval a X.env), (false, eval b X.env)] := by rfl) (hs2 : starEach [b] X.env = [(false, eval b X.env)] := by rfl) :
    JI T X W tg (.Call (.Name "range" p) [a, b] [] pos) (mRange2 g) := fun ρ => by
  have p1 := h ρ
  unfold mRange2
  cases q1 : g ρ with
  | stuck => exact pi_no
  | ex c ds ρ1 => rw [q1] at p1; exact pi_weak (pi_range2 hg hm p1 hs hs2) fun σ H Q q => q
  | ok ds ρ1 =>
    rw [q1] at p1
    simp only [R.bind_ok]
    cases q2 : range2D ds with
    | none => exact pi_no
    | some is =>
      refine pi_weak (pi_range2 hg hm p1 hs hs2) fun σ H Q ⟨F, Z, L, r, k⟩ => ⟨F, Z, L, r, fun vs F' H' e r' x => ?_⟩
      unfold range2D at q2
      split at q2
      · rename_i i j
        split at q2
        · rename_i c
          cases q2
          have c1 := small_iff c.1
          have c2 := small_iff c.2
          obtain ⟨v, ws, e1, h1, v2, ws2, e2, h2, h3⟩ := x
          refine ⟨i, j, ?_, ⟨c1.1, c1.2, c2.1, c2.2⟩, k _ F' H' e r' (itd_range i _)⟩
          rw [e1, show v = _ from h1, e2, show v2 = _ from h2, show ws2 = _ from h3]
        · cases q2
      · cases q2
def enumFrom (n : Nat) : List D → List D
  | [] => []
  | d :: ds => .tup [.int n, d] :: enumFrom (n + 1) ds
theorem enumFrom_get : ∀ (n : Nat) (ds : List D) (i : Nat), (enumFrom n ds)[i]? = ds[i]?.map fun d => .tup [.int ((n + i : Nat) : Int), d]
  | n, [], i => by simp [enumFrom]
  | n, d :: ds, 0 => by simp [enumFrom]
  | n, d :: ds, i + 1 => by
    simp only [enumFrom, List.getElem?_cons_succ]
    rw [enumFrom_get (n + 1) ds i]
    congr 2
    funext d
    congr 3
    omega
theorem enumFrom_length : ∀ (n : Nat) (ds : List D), (enumFrom n ds).length = ds.length
  | n, [] => rfl
  | n, d :: ds => by simp [enumFrom, enumFrom_length]
theorem itd_enum {a : Addr} {vs : List V} {ds : List D} (hs : SqL K F a vs) (r : Reps K T F ds vs) : ItD K T F (Ite K a) (enumFrom 0 ds) where
  go := fun i H e hi => by
    rw [enumFrom_length] at hi
    have : i < vs.length := by rw [r.length]; exact hi
    exact ⟨vs, vs[i], e.sqL hs, by simp [this]⟩
  stop := fun H e => ⟨vs, e.sqL hs, by rw [r.length, enumFrom_length]; exact Nat.le_refl _⟩
  yld := fun i d G H x H' e1 e2 hd y => by
    obtain ⟨t, x', rfl, hn, rfl, q⟩ := y
    rw [enumFrom_get] at hd
    cases q1 : ds[i]? with
    | none => rw [q1] at hd; cases hd
    | some d0 =>
      rw [q1] at hd
      cases hd
      obtain ⟨v, h1, h2⟩ := r.get q1
      have hx := q vs ((e1.trans e2).sqL hs)
      rw [h1] at hx
      have hv : v = x' := Option.some.inj hx
      subst hv
      have g := Grow.new (K := K) (T := T) (o := HO.tup [.int (i : Nat), v]) e2 hn
      refine ⟨_, g, ⟨t, _, rfl, SqX.of upd_same, ?_⟩⟩
      rw [Nat.zero_add]
      exact ⟨_, _, rfl, rfl, _, _, rfl, (h2.mono e1).mono g.1, rfl⟩
def mEnum (g : Ev D) : Ev (List D) := fun ρ => (g ρ).bind fun d ρ' => match d with
  | .lst xs => .ok (enumFrom 0 xs) ρ'
  | .frl xs => .ok (enumFrom 0 xs) ρ'
  | _ => .stuck
theorem ji_enum {g : Ev D} {elts : List Expr} {kk : Nat} {tpos : Pos} (hg : Gl X "enumerate") (hm : X.mg "enumerate" = none) (h : JE T X W a g) (hs : starEach [a] X.env = [(false, eval a X.env)] := by rfl) (hs1 : starEach [a] X.env = (false, eval a X.env) :: starEach [] X.env := by rfl) :
    JI T X W (.Tuple elts kk tpos) (.Call (.Name "enumerate" p) [a] [] pos) (mEnum g) := fun ρ => by
  have p1 := h ρ
  unfold mEnum
  cases q1 : g ρ with
  | stuck => exact pi_no
  | ex c ds ρ1 => rw [q1] at p1; exact pi_weak (pi_enum hg hm (pa_cons p1 pa_nil hs1) hs) fun σ H Q q => q
  | ok d ρ1 =>
    rw [q1] at p1
    simp only [R.bind_ok]
    cases d with
    | lst xs =>
      refine pi_weak (pi_enum hg hm (pa_cons p1 pa_nil hs1) hs) fun σ H Q ⟨F, Z, L, r, k⟩ => ⟨F, Z, L, r, fun v F' H' e r' x => ?_⟩
      obtain ⟨a, vs, rfl, h1, rr⟩ := x
      exact ⟨a, vs, rfl, SqL.of (r'.exF _ _ h1), k _ F' H' e r' (itd_enum (SqL.of h1) rr)⟩
    | frl xs =>
      refine pi_weak (pi_enum hg hm (pa_cons p1 pa_nil hs1) hs) fun σ H Q ⟨F, Z, L, r, k⟩ => ⟨F, Z, L, r, fun v F' H' e r' x => ?_⟩
      obtain ⟨a, vs, rfl, h1, rr⟩ := x
      exact ⟨a, vs, rfl, r'.exF.sqL h1, k _ F' H' e r' (itd_enum h1 rr)⟩
    | _ => exact pi_no
end
def setV (i : Nat) (d : D) (ρ : VEnv) : Option VEnv := match ρ[i]? with
  | some (some (Sl.own true _)) => none
  | some _ => some (ρ.set i (some (Sl.val d)))
  | none => none
section
variable {K : PySem.W.Frag} {T : Txt} {F Z H : Hp} {L : Nat → Option Addr} {σ : L2.St} {ρ ρ' : VEnv}
theorem setV_some {i : Nat} {d : D} (h : setV i d ρ = some ρ') : i < ρ.length ∧ (∀ m, ρ[i]? ≠ some (some (Sl.own true m))) ∧ ρ' = ρ.set i (some (Sl.val d)) := by
  unfold setV at h
  split at h
  · cases h
  · rename_i o hne q
    cases h
    exact ⟨(List.getElem?_eq_some_iff.mp q).1, fun m e => by rw [q] at e; cases e; exact hne m rfl, rfl⟩
  · cases h
theorem Rel.setV {i : Nat} {d : D} {v : V} (r : Rel K T F Z L σ ρ H) (h : VS.setV i d ρ = some ρ') (p : Rep K T F d v) : Rel K T F Z L (σ.set i (some v)) ρ' H := by
  obtain ⟨hi, hl, rfl⟩ := setV_some h
  have hs : i < σ.length := by rw [← r.len]; exact hi
  have ne : ∀ {j : Nat} {l : Bool} {m : MO}, (ρ.set i (some (Sl.val d)))[j]? = some (some (Sl.own l m)) → j ≠ i ∧ ρ[j]? = some (some (Sl.own l m)) := fun {j l m} q => by
    by_cases hj : j = i
    · subst hj; rw [List.getElem?_set_self hi] at q; cases q
    · rw [List.getElem?_set_ne (Ne.symm hj)] at q; exact ⟨hj, q⟩
  refine ⟨r.exF, r.exZ, r.dis, by simp [r.len], fun j d' q => ?_, fun j l m q => ?_, fun j k l m l' m' a q1 q2 q3 q4 => ?_, fun j a q => ?_, r.bx.sub fun j l m q => ⟨⟨l, (ne q).2⟩, List.getElem?_set_ne (Ne.symm (ne q).1)⟩⟩
  · by_cases hj : j = i
    · subst hj
      rw [List.getElem?_set_self hi] at q; cases q
      exact ⟨v, List.getElem?_set_self hs, p⟩
    · rw [List.getElem?_set_ne (Ne.symm hj)] at q ⊢
      exact r.val j d' q
  · obtain ⟨hj, q⟩ := ne q
    rw [List.getElem?_set_ne (Ne.symm hj)]
    exact r.own j l m q
  · obtain ⟨hj, q1⟩ := ne q1
    obtain ⟨hk, q2⟩ := ne q2
    rw [List.getElem?_set_ne (Ne.symm hj)] at q3
    rw [List.getElem?_set_ne (Ne.symm hk)] at q4
    exact r.sep j k l m l' m' a q1 q2 q3 q4
  · obtain ⟨h1, m, h2⟩ := r.lent j a q
    have hj : j ≠ i := fun e => by subst e; exact hl m h2
    rw [List.getElem?_set_ne (Ne.symm hj), List.getElem?_set_ne (Ne.symm hj)]
    exact ⟨h1, m, h2⟩
end
def rdG (K : PySem.W.Frag) (T : Txt) (vs : List Nat) (t : D → VEnv → Option VEnv) : TG := fun v σ H Q => ∃ d ρ ρ' F Z L, t d ρ = some ρ' ∧ Rel K T F Z L σ ρ H ∧ Rep K T F d v ∧
  ∀ σ' F' H', (∀ i : Nat, i ∉ vs → σ'[i]? = σ[i]?) → σ'.length = σ.length → Ex F F' → Rel K T F' Z L σ' ρ' H' → Q σ' H'
def rdGs (K : PySem.W.Frag) (T : Txt) (vs : List Nat) (t : List D → VEnv → Option VEnv) : TGs := fun ws σ H Q => ∃ ds ρ ρ' F Z L, t ds ρ = some ρ' ∧ Rel K T F Z L σ ρ H ∧ Reps K T F ds ws ∧
  ∀ σ' F' H', (∀ i : Nat, i ∉ vs → σ'[i]? = σ[i]?) → σ'.length = σ.length → Ex F F' → Rel K T F' Z L σ' ρ' H' → Q σ' H'
def JG (T : Txt) (X : Cx) (tg : Expr) (vs : List Nat) (t : D → VEnv → Option VEnv) : Prop := PG X tg (rdG X.K T vs t)
def JGs (T : Txt) (X : Cx) (ts : List Expr) (vs : List Nat) (t : List D → VEnv → Option VEnv) : Prop := PGs X ts (rdGs X.K T vs t)
section
variable {T : Txt} {X : Cx} {tg e : Expr} {es : List Expr} {pos : Pos} {vs ws : List Nat}
theorem pg_weak {t t' : TG} (h : PG X tg t) (k : ∀ v σ H Q, t' v σ H Q → t v σ H Q) : PG X tg t' := ⟨fun pins s σ H v u Q I r q => h.run pins s σ H v u Q I r (k v σ H Q q)⟩
theorem pgs_weak {t t' : TGs} (h : PGs X es t) (k : ∀ v σ H Q, t' v σ H Q → t v σ H Q) : PGs X es t' := ⟨fun pins s σ H v u Q I r q => h.run pins s σ H v u Q I r (k v σ H Q q)⟩
theorem jg_name {i : Nat} (h : PG X tg (gName i)) : JG T X tg [i] (setV i) := pg_weak h fun v σ H Q ⟨d, ρ, ρ', F, Z, L, q, r, p, k⟩ =>
  k _ F H (fun j hj => List.getElem?_set_ne (by intro z; exact hj (by simp [z]))) (by simp) (Ex.refl F) (r.setV q p)
def tgNil (ds : List D) (ρ : VEnv) : Option VEnv := if ds.isEmpty then some ρ else none
def tgCons (t : D → VEnv → Option VEnv) (u : List D → VEnv → Option VEnv) (ds : List D) (ρ : VEnv) : Option VEnv := match ds with
  | d :: ds => (t d ρ).bind fun ρ' => u ds ρ'
  | [] => none
def tgTup (n : Nat) (t : List D → VEnv → Option VEnv) (d : D) (ρ : VEnv) : Option VEnv := match d with
  | .tup ds => if ds.length = n then t ds ρ else none
  | _ => none
theorem jgs_nil : JGs T X [] [] tgNil := pgs_weak pgs_nil fun v σ H Q ⟨ds, ρ, ρ', F, Z, L, q, r, p, k⟩ => by
  unfold tgNil at q
  split at q
  · rename_i c
    cases q
    have : ds = [] := by simpa using c
    subst this
    exact ⟨p, k σ F H (fun _ _ => rfl) rfl (Ex.refl F) r⟩
  · cases q
theorem jgs_cons {t : D → VEnv → Option VEnv} {u : List D → VEnv → Option VEnv} (h1 : JG T X e vs t) (h2 : JGs T X es ws u)
    (hs : (assignEach (e :: es) X.env).map (·.2) = assign e X.env :: (assignEach es X.env).map (·.2) := by rfl) : JGs T X (e :: es) (vs ++ ws) (tgCons t u) := pgs_weak (pgs_cons h1 h2 hs) fun v σ H Q ⟨ds, ρ, ρ', F, Z, L, q, r, p, k⟩ => by
  cases ds with
  | nil => cases q
  | cons d ds =>
    obtain ⟨x, xs, e1, p1, p2⟩ := p
    simp only [tgCons] at q
    cases q1 : t d ρ with
    | none => rw [q1] at q; cases q
    | some ρ1 =>
      rw [q1] at q
      refine ⟨x, xs, e1, d, ρ, ρ1, F, Z, L, q1, r, p1, fun σ1 F1 H1 s1 l1 e1 r1 => ⟨ds, ρ1, ρ', F1, Z, L, q, r1, p2.mono e1, fun σ2 F2 H2 s2 l2 e2 r2 => k σ2 F2 H2 (fun i hi => ?_) (l2.trans l1) (e1.trans e2) r2⟩⟩
      rw [s2 i (fun z => hi (List.mem_append_right _ z)), s1 i (fun z => hi (List.mem_append_left _ z))]
theorem jg_tup {k n : Nat} {t : List D → VEnv → Option VEnv} (hc : X.calm = true) (h : JGs T X es vs t) (hn : (assignEach es X.env).length = n := by rfl) (hst : (assignEach es X.env).findIdx? (·.1) = none := by rfl) : JG T X (.Tuple es k pos) vs (tgTup n t) :=
  pg_weak (pg_tup hc h hn hst) fun v σ H Q ⟨d, ρ, ρ', F, Z, L, q, r, p, k⟩ => by
    cases d <;> simp only [tgTup, reduceCtorEq] at q
    rename_i ds
    obtain ⟨a, xs, rfl, h1, rr⟩ := p
    split at q
    · rename_i c
      exact ⟨a, xs, rfl, r.exF.sqT h1, by rw [rr.length]; exact c, ds, ρ, ρ', F, Z, L, q, r, rr, k⟩
    · cases q
end
end VS
set_option maxHeartbeats 2000000
namespace VS
open PySem L2 PySem.Spec PyProof.Rows
inductive RS where
  | nx (ρ : VEnv) | rt (d : D) (ρ : VEnv) | rn (m : MO) (ρ : VEnv) | bk (ρ : VEnv) | ct (ρ : VEnv) | ex (c : Nat) (ds : List D) (ρ : VEnv) | stuck
def KS (K : PySem.W.Frag) (T : Txt) (W : WX) (F Z : Hp) (L : Nat → Option Addr) (N : Ends) : RS → Prop
  | .nx ρ => ∀ σ F' H, Ex F F' → Rel K T F' Z L σ ρ H → N.nx σ H
  | .rt d ρ => ∀ v σ F' H, Ex F F' → Rel K T F' Z L σ ρ H → Rep K T F' d v → N.rt v H
  | .rn m ρ => ∀ a o σ F' H, Ex F F' → Z a = none → Rel K T F' (upd Z a o) L σ ρ H → RepO K T F' m o → N.rt (.ref a) H
  | .bk ρ => ∀ σ F' H, Ex F F' → Rel K T F' Z L σ ρ H → N.bk σ H
  | .ct ρ => ∀ σ F' H, Ex F F' → Rel K T F' Z L σ ρ H → N.ct σ H
  | .ex c ds ρ => ∀ cls dd σ F' H, Ex F F' → Rel K T F' Z L σ ρ H → ExR K T F' cls dd c ds → W cls dd σ H
  | .stuck => False
def rdS (K : PySem.W.Frag) (T : Txt) (W : WX) (ρ : VEnv) (r : RS) : TS := fun N σ H => ∃ F Z L, Rel K T F Z L σ ρ H ∧ KS K T W F Z L N r
def JS (T : Txt) (X : Cx) (W : WX) (st : Stmt) (h : VEnv → RS) : Prop := ∀ ρ, PS X st (rdS X.K T W ρ (h ρ))
def JSs (T : Txt) (X : Cx) (W : WX) (sts : List Stmt) (h : VEnv → RS) : Prop := ∀ ρ, PSs X sts (rdS X.K T W ρ (h ρ))
section
variable {T : Txt} {X : Cx} {W : WX} {st : Stmt} {sts : List Stmt} {tg e a b c : Expr} {es : List Expr} {pos p : Pos} {K : PySem.W.Frag} {F F' Z : Hp} {L : Nat → Option Addr} {N : Ends}
theorem KS.mono (x : Ex F F') {r : RS} (h : KS K T W F Z L N r) : KS K T W F' Z L N r := by
  cases r with
  | nx ρ => exact fun σ F2 H e r => h σ F2 H (x.trans e) r
  | rt d ρ => exact fun v σ F2 H e r p => h v σ F2 H (x.trans e) r p
  | rn m ρ => exact fun a o σ F2 H e z r => h a o σ F2 H (x.trans e) z r
  | bk ρ => exact fun σ F2 H e r => h σ F2 H (x.trans e) r
  | ct ρ => exact fun σ F2 H e r => h σ F2 H (x.trans e) r
  | ex c ds ρ => exact fun cls dd σ F2 H e r p => h cls dd σ F2 H (x.trans e) r p
  | stuck => exact h
theorem ps_weak {t t' : TS} (h : PS X st t) (w : ∀ N σ H, t' N σ H → t N σ H) : PS X st t' := ⟨fun pins s σ H N I q => h.run pins s σ H N I (w N σ H q)⟩
theorem pss_weak {t t' : TS} (h : PSs X sts t) (w : ∀ N σ H, t' N σ H → t N σ H) : PSs X sts t' := ⟨fun pins s σ H N I q => h.run pins s σ H N I (w N σ H q)⟩
theorem pss_all {ι : Type} {t : ι → TS} (h : ∀ i, PSs X sts (t i)) : PSs X sts (fun N σ H => ∃ i, t i N σ H) := ⟨fun pins s σ H N I ⟨i, q⟩ => (h i).run pins s σ H N I q⟩
theorem pe_all {ι : Type} {t : ι → TE} (h : ∀ i, PE X e (t i)) : PE X e (fun σ H Q => ∃ i, t i σ H Q) := ⟨fun pins s σ H Q I ⟨i, q⟩ => (h i).run pins s σ H Q I q⟩
def mSeq (h k : VEnv → RS) : VEnv → RS := fun ρ => match h ρ with
  | .nx ρ' => k ρ'
  | r => r
def mNext : VEnv → RS := fun ρ => .nx ρ
theorem js_nil : JSs T X W [] mNext := fun ρ => pss_weak pss_nil fun N σ H ⟨F, Z, L, r, k⟩ => k σ F H (Ex.refl F) r
theorem js_one {h : VEnv → RS} (h1 : JS T X W st h) : JSs T X W [st] h := fun ρ => pss_one (h1 ρ)
theorem js_cons {h k : VEnv → RS} (h1 : JS T X W st h) (h2 : JSs T X W sts k) : JSs T X W (st :: sts) (mSeq h k) := fun ρ => by
  have p1 := h1 ρ
  unfold mSeq
  cases q : h ρ with
  | nx ρ1 =>
    rw [q] at p1
    exact pss_weak (pss_cons p1 (h2 ρ1)) fun N σ H ⟨F, Z, L, r, kk⟩ => ⟨F, Z, L, r, fun σ1 F1 H1 e1 r1 => ⟨F1, Z, L, r1, kk.mono e1⟩⟩
  | stuck => exact ⟨fun _ _ _ _ _ _ ⟨_, _, _, _, z⟩ => z.elim⟩
  | rt d ρ1 => rw [q] at p1; exact pss_weak (pss_cons p1 pss_never) fun N σ H h => h
  | rn d ρ1 => rw [q] at p1; exact pss_weak (pss_cons p1 pss_never) fun N σ H h => h
  | bk ρ1 => rw [q] at p1; exact pss_weak (pss_cons p1 pss_never) fun N σ H h => h
  | ct ρ1 => rw [q] at p1; exact pss_weak (pss_cons p1 pss_never) fun N σ H h => h
  | ex c ds ρ1 => rw [q] at p1; exact pss_weak (pss_cons p1 pss_never) fun N σ H h => h
theorem js_break : JS T X W (.Break pos) RS.bk := fun ρ => ps_weak ps_break fun N σ H ⟨F, Z, L, r, k⟩ => k σ F H (Ex.refl F) r
def R.thenS (r : R D) (k : D → VEnv → RS) : RS := match r with
  | .ok d ρ => k d ρ
  | .ex c ds ρ => .ex c ds ρ
  | .stuck => .stuck
def R.thenB (r : R Bool) (k : Bool → VEnv → RS) : RS := match r with
  | .ok d ρ => k d ρ
  | .ex c ds ρ => .ex c ds ρ
  | .stuck => .stuck
@[simp] theorem R.thenS_ok (d : D) (ρ : VEnv) (k : D → VEnv → RS) : (R.ok d ρ).thenS k = k d ρ := id rfl
@[simp] theorem R.thenB_ok (d : Bool) (ρ : VEnv) (k : Bool → VEnv → RS) : (R.ok d ρ).thenB k = k d ρ := id rfl
theorem thenS_rd {ρ : VEnv} {r : R D} {k : D → VEnv → RS} {σ : L2.St} {H : Hp} {Q : VK} (h : rdS K T W ρ (r.thenS k) N σ H)
    (hk : ∀ d ρ1 v F Z L H1, Rel K T F Z L σ ρ1 H1 → Rep K T F d v → KS K T W F Z L N (k d ρ1) → Q v H1) : rdE K T W ρ r σ H Q := by
  obtain ⟨F, Z, L, r0, kk⟩ := h
  cases r with
  | stuck => exact kk
  | ex c ds ρ1 => exact ⟨F, Z, L, r0, fun cls dd F' H' e r' x => kk cls dd σ F' H' e r' x⟩
  | ok d ρ1 => exact ⟨F, Z, L, r0, fun v F' H' e r' x => hk d ρ1 v F' Z L H' r' x (kk.mono e)⟩
theorem thenB_rd {ρ : VEnv} {r : R Bool} {k : Bool → VEnv → RS} {σ : L2.St} {H : Hp} {Q : Bool → Hp → Prop} (h : rdS K T W ρ (r.thenB k) N σ H)
    (hk : ∀ d ρ1 F Z L H1, r = .ok d ρ1 → Rel K T F Z L σ ρ1 H1 → KS K T W F Z L N (k d ρ1) → Q d H1) : rdT K T W ρ r σ H Q := by
  obtain ⟨F, Z, L, r0, kk⟩ := h
  cases r with
  | stuck => exact kk
  | ex c ds ρ1 => exact ⟨F, Z, L, r0, fun cls dd F' H' e r' x => kk cls dd σ F' H' e r' x⟩
  | ok d ρ1 => exact ⟨F, Z, L, r0, fun F' H' e r' => hk d ρ1 F' Z L H' rfl r' (kk.mono e)⟩
def mExpr (g : Ev D) : VEnv → RS := fun ρ => (g ρ).thenS fun _ ρ' => .nx ρ'
def mRet (g : Ev D) : VEnv → RS := fun ρ => (g ρ).thenS fun d ρ' => .rt d ρ'
theorem js_expr {g : Ev D} (h : JE T X W e g) (hs : swapsWith e none pos.line X.env = pure false := by rfl) : JS T X W (.Expr e pos) (mExpr g) := fun ρ =>
  ps_weak (ps_expr (h ρ) hs) fun N σ H q => thenS_rd q fun d ρ1 v F Z L H1 r _ k => k σ F H1 (Ex.refl F) r
theorem js_ret {g : Ev D} (h : JE T X W e g) : JS T X W (.Return (some e) pos) (mRet g) := fun ρ =>
  ps_weak (ps_ret (h ρ)) fun N σ H q => thenS_rd q fun d ρ1 v F Z L H1 r p k => k v σ F H1 (Ex.refl F) r p
def mRetO (i : Nat) : VEnv → RS := fun ρ => match ρ[i]? with
  | some (some (Sl.own false m)) => if m.plain = true then .rn m (ρ.set i none) else .stuck
  | _ => .stuck
theorem Rel.drop {σ : L2.St} {ρ : VEnv} {H : Hp} {i : Nat} (r : Rel K T F Z L σ ρ H) (hl : ∀ m, ρ[i]? ≠ some (some (Sl.own true m))) : Rel K T F Z L σ (ρ.set i none) H := by
  have ne : ∀ {j : Nat} {s : Sl}, (ρ.set i none)[j]? = some (some s) → j ≠ i ∧ ρ[j]? = some (some s) := fun {j s} q => by
    by_cases hj : j = i
    · subst hj
      by_cases hi : j < ρ.length
      · rw [List.getElem?_set_self hi] at q; cases q
      · rw [List.getElem?_eq_none (by simpa using hi)] at q; cases q
    · rw [List.getElem?_set_ne (Ne.symm hj)] at q; exact ⟨hj, q⟩
  refine ⟨r.exF, r.exZ, r.dis, by simp [r.len], fun j d q => r.val j d (ne q).2, fun j l m q => r.own j l m (ne q).2, fun j k l m l' m' a q1 q2 q3 q4 => r.sep j k l m l' m' a (ne q1).2 (ne q2).2 q3 q4, fun j a q => ?_, r.bx.sub fun j l m q => ⟨⟨l, (ne q).2⟩, rfl⟩⟩
  obtain ⟨h1, m, h2⟩ := r.lent j a q
  have hj : j ≠ i := fun e => by subst e; exact hl m h2
  rw [List.getElem?_set_ne (Ne.symm hj)]
  exact ⟨h1, m, h2⟩
theorem Rel.hold {i : Nat} {a : Addr} {o : HO} {m : MO} {σ : L2.St} {ρ : VEnv} {H : Hp} (r : Rel K T F Z L σ ρ H) (hi : ρ[i]? = some (some (Sl.own false m))) (hs : σ[i]? = some (some (.ref a))) (hF : F a = none) (hZ : Z a = none) (hH : H a = some o) : Rel K T F (upd Z a o) L σ (ρ.set i none) H := by
  have here : i < ρ.length := (List.getElem?_eq_some_iff.mp hi).1
  have ne : ∀ {j : Nat} {s : Sl}, (ρ.set i none)[j]? = some (some s) → j ≠ i ∧ ρ[j]? = some (some s) := fun {j s} q => by
    by_cases e : j = i
    · subst e; rw [List.getElem?_set_self here] at q; cases q
    · rw [List.getElem?_set_ne (Ne.symm e)] at q; exact ⟨e, q⟩
  have inn : ∀ {j k : Nat} {io : IO} {b : Addr}, Inn σ (ρ.set i none) H j k io b → Inn σ ρ H j k io b := fun {j k io b} ⟨l, c, fs, a', o', h1, h2, h3, h4, h5⟩ => ⟨l, c, fs, a', o', (ne h1).2, h2, h3, h4, h5⟩
  constructor
  · exact r.exF
  · intro b u q
    by_cases e : b = a
    · subst e; rw [upd_same] at q; cases q; exact hH
    · rw [upd_ne e] at q; exact r.exZ b u q
  · intro b u q
    rw [upd_ne (ne_of_none q hF)]
    exact r.dis b u q
  · simp [r.len]
  · exact fun j d q => r.val j d (ne q).2
  · intro j l m' q
    obtain ⟨e, q1⟩ := ne q
    obtain ⟨b, u, g1, g2, g3, g4, g5⟩ := r.own j l m' q1
    have apart : b ≠ a := fun z => by subst z; exact e (r.sep j i _ _ _ _ b q1 hi g1 hs)
    exact ⟨b, u, g1, g2, by rw [upd_ne apart]; exact g3, g4, g5⟩
  · exact fun j k l m1 l' m2 b q1 q2 q3 q4 => r.sep j k _ _ _ _ b (ne q1).2 (ne q2).2 q3 q4
  · intro j b q
    obtain ⟨h1, m', h2⟩ := r.lent j b q
    have e : j ≠ i := fun z => by subst z; rw [hi] at h2; cases h2
    exact ⟨h1, m', by rw [List.getElem?_set_ne (Ne.symm e)]; exact h2⟩
  · refine r.bx.gen (Ex.refl F) (fun j k io b h => inn h) (fun j k io b h h1 h2 o h3 => ?_) fun j k io b j' l m' h q1 q2 => ⟨j', l, m', (ne q1).2, q2⟩
    have apart : b ≠ a := fun z => by subst z; exact r.bx.nsep j k io b i _ _ (inn h) hi hs
    exact ⟨h1, by rw [upd_ne apart]; exact h2, h3⟩
theorem js_retO {i : Nat} (h : PE X e (tVar i)) : JS T X W (.Return (some e) pos) (mRetO i) := fun ρ => by
  refine ps_weak (ps_ret h) fun N σ H ⟨F, Z, L, r, k⟩ => ?_
  unfold mRetO at k
  split at k
  · rename_i m q
    obtain ⟨a, o, h1, h2, h3, h4, h5⟩ := r.own i false m q
    split at k
    · rename_i hp
      exact ⟨_, h1, k a o σ F H (Ex.refl F) h3 (r.hold q h1 h2 h3 h4) (h5.o hp)⟩
    · exact k.elim
  · exact k.elim
def mIfS (t : Ev Bool) (h k : VEnv → RS) : VEnv → RS := fun ρ => (t ρ).thenB fun b ρ' => if b = true then h ρ' else k ρ'
theorem js_if {t : Ev Bool} {h k : VEnv → RS} {ss us : List Stmt} (hc : JT T X W c t) (h1 : JSs T X W ss h) (h2 : JSs T X W us k) : JS T X W (.If c ss us pos) (mIfS t h k) := fun ρ => by
  refine ps_weak (ps_if (hc ρ) (pss_all h1) (pss_all h2)) fun N σ H q => thenB_rd q fun d ρ1 F Z L H1 _ r kk => ?_
  cases d with
  | true => exact iteT ⟨ρ1, F, Z, L, r, by simpa using kk⟩
  | false => exact iteF ⟨ρ1, F, Z, L, r, by simpa using kk⟩
def mAsg (g : Ev D) (t : D → VEnv → Option VEnv) : VEnv → RS := fun ρ => (g ρ).thenS fun d ρ1 => match t d ρ1 with
  | some ρ2 => .nx ρ2
  | none => .stuck
theorem js_asg {g : Ev D} {t : D → VEnv → Option VEnv} {vs : List Nat} (h : JE T X W e g) (hg : JG T X tg vs t) (hs : swapsWithSole [tg] e pos.line X.env = pure false := by rfl) (hw : swappedStores [tg] e X.env = pure none := by rfl)
    (h1 : (assignEach [tg] X.env).map (·.2) = [assign tg X.env] := by rfl) : JS T X W (.Assign [tg] e pos) (mAsg g t) := fun ρ => by
  refine ps_weak (ps_asg (h ρ) hg hs hw h1) fun N σ H q => thenS_rd q fun d ρ1 v F Z L H1 r p k => ?_
  split at k
  · rename_i ρ2 q2
    exact ⟨d, ρ1, ρ2, F, Z, L, q2, r, p, fun σ' F' H' _ _ e' r' => k σ' F' H' e' r'⟩
  · exact k.elim
theorem js_set {i : Nat} {x : Str} {p' : Pos} {g : Ev D} (hN : X.N.Nodup) (hi : X.N[i]? = some x) (hx : Loc X.env.scope x) (h : JE T X W e g) (hs : swapsWith e (some (.Name x p')) pos.line X.env = pure false := by rfl)
    (hf : X.fn x = true ∨ X.env.scope.names.lookup x = some .local := by first | exact .inl rfl | exact .inr rfl | assumption) : JS T X W (.Assign [.Name x p'] e pos) (mAsg g (setV i)) := fun ρ => by
  refine ps_weak (ps_set (i := i) hN hi hx (h ρ) hs hf) fun N σ H q => thenS_rd q fun d ρ1 v F Z L H1 r p k => ?_
  split at k
  · rename_i ρ2 q2
    exact k _ F H1 (Ex.refl F) (r.setV q2 p)
  · exact k.elim
def forGo (t : D → VEnv → Option VEnv) (body : VEnv → RS) : List D → VEnv → RS
  | [], ρ => .nx ρ
  | d :: ds, ρ => match t d ρ with
    | none => .stuck
    | some ρ1 => match body ρ1 with
      | .nx ρ2 => forGo t body ds ρ2
      | .ct ρ2 => forGo t body ds ρ2
      | .bk ρ2 => .nx ρ2
      | r => r
def R.thenL (r : R (List D)) (k : List D → VEnv → RS) : RS := match r with
  | .ok d ρ => k d ρ
  | .ex c ds ρ => .ex c ds ρ
  | .stuck => .stuck
def mFor (src : Ev (List D)) (t : D → VEnv → Option VEnv) (body : VEnv → RS) : VEnv → RS := fun ρ => (src ρ).thenL fun ds ρ' => forGo t body ds ρ'
theorem for_core {J : It} {ds : List D} {t : D → VEnv → Option VEnv} {vs : List Nat} {body : VEnv → RS} {σ : L2.St} {H : Hp} {ρ : VEnv} (it : ItD K T F J ds) (r : Rel K T F Z L σ ρ H) (k : KS K T W F Z L N (forGo t body ds ρ)) :
    ∃ Wv : Nat → Nat → L2.St → Hp → Prop, (∃ m, Wv 0 m σ H) ∧ ∀ i m σ H, Wv i m σ H →
      (J.stop i H ∧ N.nx σ H) ∨ (J.go i H ∧ ∃ M : L2.St → Hp → Prop, (∀ σ' H', M σ' H' → ∃ m', m' < m ∧ Wv (i + 1) m' σ' H') ∧ ∀ x H', J.yld i H x H' → rdG K T vs t x σ H' fun σ2 H2 => ∃ ρ, rdS K T W ρ (body ρ) { N with nx := M, ct := M, bk := N.nx } σ2 H2) := by
  refine ⟨fun i m σ H => m = ds.length - i ∧ i ≤ ds.length ∧ ∃ ρ F', Ex F F' ∧ Rel K T F' Z L σ ρ H ∧ KS K T W F' Z L N (forGo t body (ds.drop i) ρ), ⟨_, rfl, Nat.zero_le _, ρ, F, Ex.refl F, r, k⟩, ?_⟩
  rintro i m σ H ⟨rfl, hi, ρ, F', e1, r1, k1⟩
  by_cases hlt : i < ds.length
  · refine .inr ⟨it.go i H (e1.trans r1.exF) hlt, _, fun σ' H' h => ⟨ds.length - (i + 1), by omega, rfl, hlt, h⟩, fun x H' y => ?_⟩
    have hd : ds[i]? = some ds[i] := by simp [hlt]
    obtain ⟨G, g, px⟩ := it.yld i _ F' H x H' e1 r1.exF hd y
    have r2 := g.2 _ _ _ _ r1
    have k2 : KS K T W G Z L N (forGo t body (ds.drop i) ρ) := k1.mono g.1
    rw [List.drop_eq_getElem_cons hlt] at k2
    simp only [forGo] at k2
    cases q1 : t ds[i] ρ with
    | none => rw [q1] at k2; exact k2.elim
    | some ρ1 =>
      rw [q1] at k2
      refine ⟨ds[i], ρ, ρ1, G, Z, L, q1, r2, px, fun σ3 F3 H3 _ _ e3 r3 => ⟨ρ1, F3, Z, L, r3, ?_⟩⟩
      dsimp only at k2
      cases q2 : body ρ1 with
      | stuck => rw [q2] at k2; exact k2
      | nx ρ2 => rw [q2] at k2; exact fun σ4 F4 H4 e4 r4 => ⟨ρ2, F4, ((e1.trans g.1).trans e3).trans e4, r4, (k2.mono e3).mono e4⟩
      | ct ρ2 => rw [q2] at k2; exact fun σ4 F4 H4 e4 r4 => ⟨ρ2, F4, ((e1.trans g.1).trans e3).trans e4, r4, (k2.mono e3).mono e4⟩
      | bk ρ2 => rw [q2] at k2; exact fun σ4 F4 H4 e4 r4 => k2 σ4 F4 H4 (e3.trans e4) r4
      | rt d ρ2 => rw [q2] at k2; exact fun v σ4 F4 H4 e4 r4 p4 => k2 v σ4 F4 H4 (e3.trans e4) r4 p4
      | rn d ρ2 => rw [q2] at k2; exact fun a o σ4 F4 H4 e4 r4 => k2 a o σ4 F4 H4 (e3.trans e4) r4
      | ex c ds ρ2 => rw [q2] at k2; exact fun cls dd σ4 F4 H4 e4 r4 p4 => k2 cls dd σ4 F4 H4 (e3.trans e4) r4 p4
  · have e : i = ds.length := by omega
    subst e
    rw [List.drop_length] at k1
    exact .inl ⟨it.stop H (e1.trans r1.exF), k1 σ F' H (Ex.refl F') r1⟩
theorem js_for {src : Ev (List D)} {t : D → VEnv → Option VEnv} {vs : List Nat} {body : VEnv → RS} {ss : List Stmt} {iter : Expr} (hp : PassesOwn (model X.prog X.w) X.A X.env X.xe) (hc : X.calm = true) (hi : JI T X W tg iter src) (hg : JG T X tg vs t) (hb : JSs T X W ss body)
    (hf : ∀ x, foldedSetIterable iter X.env x = pure x := by intro _; rfl) : JS T X W (.For tg iter ss [] pos) (mFor src t body) := fun ρ => by
  have p1 := hi ρ
  refine ps_weak (ps_for hp hc p1 hg (pss_all hb) hf) fun N σ H q => ?_
  obtain ⟨F, Z, L, r, k⟩ := q
  unfold mFor at k
  cases q1 : src ρ with
  | stuck => rw [q1] at k; exact k.elim
  | ex c ds ρ1 => rw [q1] at k; exact ⟨F, Z, L, r, fun cls dd F' H' e r' x => k cls dd σ F' H' e r' x⟩
  | ok ds ρ1 =>
    rw [q1] at k
    exact ⟨F, Z, L, r, fun J F' H' e r' it => for_core it r' (k.mono e)⟩
end
end VS
set_option maxHeartbeats 2000000
namespace VS
open PySem L2 PySem.Spec PyProof.Rows
def wipeE (ρ : VEnv) : List Nat → VEnv
  | [] => ρ
  | v :: vs => (wipeE ρ vs).set v none
def cleared (ρ : VEnv) (vs : List Nat) : Bool := vs.all fun i => match ρ[i]? with
  | some (some (Sl.own _ _)) => false
  | _ => true
def restoreE (ρ0 ρ : VEnv) : List Nat → VEnv
  | [] => ρ
  | v :: vs => (restoreE ρ0 ρ vs).set v (match ρ0[v]? with
    | some (some (Sl.val d)) => some (Sl.val d)
    | _ => none)
section
variable {K : PySem.W.Frag} {T : Txt} {F Z H : Hp} {L : Nat → Option Addr} {σ σ' : L2.St} {ρ ρ' : VEnv} {D0 : Addr} {o o' : HO}
theorem wipeE_in {i : Nat} : ∀ {vs : List Nat}, i ∈ vs → ∀ s, (wipeE ρ vs)[i]? ≠ some (some s)
  | v :: vs, h, s => by
    intro q
    unfold wipeE at q
    by_cases hv : v = i
    · subst hv
      by_cases hl : v < (wipeE ρ vs).length
      · rw [List.getElem?_set_self hl] at q; cases q
      · rw [List.getElem?_eq_none (by simpa using hl)] at q; cases q
    · rw [List.getElem?_set_ne hv] at q
      exact wipeE_in (by rcases List.mem_cons.mp h with e | e; exact absurd e.symm hv; exact e) s q
theorem cleared_in {vs : List Nat} (h : cleared ρ vs = true) {i : Nat} (hi : i ∈ vs) (l : Bool) (m : MO) : ρ[i]? ≠ some (some (Sl.own l m)) := by
  intro q
  have := List.all_eq_true.mp h i hi
  rw [q] at this
  cases this
theorem Rel.dropL {i : Nat} (r : Rel K T F Z L σ ρ H) (hl : L i = none) : Rel K T F Z L σ (ρ.set i none) H := by
  have ne : ∀ {j : Nat} {s : Sl}, (ρ.set i none)[j]? = some (some s) → j ≠ i ∧ ρ[j]? = some (some s) := fun {j s} q => by
    by_cases hj : j = i
    · subst hj
      by_cases hi : j < ρ.length
      · rw [List.getElem?_set_self hi] at q; cases q
      · rw [List.getElem?_eq_none (by simpa using hi)] at q; cases q
    · rw [List.getElem?_set_ne (Ne.symm hj)] at q; exact ⟨hj, q⟩
  refine ⟨r.exF, r.exZ, r.dis, by simp [r.len], fun j d q => r.val j d (ne q).2, fun j l m q => r.own j l m (ne q).2, fun j k l m l' m' a q1 q2 q3 q4 => r.sep j k l m l' m' a (ne q1).2 (ne q2).2 q3 q4, fun j a q => ?_, r.bx.sub fun j l m q => ⟨⟨l, (ne q).2⟩, rfl⟩⟩
  obtain ⟨h1, m, h2⟩ := r.lent j a q
  have hj : j ≠ i := fun e => by subst e; rw [hl] at q; cases q
  rw [List.getElem?_set_ne (Ne.symm hj)]
  exact ⟨h1, m, h2⟩
theorem Rel.wipeE : ∀ {vs : List Nat}, (∀ i ∈ vs, L i = none) → Rel K T F Z L σ ρ H → Rel K T F Z L σ (VS.wipeE ρ vs) H
  | [], _, r => r
  | v :: vs, h, r => (Rel.wipeE (fun i hi => h i (List.mem_cons_of_mem _ hi)) r).dropL (h v List.mem_cons_self)
theorem Rel.putVal {i : Nat} {d : D} {v : V} (r : Rel K T F Z L σ ρ H) (hl : L i = none) (hs : σ[i]? = some (some v)) (p : Rep K T F d v) : Rel K T F Z L σ (ρ.set i (some (Sl.val d))) H := by
  have hi : i < ρ.length := by rw [r.len]; exact (List.getElem?_eq_some_iff.mp hs).1
  have ne : ∀ {j : Nat} {l : Bool} {m : MO}, (ρ.set i (some (Sl.val d)))[j]? = some (some (Sl.own l m)) → ρ[j]? = some (some (Sl.own l m)) := fun {j l m} q => by
    by_cases hj : j = i
    · subst hj; rw [List.getElem?_set_self hi] at q; cases q
    · rw [List.getElem?_set_ne (Ne.symm hj)] at q; exact q
  refine ⟨r.exF, r.exZ, r.dis, by simp [r.len], fun j d' q => ?_, fun j l m q => r.own j l m (ne q), fun j k l m l' m' a q1 q2 q3 q4 => r.sep j k l m l' m' a (ne q1) (ne q2) q3 q4, fun j a q => ?_, r.bx.sub fun j l m q => ⟨⟨l, ne q⟩, rfl⟩⟩
  · by_cases hj : j = i
    · subst hj; rw [List.getElem?_set_self hi] at q; cases q; exact ⟨v, hs, p⟩
    · rw [List.getElem?_set_ne (Ne.symm hj)] at q; exact r.val j d' q
  · obtain ⟨h1, m, h2⟩ := r.lent j a q
    have hj : j ≠ i := fun e => by subst e; rw [hl] at q; cases q
    rw [List.getElem?_set_ne (Ne.symm hj)]
    exact ⟨h1, m, h2⟩
theorem Rel.restore {F0 Z0 H0 : Hp} {ρ0 : VEnv} (r0 : Rel K T F0 Z0 L σ ρ0 H0) (e : Ex F0 F) : ∀ {vs : List Nat}, (∀ i ∈ vs, L i = none) → Rel K T F Z L σ ρ H → Rel K T F Z L σ (restoreE ρ0 ρ vs) H
  | [], _, r => r
  | v :: vs, h, r => by
    have r1 := Rel.restore r0 e (fun i hi => h i (List.mem_cons_of_mem _ hi)) r
    unfold restoreE
    split
    · rename_i d q
      obtain ⟨x, h1, h2⟩ := r0.val v d q
      exact r1.putVal (h v List.mem_cons_self) h1 (h2.mono e)
    · exact r1.dropL (h v List.mem_cons_self)
theorem Rel.sig {vs : List Nat} (r : Rel K T F Z L σ ρ H) (hs : ∀ i : Nat, i ∉ vs → σ'[i]? = σ[i]?) (hl : σ'.length = σ.length) (hn : ∀ i ∈ vs, ∀ s, ρ[i]? ≠ some (some s)) (hL : ∀ i ∈ vs, L i = none) : Rel K T F Z L σ' ρ H := by
  have out : ∀ {i : Nat} {s : Sl}, ρ[i]? = some (some s) → σ'[i]? = σ[i]? := fun {i s} q => hs i fun hi => hn i hi s q
  refine ⟨r.exF, r.exZ, r.dis, r.len.trans hl.symm, fun j d q => by rw [out q]; exact r.val j d q, fun j l m q => by rw [out q]; exact r.own j l m q, fun j k l m l' m' a q1 q2 q3 q4 => ?_, fun j a q => ?_, r.bx.sub fun j l m q => ⟨⟨l, q⟩, out q⟩⟩
  · rw [out q1] at q3; rw [out q2] at q4; exact r.sep j k l m l' m' a q1 q2 q3 q4
  · obtain ⟨h1, m, h2⟩ := r.lent j a q
    exact ⟨by rw [out h2]; exact h1, m, h2⟩
theorem Rel.zNew (r : Rel K T F Z L σ ρ H) (n : H D0 = none) : Rel K T F (upd Z D0 o) L σ ρ (upd H D0 o) where
  exF := fun a u e => by rw [upd_ne (ne_of_none (r.exF a u e) n)]; exact r.exF a u e
  exZ := fun a u e => by
    by_cases h : a = D0
    · subst h; rw [upd_same] at e ⊢; exact e
    · rw [upd_ne h] at e ⊢; exact r.exZ a u e
  dis := fun a u e => by rw [upd_ne (ne_of_none (r.exF a u e) n)]; exact r.dis a u e
  len := r.len
  val := r.val
  own := fun i l m e => by
    obtain ⟨a, u, h1, h2, h3, h4, h5⟩ := r.own i l m e
    have ne : a ≠ D0 := ne_of_none h4 n
    exact ⟨a, u, h1, h2, by rw [upd_ne ne]; exact h3, by rw [upd_ne ne]; exact h4, h5⟩
  sep := r.sep
  lent := r.lent
  bx := r.bxH (Ex.refl F) fun a u h1 h2 h3 => by
    have ne : a ≠ D0 := ne_of_none h3 n
    exact ⟨h1, by rw [upd_ne ne]; exact h2, by rw [upd_ne ne]; exact h3⟩
theorem Rel.zSet (r : Rel K T F (upd Z D0 o) L σ ρ H) : Rel K T F (upd Z D0 o') L σ ρ (upd H D0 o') where
  exF := fun a u e => by
    have h : a ≠ D0 := fun h => by subst h; have := r.dis a u e; rw [upd_same] at this; cases this
    rw [upd_ne h]; exact r.exF a u e
  exZ := fun a u e => by
    by_cases h : a = D0
    · subst h; rw [upd_same] at e ⊢; exact e
    · rw [upd_ne h] at e ⊢; exact r.exZ a u (by rw [upd_ne h]; exact e)
  dis := fun a u e => by
    have q := r.dis a u e
    have h : a ≠ D0 := fun h => by subst h; rw [upd_same] at q; cases q
    rw [upd_ne h] at q ⊢; exact q
  len := r.len
  val := r.val
  own := fun i l m e => by
    obtain ⟨a, u, h1, h2, h3, h4, h5⟩ := r.own i l m e
    have ne : a ≠ D0 := fun h => by subst h; rw [upd_same] at h3; cases h3
    rw [upd_ne ne] at h3
    exact ⟨a, u, h1, h2, by rw [upd_ne ne]; exact h3, by rw [upd_ne ne]; exact h4, h5⟩
  sep := r.sep
  lent := r.lent
  bx := r.bxH (Ex.refl F) fun a u h1 h2 h3 => by
    have ne : a ≠ D0 := fun h => by subst h; rw [upd_same] at h2; cases h2
    rw [upd_ne ne] at h2
    exact ⟨h1, by rw [upd_ne ne]; exact h2, by rw [upd_ne ne]; exact h3⟩
theorem Rel.zF (r : Rel K T F (upd Z D0 o) L σ ρ H) (hz : Z D0 = none) : Rel K T (upd F D0 o) Z L σ ρ H := by
  have fn : F D0 = none := by
    cases q : F D0 with
    | none => rfl
    | some u => have := r.dis D0 u q; rw [upd_same] at this; cases this
  have e : Ex F (upd F D0 o) := Ex.new fn
  have bx : Bx K T (upd F D0 o) Z σ ρ H := r.bxH e fun a u h1 h2 h3 => by
    have ne : a ≠ D0 := fun h => by subst h; rw [upd_same] at h2; cases h2
    rw [upd_ne ne] at h2
    exact ⟨by rw [upd_ne ne]; exact h1, h2, h3⟩
  refine ⟨fun a u q => ?_, fun a u q => ?_, fun a u q => ?_, r.len, fun i d q => ?_, fun i l m q => ?_, r.sep, r.lent, bx⟩
  · by_cases h : a = D0
    · subst h; rw [upd_same] at q; exact r.exZ a u (by rw [upd_same]; exact q)
    · rw [upd_ne h] at q; exact r.exF a u q
  · exact r.exZ a u (by rw [upd_ne (ne_of_none q hz)]; exact q)
  · by_cases h : a = D0
    · subst h; exact hz
    · rw [upd_ne h] at q; have := r.dis a u q; rw [upd_ne h] at this; exact this
  · obtain ⟨v, h1, h2⟩ := r.val i d q; exact ⟨v, h1, h2.mono e⟩
  · obtain ⟨a, u, h1, h2, h3, h4, h5⟩ := r.own i l m q
    have ne : a ≠ D0 := fun h => by subst h; rw [upd_same] at h3; cases h3
    rw [upd_ne ne] at h3
    exact ⟨a, u, h1, by rw [upd_ne ne]; exact h2, h3, h4, h5.mono e⟩
theorem Rel.zDrop (r : Rel K T F (upd Z D0 o) L σ ρ H) (hz : Z D0 = none) : Rel K T F Z L σ ρ H ∧ F D0 = none ∧ H D0 = some o ∧ ∀ (i : Nat) (l : Bool) (m : MO), ρ[i]? = some (some (Sl.own l m)) → σ[i]? ≠ some (some (V.ref D0)) := by
  have fn : F D0 = none := by
    cases q : F D0 with
    | none => rfl
    | some u => have := r.dis D0 u q; rw [upd_same] at this; cases this
  have bx : Bx K T F Z σ ρ H := r.bxH (Ex.refl F) fun a u h1 h2 h3 => by
    have ne : a ≠ D0 := fun h => by subst h; rw [upd_same] at h2; cases h2
    rw [upd_ne ne] at h2
    exact ⟨h1, h2, h3⟩
  refine ⟨⟨r.exF, fun a u q => r.exZ a u (by rw [upd_ne (ne_of_none q hz)]; exact q), fun a u q => ?_, r.len, r.val, fun i l m q => ?_, r.sep, r.lent, bx⟩, fn, r.exZ D0 o upd_same, fun i l m q z => ?_⟩
  · have := r.dis a u q
    have h : a ≠ D0 := fun h => by subst h; rw [upd_same] at this; cases this
    rw [upd_ne h] at this; exact this
  · obtain ⟨a, u, h1, h2, h3, h4, h5⟩ := r.own i l m q
    have ne : a ≠ D0 := fun h => by subst h; rw [upd_same] at h3; cases h3
    rw [upd_ne ne] at h3
    exact ⟨a, u, h1, h2, h3, h4, h5⟩
  · obtain ⟨a, u, h1, h2, h3, h4, h5⟩ := r.own i l m q
    rw [z] at h1
    cases h1
    rw [upd_same] at h3; cases h3
end
theorem wipe_eq {σ τ : L2.St} {vs : List Nat} (h : ∀ i : Nat, i ∉ vs → τ[i]? = σ[i]?) (hl : τ.length = σ.length) : wipe τ vs = wipe σ vs := by
  apply List.ext_getElem?
  intro i
  by_cases hi : i ∈ vs
  · have none_of : ∀ {υ : L2.St}, (wipe υ vs)[i]? = if i < υ.length then some none else none := fun {υ} => by
      by_cases hl : i < υ.length
      · rw [if_pos hl]
        have hl' : i < (wipe υ vs).length := by rw [wipe_length]; exact hl
        have e : (wipe υ vs)[i]? = some ((wipe υ vs)[i]) := by simp [hl']
        rw [e]
        cases q : (wipe υ vs)[i] with
        | none => rfl
        | some x => rw [q] at e; exact absurd hi (wipe_some e).2
      · rw [if_neg hl]
        exact List.getElem?_eq_none (by rw [wipe_length]; omega)
    rw [none_of, none_of, hl]
  · rw [wipe_out hi, wipe_out hi, h i hi]
def JTs (T : Txt) (X : Cx) (W : WX) (es : List Expr) (g : Ev Bool) : Prop := ∀ ρ, PTs X es (rdT X.K T W ρ (g ρ))
def mYes : Ev Bool := fun ρ => .ok true ρ
section
variable {T : Txt} {X : Cx} {W : WX} {tg iter elt e a b c : Expr} {ifs : List Expr} {pos p : Pos} {K : PySem.W.Frag}
theorem jts_nil : JTs T X W [] mYes := fun ρ => ⟨fun pins s σ H Q I ⟨F, Z, L, r, k⟩ => (pts_nil (X := X)).run pins s σ H Q I (k F H (Ex.refl F) r)⟩
theorem jts_one {g : Ev Bool} (h : JT T X W c g) : JTs T X W [c] g := fun ρ => pts_one (h ρ)
abbrev W0 : WX := fun _ _ _ _ => False
def lcGo (vs : List Nat) (t : D → VEnv → Option VEnv) (tt : Ev Bool) (te : Ev D) : List D → List D → VEnv → R (List D)
  | [], acc, ρ => .ok acc ρ
  | d :: ds, acc, ρ => match t d ρ with
    | none => .stuck
    | some ρ1 => match tt ρ1 with
      | .ok true ρ2 => match te ρ2 with
        | .ok y ρ3 => if acc.length < lim then lcGo vs t tt te ds (acc ++ [y]) (wipeE ρ3 vs) else .stuck
        | _ => .stuck
      | .ok false ρ2 => lcGo vs t tt te ds acc (wipeE ρ2 vs)
      | _ => .stuck
def mLcL (src : Ev (List D)) (vs : List Nat) (t : D → VEnv → Option VEnv) (tt : Ev Bool) (te : Ev D) : Ev (List D) := fun ρ => (src ρ).bind fun ds ρ' => if cleared ρ' vs = true then (lcGo vs t tt te ds [] (wipeE ρ' vs)).bind fun zs ρf => .ok zs (restoreE ρ' ρf vs) else .stuck
theorem lc_coreV {src : Ev (List D)} {vs ws : List Nat} {t : D → VEnv → Option VEnv} {tt : Ev Bool} {te : Ev D} (hws : ∀ i ∈ ws, i ∈ vs) {ρ : VEnv} {σ : L2.St} {H : Hp} {Q : VK} {zs : List D} {ρf : VEnv} (hz : mLcL src vs t tt te ρ = .ok zs ρf)
    {F Z : Hp} {L : Nat → Option Addr} (r : Rel K T F Z L σ ρ H) (k : ∀ D0 acc F' H', Ex F F' → Z D0 = none → Rel K T F' (upd Z D0 (.lst acc)) L σ ρf H' → Reps K T F' zs acc → Q (.ref D0) H') :
    tLc (rdI K T W ρ (src ρ)) (rdG K T ws t) (fun σ H Q => ∃ ρ, rdT K T W0 ρ (tt ρ) σ H Q) (fun σ H Q => ∃ ρ, rdE K T W0 ρ (te ρ) σ H Q) vs σ H Q := by
  unfold mLcL at hz
  cases q1 : src ρ with
  | stuck => rw [q1] at hz; cases hz
  | ex c ds ρ1 => rw [q1] at hz; cases hz
  | ok ds ρ1 =>
    rw [q1] at hz
    simp only [R.bind_ok] at hz
    split at hz
    · rename_i hcl
      obtain ⟨ρe, hz2, hρf⟩ : ∃ ρe, lcGo vs t tt te ds [] (wipeE ρ1 vs) = .ok zs ρe ∧ ρf = restoreE ρ1 ρe vs := by
        cases q5 : lcGo vs t tt te ds [] (wipeE ρ1 vs) with
        | stuck => rw [q5] at hz; cases hz
        | ex c ds ρ1 => rw [q5] at hz; cases hz
        | ok z ρe => rw [q5] at hz; simp only [R.bind_ok] at hz; cases hz; exact ⟨ρe, rfl, rfl⟩
      refine ⟨F, Z, L, r, fun J F1 H1 e1 r1 it D0 hD => ?_⟩
      have hZD : Z D0 = none := r1.exZ.none hD
      have hLn : ∀ i ∈ vs, L i = none := fun i hi => by
        cases q : L i with
        | none => rfl
        | some a => obtain ⟨_, m, h2⟩ := r1.lent i a q; exact absurd h2 (cleared_in hcl hi _ _)
      have r2 : Rel K T F1 (upd Z D0 (.lst [])) L (wipe σ vs) (wipeE ρ1 vs) (upd H1 D0 (.lst [])) := ((r1.zNew hD).wipeE hLn).sig (fun i hi => wipe_out hi) (wipe_length σ vs) (fun i hi => wipeE_in hi) hLn
      refine ⟨fun i m H => m = ds.length - i ∧ i ≤ ds.length ∧ ∃ ρi F' acc ys, Ex F1 F' ∧ Rel K T F' (upd Z D0 (.lst acc)) L (wipe σ vs) ρi H ∧ Reps K T F' ys acc ∧ (∀ i ∈ vs, ∀ s, ρi[i]? ≠ some (some s)) ∧ lcGo vs t tt te (ds.drop i) ys ρi = .ok zs ρe,
        ⟨_, rfl, Nat.zero_le _, wipeE ρ1 vs, F1, [], [], Ex.refl F1, r2, rfl, fun i hi => wipeE_in hi, hz2⟩, ?_⟩
      rintro i m H ⟨rfl, hi, ρi, F', acc, ys, e2, r3, ra, hn, hgo⟩
      by_cases hlt : i < ds.length
      · refine .inr ⟨it.go i H (e2.trans r3.exF) hlt, _, fun H' h => ⟨ds.length - (i + 1), by omega, rfl, hlt, h⟩, fun x H' y => ?_⟩
        have hd : ds[i]? = some ds[i] := by simp [hlt]
        obtain ⟨G, g, px⟩ := it.yld i _ F' H x H' e2 r3.exF hd y
        have r4 := g.2 _ _ _ _ r3
        rw [List.drop_eq_getElem_cons hlt] at hgo
        simp only [lcGo] at hgo
        cases q2 : t ds[i] ρi with
        | none => rw [q2] at hgo; cases hgo
        | some ρ2 =>
          rw [q2] at hgo
          dsimp only at hgo
          refine ⟨ds[i], ρi, ρ2, G, upd Z D0 (.lst acc), L, q2, r4, px, fun σ5 F5 H5 s5 l5 e5 r5 => ⟨?_, ρ2, ?_⟩⟩
          · have s6 : ∀ i : Nat, i ∉ vs → σ5[i]? = σ[i]? := fun i hi => by rw [s5 i (fun z => hi (hws i z)), wipe_out hi]
            exact wipe_eq s6 (l5.trans (wipe_length σ vs))
          · have s6 : ∀ i : Nat, i ∉ vs → (wipe σ vs)[i]? = σ5[i]? := fun i hi => (s5 i (fun z => hi (hws i z))).symm
            have l6 : (wipe σ vs).length = σ5.length := l5.symm
            cases q3 : tt ρ2 with
            | stuck => rw [q3] at hgo; cases hgo
            | ex c ds ρ3 => rw [q3] at hgo; cases hgo
            | ok t3 ρ3 =>
              rw [q3] at hgo
              cases t3 with
              | false =>
                dsimp only at hgo
                refine ⟨F5, _, L, r5, fun F6 H6 e6 r6 => iteF ⟨_, F6, acc, ys, (e2.trans (g.1.trans e5)).trans e6, ?_, ((ra.mono g.1).mono e5).mono e6, fun i hi => wipeE_in hi, hgo⟩⟩
                exact (r6.wipeE hLn).sig s6 l6 (fun i hi => wipeE_in hi) hLn
              | true =>
                dsimp only at hgo
                refine ⟨F5, _, L, r5, fun F6 H6 e6 r6 => iteT ⟨ρ3, ?_⟩⟩
                cases q4 : te ρ3 with
                | stuck => rw [q4] at hgo; cases hgo
                | ex c ds ρ4 => rw [q4] at hgo; cases hgo
                | ok y4 ρ4 =>
                  rw [q4] at hgo
                  dsimp only at hgo
                  split at hgo
                  · rename_i hlen
                    refine ⟨F6, _, L, r6, fun v F7 H7 e7 r7 p7 => ⟨acc, r7.exZ _ _ upd_same, ?_, ?_⟩⟩
                    · rw [ra.length]; exact lt_line hlen
                    · refine ⟨_, F7, acc ++ [v], ys ++ [y4], (((e2.trans (g.1.trans e5)).trans e6).trans e7), ?_, ((((ra.mono g.1).mono e5).mono e6).mono e7).append (Reps.one p7), fun i hi => wipeE_in hi, hgo⟩
                      exact ((r7.zSet).wipeE hLn).sig s6 l6 (fun i hi => wipeE_in hi) hLn
                  · cases hgo
      · have e : i = ds.length := by omega
        subst e
        rw [List.drop_length] at hgo
        simp only [lcGo] at hgo
        cases hgo
        refine .inl ⟨it.stop H (e2.trans r3.exF), k D0 acc F' H (e1.trans e2) hZD ?_ ra⟩
        rw [hρf]
        exact r1.restore e2 hLn (r3.sig (fun i hi => (wipe_out hi).symm) (wipe_length σ vs).symm hn hLn)
    · cases hz
def mLc (src : Ev (List D)) (vs : List Nat) (t : D → VEnv → Option VEnv) (tt : Ev Bool) (te : Ev D) : Ev D := fun ρ => (mLcL src vs t tt te ρ).bind fun zs ρf => .ok (.lst zs) ρf
theorem lcGo_ok {vs : List Nat} {t : D → VEnv → Option VEnv} {tt : Ev Bool} {te : Ev D} : ∀ {ds acc : List D} {ρ : VEnv} {c : Nat} {es : List D} {ρ' : VEnv}, lcGo vs t tt te ds acc ρ ≠ .ex c es ρ'
  | [], acc, ρ, c, es, ρ' => by intro h; cases h
  | d :: ds, acc, ρ, c, es, ρ' => by
    intro h
    simp only [lcGo] at h
    cases q2 : t d ρ with
    | none => rw [q2] at h; cases h
    | some ρ2 =>
      rw [q2] at h; dsimp only at h
      cases q3 : tt ρ2 with
      | stuck => rw [q3] at h; cases h
      | ex c ds ρ3 => rw [q3] at h; cases h
      | ok t3 ρ3 =>
        rw [q3] at h
        cases t3 with
        | false => exact lcGo_ok h
        | true =>
          dsimp only at h
          cases q4 : te ρ3 with
          | stuck => rw [q4] at h; cases h
          | ex c ds ρ4 => rw [q4] at h; cases h
          | ok y4 ρ4 =>
            rw [q4] at h; dsimp only at h
            split at h
            · exact lcGo_ok h
            · cases h
theorem je_lc {src : Ev (List D)} {vs ws : List Nat} {t : D → VEnv → Option VEnv} {tt : Ev Bool} {te : Ev D} {scope : Scope} {own : List (Str × Nat)} (hc : X.calm = true) (hN : X.N.Nodup) (hi : JI T X W tg iter src) (ok : BlkOk X.N X.env.scope scope own) (hv : own.map (·.2) = vs)
    (hg : ∀ (s : Shared) (H : Hp) (C : Addr) (cl : List (Str × Addr)) (fp : List Addr), JG T (X.blk s H scope (compEnvC scope cl C X.env) fp) tg ws t)
    (ht : ∀ (s : Shared) (H : Hp) (C : Addr) (cl : List (Str × Addr)) (fp : List Addr), JTs T (X.blk s H scope (compEnvC scope cl C X.env) fp) W0 ifs tt)
    (he : ∀ (s : Shared) (H : Hp) (C : Addr) (cl : List (Str × Addr)) (fp : List Addr), JE T (X.blk s H scope (compEnvC scope cl C X.env) fp) W0 elt te) (hws : ∀ i ∈ ws, i ∈ vs)
    (hf : ∀ x, foldedSetIterable iter X.env x = pure x := by intro _; rfl) : JE T X W (.ListComp elt [⟨tg, iter, ifs, 0⟩] scope pos) (mLc src vs t tt te) := fun ρ => by
  subst hv
  have rule := pe_lc (pos := pos) (g := rdG X.K T ws t) (tt := fun σ H Q => ∃ ρ, rdT X.K T W0 ρ (tt ρ) σ H Q) (te := fun σ H Q => ∃ ρ, rdE X.K T W0 ρ (te ρ) σ H Q) hc hN (hi ρ) ok (fun s H C cl fp => hg s H C cl fp)
    (fun s H C cl fp => ⟨fun pins s' σ' H' Q' I ⟨ρ', q⟩ => (ht s H C cl fp ρ').run pins s' σ' H' Q' I q⟩) (fun s H C cl fp => ⟨fun pins s' σ' H' Q' I ⟨ρ', q⟩ => (he s H C cl fp ρ').run pins s' σ' H' Q' I q⟩) hf
  refine pe_weak rule fun σ H Q q => ?_
  unfold mLc at q
  cases q1 : mLcL src (own.map (·.2)) t tt te ρ with
  | stuck => rw [q1] at q; exact q.elim
  | ex c ds ρ1 =>
    rw [q1] at q
    unfold mLcL at q1
    cases q2 : src ρ with
    | stuck => rw [q2] at q1; cases q1
    | ex c' ds' ρ2 => rw [q2] at q1; cases q1; exact q
    | ok ds' ρ2 =>
      rw [q2] at q1
      simp only [R.bind_ok] at q1
      split at q1
      · cases q5 : lcGo (own.map (·.2)) t tt te ds' [] (wipeE ρ2 (own.map (·.2))) with
        | stuck => rw [q5] at q1; cases q1
        | ex c ds ρ1 => exact absurd q5 lcGo_ok
        | ok z ρe => rw [q5] at q1; cases q1
      · cases q1
  | ok zs ρf =>
    rw [q1] at q
    obtain ⟨F, Z, L, r, k⟩ := q
    exact lc_coreV hws q1 r fun D0 acc F' H' e hz r' ra => k _ _ H' (e.trans (Ex.new (by
      cases q : F' D0 with
      | none => rfl
      | some u => have := r'.dis D0 u q; rw [upd_same] at this; cases this))) (r'.zF hz) ⟨D0, acc, rfl, upd_same, ra.mono (Ex.new (r'.zDrop hz).2.1)⟩
end
end VS
set_option maxHeartbeats 2000000
namespace VS
open PySem L2 PySem.Spec PyProof.Rows
section
variable {T : Txt} {X : Cx} {W : WX} {st : Stmt} {sts : List Stmt} {tg iter elt e a b c : Expr} {es ifs : List Expr} {pos p : Pos} {K : PySem.W.Frag}
def rdF (K : PySem.W.Frag) (T : Txt) (W : WX) (ρ : VEnv) : R MO → TE
  | .stuck => fun _ _ _ => False
  | .ok m ρ' => fun σ H Q => ∃ F Z L, Rel K T F Z L σ ρ H ∧ ∀ a o F' H', Ex F F' → Z a = none → Rel K T F' (upd Z a o) L σ ρ' H' → RepO K T F' m o → Q (.ref a) H'
  | .ex c ds ρ' => fun σ H _ => ∃ F Z L, Rel K T F Z L σ ρ H ∧ ∀ cls dd F' H', Ex F F' → Rel K T F' Z L σ ρ' H' → ExR K T F' cls dd c ds → W cls dd σ H'
def JF (T : Txt) (X : Cx) (W : WX) (e : Expr) (g : Ev MO) : Prop := ∀ ρ, PE X e (rdF X.K T W ρ (g ρ))
def mLstO (g : Ev (List D)) : Ev MO := fun ρ => (g ρ).bind fun ds ρ' => if ds.length ≤ lim then .ok (.lst ds) ρ' else .stuck
theorem jf_lst {g : Ev (List D)} (h : JA T X W es g) : JF T X W (.List es pos) (mLstO g) := fun ρ => by
  have p1 := h ρ
  unfold mLstO
  cases q1 : g ρ with
  | stuck => exact pe_no
  | ex c ds ρ1 => rw [q1] at p1; exact pe_weak (pe_lst p1) fun σ H Q q => q
  | ok ds ρ1 =>
    rw [q1] at p1
    simp only [R.bind_ok]
    split
    · rename_i hz
      refine pe_weak (pe_lst p1) fun σ H Q ⟨F, Z, L, r, k⟩ => ⟨F, Z, L, r, fun vs F1 H1 e1 r1 x1 => ⟨by rw [x1.length]; exact le_line hz, fun p hp => ?_⟩⟩
      exact k p (.lst vs) F1 _ e1 (r1.exZ.none hp) (r1.zNew hp) ⟨vs, rfl, x1⟩
    · exact pe_no
def mDictO : Ev MO := fun ρ => .ok (.dct []) ρ
theorem jf_dict : JF T X W (.Dict [] [] pos) mDictO := fun ρ => pe_weak pe_dnewK fun σ H Q ⟨F, Z, L, r, k⟩ p hp => k p (.dK []) F _ (Ex.refl F) (r.exZ.none hp) (r.zNew hp) ⟨[], rfl, rfl⟩
def addO : D → D → Option MO
  | .lst xs, .lst ys => if xs.length + ys.length ≤ lim then some (.lst (xs ++ ys)) else none
  | _, _ => none
def setO (i : Nat) (m : MO) (ρ : VEnv) : Option VEnv := match ρ[i]? with
  | some (some (Sl.own true _)) => none
  | some _ => some (ρ.set i (some (Sl.own false m)))
  | none => none
end
section
variable {K : PySem.W.Frag} {T : Txt} {F Z H : Hp} {L : Nat → Option Addr} {σ : L2.St} {ρ ρ' : VEnv}
theorem setO_some {i : Nat} {m : MO} (h : setO i m ρ = some ρ') : i < ρ.length ∧ (∀ m, ρ[i]? ≠ some (some (Sl.own true m))) ∧ ρ' = ρ.set i (some (Sl.own false m)) := by
  unfold setO at h
  split at h
  · cases h
  · rename_i o hne q
    cases h
    exact ⟨(List.getElem?_eq_some_iff.mp q).1, fun m e => by rw [q] at e; cases e; exact hne m rfl, rfl⟩
  · cases h
theorem Rel.setO {i : Nat} {m : MO} {a : Addr} {o : HO} (r : Rel K T F (upd Z a o) L σ ρ H) (hz : Z a = none) (h : VS.setO i m ρ = some ρ') (p : RepO K T F m o) : Rel K T F Z L (σ.set i (some (.ref a))) ρ' H := by
  obtain ⟨hi, hl, rfl⟩ := setO_some h
  obtain ⟨r0, hF, hH, hno⟩ := r.zDrop hz
  have hs : i < σ.length := by rw [← r.len]; exact hi
  have nb : ∀ {j : Nat} {l : Bool} {n : MO}, (ρ.set i (some (Sl.own false m)))[j]? = some (some (Sl.own l n)) → (j = i ∧ n = m) ∨ (j ≠ i ∧ ρ[j]? = some (some (Sl.own l n)) ∧ (σ.set i (some (V.ref a)))[j]? = σ[j]?) := fun {j l n} q => by
    by_cases hj : j = i
    · subst hj; rw [List.getElem?_set_self hi] at q; cases q; exact .inl ⟨rfl, rfl⟩
    · rw [List.getElem?_set_ne (Ne.symm hj)] at q; exact .inr ⟨hj, q, List.getElem?_set_ne (Ne.symm hj)⟩
  have inn : ∀ {j k : Nat} {io : IO} {b : Addr}, Inn (σ.set i (some (V.ref a))) (ρ.set i (some (Sl.own false m))) H j k io b → Inn σ ρ H j k io b := fun {j k io b} ⟨l, c, fs, a', o', h1, h2, h3, h4, h5⟩ => by
    rcases nb h1 with ⟨_, e⟩ | ⟨_, q, e⟩
    · exact absurd e.symm p.nobox
    · exact ⟨l, c, fs, a', o', q, h2, by rw [← e]; exact h3, h4, h5⟩
  refine ⟨r0.exF, r0.exZ, r0.dis, by simp [r.len], fun j d' q => ?_, fun j l m q => ?_, fun j k l m l' m' a' q1 q2 q3 q4 => ?_, fun j a' q => ?_, r0.bx.gen (Ex.refl F) (fun j k io b h => inn h) (fun j k io b h h1 h2 o h3 => ⟨h1, h2, h3⟩) fun j k io b j' l m' h q1 q2 => ?_⟩
  · by_cases hj : j = i
    · subst hj; rw [List.getElem?_set_self hi] at q; cases q
    · rw [List.getElem?_set_ne (Ne.symm hj)] at q ⊢
      exact r0.val j d' q
  · by_cases hj : j = i
    · subst hj
      rw [List.getElem?_set_self hi] at q; cases q
      exact ⟨a, o, List.getElem?_set_self hs, hF, hz, hH, p.s⟩
    · rw [List.getElem?_set_ne (Ne.symm hj)] at q ⊢
      exact r0.own j l m q
  · by_cases hj : j = i
    · by_cases hk : k = i
      · rw [hj, hk]
      · subst hj
        rw [List.getElem?_set_self hs] at q3
        rw [List.getElem?_set_ne (Ne.symm hk)] at q2 q4
        cases q3
        exact absurd q4 (hno k _ _ q2)
    · by_cases hk : k = i
      · subst hk
        rw [List.getElem?_set_self hs] at q4
        rw [List.getElem?_set_ne (Ne.symm hj)] at q1 q3
        cases q4
        exact absurd q3 (hno j _ _ q1)
      · rw [List.getElem?_set_ne (Ne.symm hj)] at q1 q3
        rw [List.getElem?_set_ne (Ne.symm hk)] at q2 q4
        exact r0.sep j k l m l' m' a' q1 q2 q3 q4
  · obtain ⟨h1, m, h2⟩ := r0.lent j a' q
    have hj : j ≠ i := fun e => by subst e; exact hl m h2
    rw [List.getElem?_set_ne (Ne.symm hj), List.getElem?_set_ne (Ne.symm hj)]
    exact ⟨h1, m, h2⟩
  · rcases nb q1 with ⟨e, _⟩ | ⟨_, q, e⟩
    · subst e
      rw [List.getElem?_set_self hs] at q2
      cases q2
      have := (r.bx.nest j k io a (inn h)).2.1
      rw [upd_same] at this; cases this
    · exact ⟨j', l, m', q, by rw [← e]; exact q2⟩
theorem Rel.ownSet {i : Nat} {l : Bool} {m m' : MO} {a : Addr} {o' : HO} (r : Rel K T F Z L σ ρ H) (hi : ρ[i]? = some (some (Sl.own l m))) (ha : σ[i]? = some (some (.ref a))) (p : RepO K T F m' o') : Rel K T F Z L σ (ρ.set i (some (Sl.own l m'))) (upd H a o') := by
  obtain ⟨a0, o0, h1, h2, h3, h4, h5⟩ := r.own i l m hi
  have ea : a0 = a := by rw [ha] at h1; cases h1; rfl
  subst ea
  have hlt : i < ρ.length := (List.getElem?_eq_some_iff.mp hi).1
  have old : ∀ {j : Nat} {l' : Bool} {n : MO}, (ρ.set i (some (Sl.own l m')))[j]? = some (some (Sl.own l' n)) → ∃ n', ρ[j]? = some (some (Sl.own l' n')) := fun {j l' n} q => by
    by_cases hj : j = i
    · subst hj; rw [List.getElem?_set_self hlt] at q; cases q; exact ⟨m, hi⟩
    · rw [List.getElem?_set_ne (Ne.symm hj)] at q; exact ⟨n, q⟩
  have inn : ∀ {j k : Nat} {io : IO} {b : Addr}, Inn σ (ρ.set i (some (Sl.own l m'))) (upd H a0 o') j k io b → Inn σ ρ H j k io b := fun {j k io b} ⟨l0, c, fs, a', o2, g1, g2, g3, g4, g5⟩ => by
    by_cases hj : j = i
    · subst hj
      rw [List.getElem?_set_self hlt] at g1
      cases g1
      exact p.elim
    · rw [List.getElem?_set_ne (Ne.symm hj)] at g1
      have ne : a' ≠ a0 := fun e => hj (r.sep j i _ _ _ _ a0 g1 hi (e ▸ g3) h1)
      rw [upd_ne ne] at g4
      exact ⟨l0, c, fs, a', o2, g1, g2, g3, g4, g5⟩
  refine ⟨fun b u q => ?_, fun b u q => ?_, r.dis, by simp [r.len], fun j d q => ?_, fun j l' n q => ?_, fun j k l1 n1 l2 n2 b q1 q2 q3 q4 => ?_, fun j b q => ?_, r.bx.gen (Ex.refl F) (fun j k io b h => inn h) (fun j k io b h k1 k2 o k3 => ?_) fun j k io b j' l2 n2 h q1 q2 => ?_⟩
  · rw [upd_ne (ne_of_none q h2)]; exact r.exF b u q
  · rw [upd_ne (ne_of_none q h3)]; exact r.exZ b u q
  · by_cases hj : j = i
    · subst hj; rw [List.getElem?_set_self hlt] at q; cases q
    · rw [List.getElem?_set_ne (Ne.symm hj)] at q; exact r.val j d q
  · by_cases hj : j = i
    · subst hj
      rw [List.getElem?_set_self hlt] at q; cases q
      exact ⟨a0, o', h1, h2, h3, upd_same, p.s⟩
    · rw [List.getElem?_set_ne (Ne.symm hj)] at q
      obtain ⟨b, u, g1, g2, g3, g4, g5⟩ := r.own j l' n q
      have nb : b ≠ a0 := fun e => hj (r.sep j i _ _ _ _ a0 q hi (e ▸ g1) h1)
      exact ⟨b, u, g1, g2, g3, by rw [upd_ne nb]; exact g4, g5⟩
  · obtain ⟨n1', q1⟩ := old q1
    obtain ⟨n2', q2⟩ := old q2
    exact r.sep j k _ _ _ _ b q1 q2 q3 q4
  · obtain ⟨g1, n, g2⟩ := r.lent j b q
    refine ⟨g1, ?_⟩
    by_cases hj : j = i
    · subst hj
      rw [hi] at g2; cases g2
      exact ⟨m', List.getElem?_set_self hlt⟩
    · exact ⟨n, by rw [List.getElem?_set_ne (Ne.symm hj)]; exact g2⟩
  · have ne : b ≠ a0 := fun e => by subst e; exact r.bx.nsep j k io b i _ _ (inn h) hi h1
    exact ⟨k1, k2, by rw [upd_ne ne]; exact k3⟩
  · obtain ⟨n', q⟩ := old q1
    exact ⟨j', l2, n', q, q2⟩
end
section
variable {T : Txt} {X : Cx} {W : WX} {st : Stmt} {sts : List Stmt} {tg iter elt e a b c : Expr} {es ifs : List Expr} {pos p : Pos} {K : PySem.W.Frag}
def R.thenM (r : R MO) (k : MO → VEnv → RS) : RS := match r with
  | .ok d ρ => k d ρ
  | .ex c ds ρ => .ex c ds ρ
  | .stuck => .stuck
def mSetO (i : Nat) (g : Ev MO) : VEnv → RS := fun ρ => (g ρ).thenM fun m ρ1 => match setO i m ρ1 with
  | some ρ2 => .nx ρ2
  | none => .stuck
theorem js_setF {i : Nat} {x : Str} {p' : Pos} {g : Ev MO} (hN : X.N.Nodup) (hi : X.N[i]? = some x) (hx : Loc X.env.scope x) (h : JF T X W e g) (hs : swapsWith e (some (.Name x p')) pos.line X.env = pure false := by rfl)
    (hf : X.fn x = true ∨ X.env.scope.names.lookup x = some .local := by first | exact .inl rfl | exact .inr rfl | assumption) : JS T X W (.Assign [.Name x p'] e pos) (mSetO i g) := fun ρ => by
  refine ps_weak (ps_set (i := i) hN hi hx (h ρ) hs hf) fun N σ H q => ?_
  obtain ⟨F, Z, L, r, k⟩ := q
  unfold mSetO at k
  cases q1 : g ρ with
  | stuck => rw [q1] at k; exact k.elim
  | ex c ds ρ1 => rw [q1] at k; exact ⟨F, Z, L, r, fun cls dd F' H' e r' x => k cls dd σ F' H' e r' x⟩
  | ok m ρ1 =>
    rw [q1] at k
    refine ⟨F, Z, L, r, fun a o F' H' e hz r' x => ?_⟩
    simp only [R.thenM] at k
    split at k
    · rename_i ρ2 q2
      exact k _ F' H' e (r'.setO hz q2 x)
    · exact k.elim
def mRetF (g : Ev MO) : VEnv → RS := fun ρ => (g ρ).thenM fun m ρ1 => .rn m ρ1
theorem js_retF {g : Ev MO} (h : JF T X W e g) : JS T X W (.Return (some e) pos) (mRetF g) := fun ρ => by
  refine ps_weak (ps_ret (h ρ)) fun N σ H q => ?_
  obtain ⟨F, Z, L, r, k⟩ := q
  unfold mRetF at k
  cases q1 : g ρ with
  | stuck => rw [q1] at k; exact k.elim
  | ex c ds ρ1 => rw [q1] at k; exact ⟨F, Z, L, r, fun cls dd F' H' e r' x => k cls dd σ F' H' e r' x⟩
  | ok m ρ1 =>
    rw [q1] at k
    refine ⟨F, Z, L, r, fun a o F' H' e hz r' x => ?_⟩
    exact k a o σ F' H' e hz r' x
def mAppend (i : Nat) (g : Ev D) : VEnv → RS := fun ρ => match ρ[i]? with
  | some (some (Sl.own _ (.lst _))) => (g ρ).thenS fun d ρ' => match ρ'[i]? with
    | some (some (Sl.own l (.lst xs))) => if xs.length < lim then .nx (ρ'.set i (some (Sl.own l (.lst (xs ++ [d]))))) else .stuck
    | _ => .stuck
  | _ => .stuck
theorem js_append {i : Nat} {g : Ev D} {apos cpos : Pos} (ho : PE X a (tVar i)) (h : JE T X W e g) (hs : swapsWith (.Call (.Attribute a "append" apos) [e] [] cpos) none pos.line X.env = pure false := by rfl) (h1 : attributeBase a "append" X.env (eval a X.env) = eval a X.env := by rfl)
    (h2 : (((backTo cpos (starEach (e :: []) X.env)).all fun x => !x.fst) && (backToKw cpos (keywordEach [] X.env)).all fun x => x.fst.isSome) && decide (((e :: []).length + ([] : List Keyword).length + if ([] : List Keyword).isEmpty = true then 0 else 1) < 30) = true := by rfl)
    (h3 : (apos.endLine == cpos.line) = true := by rfl) (h4 : starEach (e :: []) X.env = (false, eval e X.env) :: starEach [] X.env := by rfl) (h5 : (backTo cpos (starEach [] X.env)).any (·.1) = false := by rfl) :
    JS T X W (.Expr (.Call (.Attribute a "append" apos) [e] [] cpos) pos) (mAppend i g) := fun ρ => by
  have p1 := h ρ
  have rule := ps_expr (pos := pos) (pe_bm PySem.F.plainAttrs_list PySem.F.slot_list_append PySem.F.type_list_append mt_append ho (pa_cons p1 pa_nil h4) h1 h2 h3 h4 h5) hs
  refine ps_weak rule fun N σ H q => ?_
  obtain ⟨F, Z, L, r, k⟩ := q
  unfold mAppend at k
  split at k
  · rename_i l0 xs0 q0
    obtain ⟨a0, o0, g1, g2, g3, g4, vs0, g5, g6⟩ := r.own i l0 _ q0
    refine ⟨_, g1, .inl ⟨rfl, vs0, SqL.of (by rw [g4, g5])⟩, ?_⟩
    refine thenS_rd ⟨F, Z, L, r, k⟩ fun d ρ1 v F1 Z1 L1 H1 r1 pv k1 => ?_
    split at k1
    · rename_i l xs q1
      obtain ⟨a1, o1, f1, f2, f3, f4, vs1, f5, f6⟩ := r1.own i l _ q1
      have ea : a1 = a0 := by rw [g1] at f1; cases f1; rfl
      subst ea
      split at k1
      · rename_i hlen
        refine ⟨a1, vs1, v, rfl, rfl, by rw [f4, f5], by rw [f6.length]; exact lt_line hlen, ?_⟩
        exact k1 σ F1 _ (Ex.refl F1) (r1.ownSet q1 f1 ⟨_, rfl, f6.append (Reps.one pv)⟩)
      · exact k1.elim
    · exact k1.elim
  · exact k.elim
def tgItem (i : Nat) (gk : Ev D) (d : D) (ρ : VEnv) : Option VEnv := match ρ[i]? with
  | some (some (Sl.own _ (.lst _))) => match gk ρ with
    | .ok (.int k) ρ' => match ρ'[i]? with
      | some (some (Sl.own l (.lst xs))) => (ixN xs.length k).map fun j => ρ'.set i (some (Sl.own l (.lst (xs.set j d))))
      | _ => none
    | _ => none
  | _ => none
theorem jg_item {i : Nat} {gk : Ev D} (ho : PE X a (tVar i)) (hk : JE T X W b gk)
    (ha : ∀ v, assign (.Subscript a b pos) X.env v = (do
      let ov ← holding [v] (eval a X.env)
      let iv ← holding [v, ov] (eval b X.env)
      standAt pos
      holding [v, ov, iv] (setItem ov iv v)
      release [v, ov, iv] []) := by intro _; rfl) : JG T X (.Subscript a b pos) [] (tgItem i gk) := by
  refine pg_weak (pg_sub ho (pe_all hk) set_list ha) fun v σ H Q ⟨d, ρ, ρ', F, Z, L, q, r, p, k⟩ => ?_
  unfold tgItem at q
  split at q
  · rename_i l0 xs0 q0
    obtain ⟨a0, o0, g1, g2, g3, g4, vs0, g5, g6⟩ := r.own i l0 _ q0
    refine ⟨_, g1, ρ, ?_⟩
    cases q1 : gk ρ with
    | stuck => rw [q1] at q; cases q
    | ex c ds ρ1 => rw [q1] at q; cases q
    | ok x ρ1 =>
      rw [q1] at q
      refine ⟨F, Z, L, r, fun w F1 H1 e1 r1 px => ?_⟩
      cases x with
      | int n =>
        dsimp only at q
        split at q
        · rename_i l xs q2
          obtain ⟨a1, o1, f1, f2, f3, f4, vs1, f5, f6⟩ := r1.own i l _ q2
          have ea : a1 = a0 := by rw [g1] at f1; cases f1; rfl
          subst ea
          cases q3 : ixN xs.length n with
          | none => rw [q3] at q; cases q
          | some j =>
            rw [q3] at q
            cases q
            refine ⟨a1, vs1, n, j, rfl, px, by rw [f4, f5], by rw [f6.length]; exact q3, ?_⟩
            exact k σ F1 _ (fun _ _ => rfl) rfl e1 (r1.ownSet q2 f1 ⟨_, rfl, f6.set (p.mono e1) j⟩)
        · cases q
      | _ => cases q
  · cases q
end
end VS
set_option maxHeartbeats 2000000
namespace VS
open PySem L2 PySem.Spec PyProof.Rows
inductive Arg where
  | v (d : D) | l (m : MO)
inductive Res where
  | ok (d : D) | nw (m : MO) | ex (c : Nat) (ds : List D)
abbrev Fn := List Arg → Option (Res × List MO)
def slotOf : Arg → Option Sl
  | .v d => some (.val d)
  | .l m => some (.own true m)
def lentOf (vs : List V) (as : List Arg) : Nat → Option Addr := fun i => match as[i]?, vs[i]? with
  | some (.l _), some (.ref a) => some a
  | _, _ => none
def upArgs : List Arg → List MO → List Arg
  | [], _ => []
  | .v d :: as, ms => .v d :: upArgs as ms
  | .l _ :: as, m :: ms => .l m :: upArgs as ms
  | .l m :: as, [] => .l m :: upArgs as []
abbrev RelA (K : PySem.W.Frag) (T : Txt) (F Z : Hp) (vs : List V) (as : List Arg) (H : Hp) : Prop := Rel K T F Z (lentOf vs as) (vs.map some) (as.map slotOf) H
def KR (K : PySem.W.Frag) (T : Txt) (F Z : Hp) (vs : List V) (as : List Arg) (Q : VK) (E : XK) : Res → Prop
  | .ok d => ∀ v F' H, Ex F F' → RelA K T F' Z vs as H → Rep K T F' d v → Q v H
  | .nw m => ∀ a o F' H, Ex F F' → Z a = none → RelA K T F' (upd Z a o) vs as H → RepO K T F' m o → Q (.ref a) H
  | .ex c ds => ∀ cls dd F' H, Ex F F' → RelA K T F' Z vs as H → ExR K T F' cls dd c ds → E cls dd H
def spG (K : PySem.W.Frag) (T : Txt) (G : Fn) (n : Nat) : Sp := fun vs H Q E => ∃ F Z as r ms, vs.length = n ∧ RelA K T F Z vs as H ∧ G as = some (r, ms) ∧ KR K T F Z vs (upArgs as ms) Q E r
def lents : Nat → List Arg → VEnv → Option (List MO)
  | _, [], _ => some []
  | i, .v _ :: as, ρ => lents (i + 1) as ρ
  | i, .l _ :: as, ρ => match ρ[i]? with
    | some (some (Sl.own true m)) => (lents (i + 1) as ρ).map (m :: ·)
    | _ => none
def startE (n : Nat) (as : List Arg) : VEnv := as.map slotOf ++ List.replicate (n - as.length) none
def runG (n : Nat) (h : VEnv → RS) : Fn := fun as => match h (startE n as) with
  | .nx ρ => (lents 0 as ρ).map fun ms => (.ok .non, ms)
  | .rt d ρ => (lents 0 as ρ).map fun ms => (.ok d, ms)
  | .rn m ρ => (lents 0 as ρ).map fun ms => (.nw m, ms)
  | .ex c ds ρ => (lents 0 as ρ).map fun ms => (.ex c ds, ms)
  | _ => none
section
variable {K : PySem.W.Frag} {T : Txt} {F F' Z H H' : Hp} {vs : List V} {as : List Arg}
theorem upArgs_length : ∀ (as : List Arg) (ms : List MO), (upArgs as ms).length = as.length
  | [], _ => rfl
  | .v d :: as, ms => by simp [upArgs, upArgs_length as ms]
  | .l _ :: as, m :: ms => by simp [upArgs, upArgs_length as ms]
  | .l m :: as, [] => by simp [upArgs, upArgs_length as []]
theorem upArgs_v : ∀ {as : List Arg} {ms : List MO} {i : Nat} {d : D}, (upArgs as ms)[i]? = some (.v d) ↔ as[i]? = some (.v d)
  | [], ms, i, d => by simp [upArgs]
  | .v d' :: as, ms, 0, d => by simp [upArgs]
  | .v d' :: as, ms, i + 1, d => by simpa [upArgs] using upArgs_v (as := as) (ms := ms) (i := i) (d := d)
  | .l _ :: as, m :: ms, 0, d => by simp [upArgs]
  | .l _ :: as, m :: ms, i + 1, d => by simpa [upArgs] using upArgs_v (as := as) (ms := ms) (i := i) (d := d)
  | .l m :: as, [], 0, d => by simp [upArgs]
  | .l m :: as, [], i + 1, d => by simpa [upArgs] using upArgs_v (as := as) (ms := []) (i := i) (d := d)
theorem upArgs_l : ∀ {as : List Arg} {ms : List MO} {i : Nat} {m : MO}, (upArgs as ms)[i]? = some (.l m) → ∃ m', as[i]? = some (.l m')
  | [], ms, i, m, h => by simp [upArgs] at h
  | .v d' :: as, ms, 0, m, h => by simp [upArgs] at h
  | .v d' :: as, ms, i + 1, m, h => by simpa using upArgs_l (as := as) (ms := ms) (i := i) (m := m) (by simpa [upArgs] using h)
  | .l m0 :: as, m1 :: ms, 0, m, h => ⟨m0, rfl⟩
  | .l _ :: as, m1 :: ms, i + 1, m, h => by simpa using upArgs_l (as := as) (ms := ms) (i := i) (m := m) (by simpa [upArgs] using h)
  | .l m0 :: as, [], 0, m, h => ⟨m0, rfl⟩
  | .l m0 :: as, [], i + 1, m, h => by simpa using upArgs_l (as := as) (ms := []) (i := i) (m := m) (by simpa [upArgs] using h)
theorem lentOf_up (vs : List V) (as : List Arg) (ms : List MO) : lentOf vs (upArgs as ms) = lentOf vs as := by
  funext i
  unfold lentOf
  cases q : as[i]? with
  | none =>
    have : (upArgs as ms)[i]? = none := by
      rw [List.getElem?_eq_none_iff] at q ⊢
      rw [upArgs_length]; exact q
    rw [this]
  | some x =>
    cases x with
    | v d => rw [upArgs_v.mpr q]
    | l m =>
      have hlt : i < (upArgs as ms).length := by rw [upArgs_length]; exact (List.getElem?_eq_some_iff.mp q).1
      have e : (upArgs as ms)[i]? = some ((upArgs as ms)[i]) := by simp [hlt]
      rw [e]
      cases q2 : (upArgs as ms)[i] with
      | v d => rw [q2] at e; rw [upArgs_v.mp e] at q; cases q
      | l m' =>
        cases vs[i]? with
        | none => rfl
        | some w => cases w <;> rfl
theorem lents_up : ∀ {as : List Arg} {ms : List MO} {ρ : VEnv} {k i : Nat} {m : MO}, lents k as ρ = some ms → (upArgs as ms)[i]? = some (.l m) → ρ[k + i]? = some (some (Sl.own true m))
  | [], ms, ρ, k, i, m, h, q => by simp [upArgs] at q
  | .v d :: as, ms, ρ, k, 0, m, h, q => by simp [upArgs] at q
  | .v d :: as, ms, ρ, k, i + 1, m, h, q => by
    have := lents_up (as := as) (ms := ms) (ρ := ρ) (k := k + 1) (i := i) (m := m) h (by simpa [upArgs] using q)
    rw [show k + (i + 1) = k + 1 + i by omega]; exact this
  | .l m0 :: as, ms, ρ, k, i, m, h, q => by
    simp only [lents] at h
    split at h
    · rename_i m1 q1
      cases q2 : lents (k + 1) as ρ with
      | none => rw [q2] at h; cases h
      | some ns =>
        rw [q2] at h
        cases h
        cases i with
        | zero => simp [upArgs] at q; subst q; exact q1
        | succ i =>
          have := lents_up (as := as) (ms := ns) (ρ := ρ) (k := k + 1) (i := i) (m := m) q2 (by simpa [upArgs] using q)
          rw [show k + (i + 1) = k + 1 + i by omega]; exact this
    · cases h
theorem getSlot {as : List Arg} {i : Nat} {s : Sl} (h : (as.map slotOf)[i]? = some (some s)) : (∃ d, as[i]? = some (.v d) ∧ s = .val d) ∨ ∃ m, as[i]? = some (.l m) ∧ s = .own true m := by
  rw [List.getElem?_map] at h
  cases q : as[i]? with
  | none => rw [q] at h; cases h
  | some x =>
    rw [q] at h
    cases x with
    | v d => cases h; exact .inl ⟨d, rfl, rfl⟩
    | l m => cases h; exact .inr ⟨m, rfl, rfl⟩
theorem RelA.start {n : Nat} (N : List Str) (hn : N.length = n) (r : RelA K T F Z vs as H) : Rel K T F Z (lentOf vs as) (L2.start N vs) (startE n as) H := by
  have hl : as.length = vs.length := by have := r.len; simpa using this
  have inS : ∀ {i : Nat} {s : Sl}, (startE n as)[i]? = some (some s) → (as.map slotOf)[i]? = some (some s) ∧ (L2.start N vs)[i]? = (vs.map some)[i]? := fun {i s} q => by
    unfold startE at q
    by_cases hi : i < as.length
    · rw [List.getElem?_append_left (by simpa using hi)] at q
      refine ⟨q, ?_⟩
      unfold L2.start
      rw [List.getElem?_append_left (by rw [List.length_map]; omega)]
    · rw [List.getElem?_append_right (by simpa using hi)] at q
      rw [List.getElem?_replicate] at q
      split at q <;> cases q
  refine ⟨r.exF, r.exZ, r.dis, ?_, fun i d q => ?_, fun i l m q => ?_, fun i j l m l' m' a q1 q2 q3 q4 => ?_, fun i a q => ?_, r.bx.sub fun i l m q => ⟨⟨l, (inS q).1⟩, (inS q).2⟩⟩
  · unfold startE L2.start
    rw [List.length_append, List.length_append, List.length_map, List.length_map, List.length_replicate, List.length_replicate, hl, hn]
  · obtain ⟨h1, h2⟩ := inS q; rw [h2]; exact r.val i d h1
  · obtain ⟨h1, h2⟩ := inS q; rw [h2]; exact r.own i l m h1
  · obtain ⟨h1, h2⟩ := inS q1
    obtain ⟨h3, h4⟩ := inS q2
    rw [h2] at q3; rw [h4] at q4
    exact r.sep i j l m l' m' a h1 h3 q3 q4
  · obtain ⟨h1, m, h2⟩ := r.lent i a q
    have hi : i < as.length := by
      have := (List.getElem?_eq_some_iff.mp h2).1
      simpa using this
    refine ⟨?_, m, ?_⟩
    · unfold L2.start
      rw [List.getElem?_append_left (by rw [List.length_map]; omega)]; exact h1
    · unfold startE
      rw [List.getElem?_append_left (by simpa using hi)]; exact h2
theorem RelA.fin {ms : List MO} {σ : L2.St} {ρ : VEnv} {Z' : Hp} (r0 : RelA K T F Z vs as H) (e : Ex F F') (r : Rel K T F' Z' (lentOf vs as) σ ρ H') (hm : lents 0 as ρ = some ms) : RelA K T F' Z' vs (upArgs as ms) H' := by
  have hl : as.length = vs.length := by have := r0.len; simpa using this
  have lentAt : ∀ {i : Nat} {m : MO}, (upArgs as ms)[i]? = some (.l m) → ∃ a, vs[i]? = some (.ref a) ∧ lentOf vs as i = some a ∧ σ[i]? = some (some (.ref a)) ∧ ρ[i]? = some (some (Sl.own true m)) := fun {i m} q => by
    obtain ⟨m', q'⟩ := upArgs_l q
    have qs : (as.map slotOf)[i]? = some (some (Sl.own true m')) := by rw [List.getElem?_map, q']; rfl
    obtain ⟨a, o, h1, _⟩ := r0.own i true m' qs
    have hv : vs[i]? = some (.ref a) := by
      rw [List.getElem?_map] at h1
      cases z : vs[i]? with
      | none => rw [z] at h1; cases h1
      | some w => rw [z] at h1; cases h1; rfl
    have hL : lentOf vs as i = some a := by unfold lentOf; rw [q', hv]
    have hρ := lents_up (k := 0) hm q
    rw [Nat.zero_add] at hρ
    exact ⟨a, hv, hL, (r.lent i a hL).1, hρ⟩
  have bx : Bx K T F' Z' (vs.map some) ((upArgs as ms).map slotOf) H' := r.bx.sub fun i l m q => by
    rcases getSlot q with ⟨d', q', e'⟩ | ⟨m', q', e'⟩
    · cases e'
    · cases e'
      obtain ⟨a, hv, hL, hs, hρ⟩ := lentAt q'
      exact ⟨⟨true, hρ⟩, by rw [List.getElem?_map, hv, hs]; rfl⟩
  refine ⟨r.exF, r.exZ, r.dis, by simp [upArgs_length, hl], fun i d q => ?_, fun i l m q => ?_, fun i j l m l' m' a q1 q2 q3 q4 => ?_, fun i a q => ?_, bx⟩
  · rcases getSlot q with ⟨d', q', e'⟩ | ⟨m, q', e'⟩
    · cases e'
      have qs : (as.map slotOf)[i]? = some (some (Sl.val d)) := by rw [List.getElem?_map, upArgs_v.mp q']; rfl
      obtain ⟨v, h1, h2⟩ := r0.val i d qs
      exact ⟨v, h1, h2.mono e⟩
    · cases e'
  · rcases getSlot q with ⟨d', q', e'⟩ | ⟨m', q', e'⟩
    · cases e'
    · cases e'
      obtain ⟨a, hv, hL, hs, hρ⟩ := lentAt q'
      obtain ⟨a2, o, h1, h2, h3, h4, h5⟩ := r.own i true m hρ
      have ea : a2 = a := by rw [hs] at h1; cases h1; rfl
      subst ea
      exact ⟨a2, o, by rw [List.getElem?_map, hv]; rfl, h2, h3, h4, h5⟩
  · rcases getSlot q1 with ⟨d', q', e'⟩ | ⟨n1, q', e'⟩
    · cases e'
    · cases e'
      rcases getSlot q2 with ⟨d', q'', e'⟩ | ⟨n2, q'', e'⟩
      · cases e'
      · cases e'
        obtain ⟨a1, hv1, hL1, hs1, hρ1⟩ := lentAt q'
        obtain ⟨a2, hv2, hL2, hs2, hρ2⟩ := lentAt q''
        rw [List.getElem?_map, hv1] at q3
        rw [List.getElem?_map, hv2] at q4
        cases q3
        cases q4
        exact r.sep i j _ _ _ _ _ hρ1 hρ2 hs1 hs2
  · rw [lentOf_up] at q
    obtain ⟨h1, m, h2⟩ := r0.lent i a q
    refine ⟨h1, ?_⟩
    rcases getSlot h2 with ⟨d', q', e'⟩ | ⟨n1, q', e'⟩
    · cases e'
    · have hlt : i < (upArgs as ms).length := by rw [upArgs_length]; exact (List.getElem?_eq_some_iff.mp q').1
      have e : (upArgs as ms)[i]? = some ((upArgs as ms)[i]) := by simp [hlt]
      cases q2 : (upArgs as ms)[i] with
      | v d => rw [q2] at e; rw [upArgs_v.mp e] at q'; cases q'
      | l m' => rw [q2] at e; exact ⟨m', by rw [List.getElem?_map, e]; rfl⟩
theorem runG_ok {W : WX} {n : Nat} {N : List Str} {h : VEnv → RS} {Q : VK} {E : XK} (hn : N.length = n) (hW : ∀ cls dd σ H, E cls dd H → W cls dd σ H) (hs : spG K T (runG n h) m vs H Q E) :
    ∃ ρ, rdS K T W ρ (h ρ) { nx := fun _ H' => Q .non H', rt := Q } (L2.start N vs) H := by
  obtain ⟨F, Z, as, r, ms, hl, ra, hg, k⟩ := hs
  refine ⟨startE n as, F, Z, lentOf vs as, ra.start N hn, ?_⟩
  unfold runG at hg
  cases q : h (startE n as) with
  | nx ρ =>
    rw [q] at hg
    dsimp only at hg
    cases q2 : lents 0 as ρ with
    | none => rw [q2] at hg; cases hg
    | some ms' => rw [q2] at hg; cases hg; exact fun σ F' H' e r => k _ F' H' e (ra.fin e r q2) rfl
  | rt d ρ =>
    rw [q] at hg
    dsimp only at hg
    cases q2 : lents 0 as ρ with
    | none => rw [q2] at hg; cases hg
    | some ms' => rw [q2] at hg; cases hg; exact fun v σ F' H' e r p => k _ F' H' e (ra.fin e r q2) p
  | rn m ρ =>
    rw [q] at hg
    dsimp only at hg
    cases q2 : lents 0 as ρ with
    | none => rw [q2] at hg; cases hg
    | some ms' =>
      rw [q2] at hg; cases hg
      exact fun a o σ F' H' e hz r p => k a o F' H' e hz (ra.fin e r q2) p
  | ex c ds ρ =>
    rw [q] at hg
    dsimp only at hg
    cases q2 : lents 0 as ρ with
    | none => rw [q2] at hg; cases hg
    | some ms' => rw [q2] at hg; cases hg; exact fun cls dd σ F' H' e r p => hW _ _ _ _ (k cls dd F' H' e (ra.fin e r q2) p)
  | bk ρ => rw [q] at hg; cases hg
  | ct ρ => rw [q] at hg; cases hg
  | stuck => rw [q] at hg; cases hg
end
end VS
set_option maxHeartbeats 2000000
namespace VS
open PySem L2 PySem.Spec PyProof.Rows
structure FnG (P : Program) (w : World) (K : PySem.W.Frag) (mg : Str → Option Value) (base : Heap) (k : Nat) (f : Addr) (fd : FuncData) (ps : List Str) (sp : Sp) : Prop where
  len : ∀ {vs H Q E}, sp vs H Q E → vs.length = ps.length
  run : ∀ {A outer s H args us vs Q E}, A.guards = some [] → Room k A → Env0 P w K mg base A outer s H → BindsTo s fd args (ps.zip us) → Vals vs us → sp vs H Q E →
    codeAny (model P w) A (.call (.ref f) args) (CR (L2.CX P w) outer P w H s Q E) s
theorem FnG.mono {P : Program} {w : World} {K : PySem.W.Frag} {mg : Str → Option Value} {base : Heap} {j k : Nat} {f : Addr} {fd : FuncData} {ps : List Str} {sp : Sp} (h : FnG P w K mg base j f fd ps sp) (hjk : j ≤ k) : FnG P w K mg base k f fd ps sp :=
  ⟨h.len, fun g hr => h.run g (hr.mono hjk)⟩
theorem fnG_of {P : Program} {w : World} {K : PySem.W.Frag} {mg : Str → Option Value} {base : Heap} {k : Nat} {x qual : Str} {pa : Arguments} {bd : List Stmt} {sc : Scope} {dvs : List V} {kws : List (Str × V)} {f : Addr} {fd : FuncData} {N ps : List Str} {sp : Sp}
    (D0 : FunD K x qual pa bd sc dvs kws f fd) (S : FnScope N ps sc) (len : ∀ {vs H Q E}, sp vs H Q E → vs.length = ps.length)
    (body : ∀ {cdv A outer s H vs Q E}, A.guards = some [] → Room k (A.deeper (envOfC qual sc s.heap.objs.size f cdv)) → sp vs H Q E →
      ∃ t, PSs (cxOf (L2.CX P w) P w K mg base N qual sc f cdv A outer s H E) bd t ∧ t { nx := fun _ G => Q .non G, rt := Q } (L2.start N vs) H) : FnG P w K mg base (k + 1) f fd ps sp := by
  obtain ⟨oc, od, dV, kV, doc, pm, an, cdv, ct, osl, e, lk, hcd, _, _⟩ := D0.ex
  subst e
  refine ⟨len, ?_⟩
  intro A outer s H args us vs Q E hA hr e0 hb rv hsp
  have inK : K.In s.heap := e0.mod.kin.keeps fun b o z => (e0.bs b o z).1
  have noL : s.heap.NoLimit := e0.mod.nolimit.keeps fun b o z => (e0.bs b o z).1
  have kinds : ∀ y ∈ ps.zip us, sc.names.lookup y.1 = some .local ∨ (sc.names.lookup y.1 = some .cell ∧ ((cellsFrom (s.heap.objs.size + 1) sc.names []).lookup y.1).isSome = true) := by
    rintro ⟨n, u⟩ hy
    cases S.par n (List.of_mem_zip hy).1 with
    | inl z => exact Or.inl z
    | inr z => exact Or.inr ⟨z, PySem.W.cellsFrom_some _ _ _ (Or.inl z)⟩
  refine codeAny_call_function hr.depth (inK _ _ lk) rfl S.co S.gen rfl (PySem.W.codeRec_of inK hcd) (hb _ _ _ _ ?_)
  refine wpAny_newFunctionEnv_cells S.kind kinds ?_
  intro env he s1 ic
  subst he
  refine ⟨noL.keeps ic.toInCall.keep, codeAny_func ?_⟩
  obtain ⟨t, pt, hq⟩ := body (cdv := cdv) (outer := outer) hA (hr.deeper _) hsp
  have J := inv_start (CX := L2.CX P w) (E := E) S hr.hd e0 (len hsp) rv ic
  have done : ∀ {τ : L2.St} {G : Hp} {v : V} {u : Value} {s2 : Shared}, Inv (cxOf (L2.CX P w) P w K mg base N qual sc f cdv A outer s H E) [] τ G s2 → RelV v u → Q v G → CE outer P w H s Q u s2 := by
    intro τ G v u s2 j r q
    exact ⟨v, G, j.os, j.bare, j.base, j.hok, r, q⟩
  refine wpAny_mono (pt.run [] s1 (L2.start N vs) H _ J hq) ?_ (fun _ _ z => z)
  intro fl s2 z
  cases fl with
  | ret u => obtain ⟨v, τ, G, j, r, q⟩ := z; exact done j r q
  | next => obtain ⟨τ, G, j, q⟩ := z; exact done (v := .non) (u := .none) j rfl q
  | brk => obtain ⟨_, _, _, q⟩ := z; exact q.elim
  | cont => obtain ⟨_, _, _, q⟩ := z; exact q.elim
section
variable {X : Cx} {k : Nat} {f C : Addr} {fd : FuncData} {ps : List Str} {sp : Sp} {dvs : List V} {ds : List Value} {W : WX} {x m : Str} {p pos apos : Pos} {e o : Expr} {es : List Expr} {ta : TE} {t : TA}
theorem callG_run {pins : List (Addr × Obj)} {σ : L2.St} {H : Hp} {s : Shared} {Q : VK} {us : List Value} {vs : List V} (G : FnG X.prog X.w X.K X.mg X.base k f fd ps sp) (hA : X.A.guards = some []) (hr : Room k X.A) (hb : Binds X.K fd ps ds) (hd : Vals dvs ds) (tk : Takes X W)
    (I : Inv X pins σ H s) (r : Vals vs us) (h : sp (vs ++ dvs) H Q (WE W σ)) : wpAny (model X.prog X.w) X.A (call (.ref f) us) (EP X pins σ Q) X.xe s := by
  have r2 : Vals (vs ++ dvs) (us ++ ds) := r.append hd
  have hl : (us ++ ds).length = ps.length := r2.length.symm.trans (G.len h)
  refine wpAny_call (codeAny_mono (G.run (args := ⟨us, []⟩) hA hr I.env0 (hb s us I.kIn hl) r2 h) ?_)
  intro z s2 hz
  cases z with
  | error u => exact passAt tk σ pins H s u s2 I hz
  | ok fl =>
    cases fl with
    | ret u => exact I.after hz
    | next => exact hz.elim
    | brk => exact hz.elim
    | cont => exact hz.elim
def tCallG (sp : Sp) (dvs : List V) (W : WX) (t : TA) : TE := fun σ H Q => t σ H fun vs H1 => sp (vs ++ dvs) H1 Q (WE W σ)
theorem pe_callG (G : FnG X.prog X.w X.K X.mg X.base k f fd ps sp) (hA : X.A.guards = some []) (hr : Room k X.A) (hg : Gl X x) (hm : X.mg x = some (.ref f)) (hk : PySem.W.keepIn X.K (.ref f) = true) (hb : Binds X.K fd ps ds) (hd : Vals dvs ds) (tk : Takes X W)
    (ha : PA X (e :: es) t) (hdb : (x == ("__debug__" : Str)) = false) (he : starEach (e :: es) X.env = (false, eval e X.env) :: starEach es X.env) (hpl : (backTo pos (starEach es X.env)).any (·.1) = false) :
    PE X (.Call (.Name x p) (e :: es) [] pos) (tCallG sp dvs W t) := ⟨fun pins s σ H Q I h => by
  refine wpAny_Call_Name_kw (ld_glob I hg hm ?_ hdb)
  refine PySem.W.callWith_K (h₀ := X.base) I.ok.mod.kin hk (thn (ha.run pos pins s σ H _ I h) ?_) he hpl
  rintro us s1 ⟨vs, H1, I1, r, q⟩
  exact ⟨I1.kIn, callG_run G hA hr hb hd tk I1 r q⟩⟩
theorem pe_callG0 (G : FnG X.prog X.w X.K X.mg X.base k f fd ps sp) (hA : X.A.guards = some []) (hr : Room k X.A) (hg : Gl X x) (hm : X.mg x = some (.ref f)) (hk : PySem.W.keepIn X.K (.ref f) = true) (hb : Binds X.K fd ps ds) (hd : Vals dvs ds) (tk : Takes X W)
    (hdb : (x == ("__debug__" : Str)) = false) : PE X (.Call (.Name x p) [] [] pos) (tCallG sp dvs W tNil) := ⟨fun pins s σ H Q I h => by
  refine wpAny_Call_Name_kw (ld_glob I hg hm ?_ hdb)
  exact PySem.W.callWith_K0 I.kIn hk (callG_run (us := []) G hA hr hb hd tk I .nil h)⟩
def tMethG (C : Addr) (m : Str) (sp : Sp) (dvs : List V) (W : WX) (ta : TE) (t : TA) : TE := fun σ H Q => ta σ H fun v H1 => ∃ a dx fs, v = .ref a ∧ H1 a = some (.ins C dx fs) ∧ fs.lookup m = none ∧
  t σ H1 fun vs H2 => sp (v :: (vs ++ dvs)) H2 Q (WE W σ)
theorem pe_methG {pl : Sem Bool} (he : PE X o ta) (c : Cls X.K C) (hm : Meth X.K C m f) (G : FnG X.prog X.w X.K X.mg X.base k f fd ps sp) (hA : X.A.guards = some []) (hr : Room k X.A) (hb : Binds X.K fd ps ds) (hd : Vals dvs ds) (tk : Takes X W) (ha : PA X (e :: es) t)
    (hst : starEach (e :: es) X.env = (false, eval e X.env) :: starEach es X.env) (hpl : (backTo pos (starEach es X.env)).any (·.1) = false)
    (ht : eval (.Call (.Attribute o m apos) (e :: es) [] pos) X.env = (do
      let ov ← eval o X.env
      standAt apos.atName
      let (f, first) ← holding [ov] (getMethod ov m pl)
      callWith pos f first (backTo pos (starEach (e :: es) X.env)) (backToKw pos (keywordEach [] X.env)))) :
    PE X (.Call (.Attribute o m apos) (e :: es) [] pos) (tMethG C m sp dvs W ta t) := ⟨fun pins s σ H Q I h => by
  refine PySem.W.methodCall_KW (pl := pl) (thn (he.run pins s σ H _ I h) ?_) ht
  rintro u s1 ⟨x, H1, I1, rx, a, dx, fs, ex, ea, l, q⟩
  subst ex
  obtain rfl : u = Value.ref a := rx
  refine getmeth_ok I1 ea c hm l ?_
  refine PySem.W.callWith_K (first := [.ref a]) (h₀ := X.base) I.ok.mod.kin hm.kp (thn (ha.run pos pins s1 σ H1 _ I1 q) ?_) hst hpl
  rintro us s2 ⟨vs, H2, I2, r, q2⟩
  exact ⟨I2.kIn, callG_run (us := .ref a :: us) (vs := .ref a :: vs) G hA hr hb hd tk I2 (.cons rfl r) q2⟩⟩
theorem pe_methG0 {pl : Sem Bool} (he : PE X o ta) (c : Cls X.K C) (hm : Meth X.K C m f) (G : FnG X.prog X.w X.K X.mg X.base k f fd ps sp) (hA : X.A.guards = some []) (hr : Room k X.A) (hb : Binds X.K fd ps ds) (hd : Vals dvs ds) (tk : Takes X W)
    (ht : eval (.Call (.Attribute o m apos) [] [] pos) X.env = (do
      let ov ← eval o X.env
      standAt apos.atName
      let (f, first) ← holding [ov] (getMethod ov m pl)
      callWith pos f first (backTo pos (starEach [] X.env)) (backToKw pos (keywordEach [] X.env)))) :
    PE X (.Call (.Attribute o m apos) [] [] pos) (tMethG C m sp dvs W ta tNil) := ⟨fun pins s σ H Q I h => by
  refine PySem.W.methodCall_KW (pl := pl) (thn (he.run pins s σ H _ I h) ?_) ht
  rintro u s1 ⟨x, H1, I1, rx, a, dx, fs, ex, ea, l, q⟩
  subst ex
  obtain rfl : u = Value.ref a := rx
  refine getmeth_ok I1 ea c hm l ?_
  exact PySem.W.callWith_K0 (first := [.ref a]) I1.kIn hm.kp (callG_run (us := [.ref a]) (vs := [.ref a]) G hA hr hb hd tk I1 (.cons rfl .nil) q)⟩
def tMakeG (C : Addr) (sp : Sp) (dvs : List V) (W : WX) (t : TA) : TE := fun σ H Q => t σ H fun vs H1 => ∀ a dx, H1 a = none → H1 dx = none → dx ≠ a →
  sp (.ref a :: (vs ++ dvs)) (upd (upd H1 dx (.own a)) a (.ins C dx [])) (fun v H2 => v = .non ∧ Q (.ref a) H2) (WE W σ)
theorem make_guards {A : Around} {C : Addr} {us : List Value} {kw : List (Str × Value)} (h : A.guards = some []) : (A.under (.builtin "type.__call__" ⟨.ref C :: us, kw⟩)).guards = some [] := by
  first
    | exact h
    | (simp [Around.under, Code.guards, Code.isGuard, pushGuards, guardIds, h])
end
structure Sole (K : PySem.W.Frag) (H : Hp) (a : Addr) : Prop where
  eq : ∀ {b u}, H b = some u → b = a
  frz : ∀ {u}, H a = some u → ∃ o xs, u = .frz o (.lst xs)
  out : ∀ {u}, H a = some u → K.lookup a = none
section
variable {P : Program} {w : World} {K : PySem.W.Frag} {H : Hp} {a b : Addr} {h : Heap} {us : Array Value}
theorem Sole.free (S : Sole K H a) (p : ∀ u, H b = some u → b ≠ a) : H b = none :=
  match q : H b with
  | none => rfl
  | some u => absurd (S.eq q) (p u q)
theorem Sole.dict (S : Sole K H a) (l : h.get? a = some { cls := .type "list", data := .seq us }) {g : Str → Option Value} (n : h.Ns b g) : (hidT h H).Ns b g := by
  obtain ⟨o, es, ep, e, d, more⟩ := n
  refine ⟨o, es, ep, hidT_get e (S.free fun _ _ z => ?_), d, more⟩
  rw [z, l] at e
  rw [← Option.some.inj e] at d
  exact nomatch d
theorem Sole.frag (S : Sole K H a) (X : K.In h) : K.In (hidT h H) := fun b o e => hidT_get (X b o e) (S.free fun u q z => by
  subst z
  have := S.out q
  rw [this] at e
  exact nomatch e)
theorem Sole.run {mg mb : Str → Option Value} {k : Nat} {f : Addr} {fd : FuncData} {x : Str} {sp : Sp} {s : Shared} (S : Sole K H a) (l : s.heap.get? a = some { cls := .type "list", data := .seq us }) (X : K.In s.heap)
    (ng : s.heap.Ns mainGlobals mg) (nb : s.heap.Ns builtinsNs mb) (eb : ∀ y : Str, y ≠ "__name__" → mb y = bootBuiltins y) (nl : s.heap.NoLimit) (eg : s.gens = #[]) (room : Room k callerA) (ok : HOk P w H s.heap)
    (G : ∀ base : Heap, K.In base → base.Ns mainGlobals mg → FnG P w K mg base k f fd [x] sp) (bnd : ∀ (s : Shared) (u : Value), BindsTo s fd ⟨[u], []⟩ [(x, u)]) (p : sp [.ref a] H (fun v _ => v = .bl true) fun _ _ _ => False) :
    codeAny (model P w) callerA (.call (.ref f) ⟨[.ref a], []⟩) (fun r s' => r = .ok (.ret (.bool true)) ∧ OldK s.heap s'.heap ∧ s'.os = s.os ∧ AllBare s'.gens) s := by
  have kin := S.frag X
  have ngh := S.dict l ng
  obtain ⟨mc, c1, c2⟩ := nl
  have env : Env0 P w K mg (hidT s.heap H) callerA [] s H := by
    refine { frames := rfl, mod := ⟨kin, ngh, ⟨mb, S.dict l nb, eb⟩, ⟨mc, S.dict l c1, c2⟩⟩, bs := fun _ _ e => of_hidT e, bsz := ?_, funs := trivial, frf := fun _ z => (List.not_mem_nil z).elim, hok := ok, bare := .of_eq eg }
    rw [hidT_size]
    exact Nat.le_refl _
  have called := (G _ kin ngh).run (args := ⟨[.ref a], []⟩) (us := [.ref a]) (vs := [.ref a]) rfl room env (bnd s (.ref a)) (.cons rfl .nil) p
  refine codeAny_mono called fun r s' => ?_
  rcases r with u | (_ | _ | _ | u)
  · rintro ⟨_, _, _, _, _, _, _, _, _, _, _, _, y⟩
    exact y.elim
  · exact False.elim
  · exact False.elim
  · exact False.elim
  · rintro ⟨_, H', e1, e2, un, ok', rel, rfl⟩
    cases rel
    refine ⟨rfl, .of_keep fun b o e => ?_, e1, e2⟩
    match q : H b with
    | none => exact un.keep b o e q List.not_mem_nil List.not_mem_nil
    | some u =>
      have z := S.eq q
      subst z
      obtain ⟨o1, xs, rfl⟩ := S.frz q
      have now := (ok b _ q).1
      rw [e, Option.some.injEq] at now
      subst now
      exact (ok' b _ (un.frzs b o _ q)).1
end
structure Asked (l : PySem.W.OpenLaw) (n k : Nat) (x : Str) (w : World) (mg : Str → Option Value) (fa : Addr) (h : Heap) (K : PySem.W.Frag) (fd : FuncData) (sp : Sp) : Prop where
  frag : K.In h
  bnd : ∀ (s : Shared) (u : Value), BindsTo s fd ⟨[u], []⟩ [(x, u)]
  holds : ∀ (H : Hp) (a : Addr) (ns : List Int), ns.length ≤ n → SqL K H a (ns.map V.int) → sp [.ref a] H (fun v _ => v = .bl true) fun _ _ _ => False
  ok : ∀ base : Heap, K.In base → base.Ns mainGlobals mg → FnG l.prog w K mg base k fa fd [x] sp
theorem walkG {l : PySem.W.OpenLaw} {n k : Nat} {q : Program} {loose : List Str} {x : Str} {d : DefRec} {XP : (Str → Option Value) → Heap → Prop} {YP : World → Heap → Prop} (most : l.most = some n) (few : n ≤ sizeLine) (plain : d.params.defaults = []) (room : Room k callerA)
    (asked : ∀ w mg fa h, YP w h → h.Ns mainGlobals mg → mg d.name = some (.ref fa) → ∃ K fd sp, Asked l n k x w mg fa h K fd sp) : PySem.W.WalkO q loose XP YP l.row.toRowW d [] (fun f vs => PySem.call f vs) := by
  refine Att.attach_callB most plain ?_
  intro w _ s mg mb fa _ _ _ _ a us ns G Y _ _ _ named at_a are len _ bare
  obtain ⟨K, fd, sp, A⟩ := asked w mg fa _ Y G.T.g named
  have vals := vals_ints are
  have size : ns.length ≤ sizeLine := Nat.le_trans len few
  have go : ∀ H : Hp, Sole K H a → HOk l.prog w H s.heap → SqL K H a (ns.map V.int) → _ := fun H S ok sq => S.run at_a A.frag G.T.g G.T.b G.T.builtins G.T.nolimit bare room ok A.ok A.bnd (A.holds H a ns len sq)
  match written : K.lookup a with
  | some o =>
    have e := A.frag a o written
    rw [at_a, Option.some.injEq] at e
    subst e
    refine go (fun _ => none) ⟨nofun, nofun, nofun⟩ nofun (.inr ⟨_, us.toArray, _, written, rfl, rfl, rfl, ?_, by simpa using vals⟩)
    rw [List.size_toArray, are.length]
    exact size
  | none =>
    have at' : ∀ {b u}, upd (fun _ => none) a (.frz { cls := .type "list", data := .seq us.toArray } (.lst (ns.map V.int))) b = some u → b = a ∧ u = .frz { cls := .type "list", data := .seq us.toArray } (.lst (ns.map V.int)) := by
      intro b u e
      by_cases z : b = a
      · subst z
        rw [upd_same] at e
        exact ⟨rfl, (Option.some.inj e).symm⟩
      · rw [upd_ne z] at e
        exact nomatch e
    refine go (upd (fun _ => none) a (.frz { cls := .type "list", data := .seq us.toArray } (.lst (ns.map V.int)))) ⟨fun e => (at' e).1, fun e => ⟨_, _, (at' e).2⟩, fun _ => written⟩ (fun b u e => ?_) (.inl (.inr ⟨_, upd_same⟩))
    obtain ⟨rfl, rfl⟩ := at' e
    exact ⟨at_a, by rw [List.length_map]; exact size, us, _, vals, at_a⟩
end VS
set_option maxHeartbeats 2000000
namespace VS
open PySem L2 PySem.Spec PyProof.Rows
inductive AR where
  | v (d : D) | l (i : Nat)
def ARs (K : PySem.W.Frag) (T : Txt) (F : Hp) (σ : L2.St) : List AR → List V → Prop
  | [], vs => vs = []
  | .v d :: as, vs => ∃ v ws, vs = v :: ws ∧ Rep K T F d v ∧ ARs K T F σ as ws
  | .l i :: as, vs => ∃ v ws, vs = v :: ws ∧ σ[i]? = some (some v) ∧ ARs K T F σ as ws
def lentIx : List AR → List Nat
  | [] => []
  | .v _ :: as => lentIx as
  | .l i :: as => i :: lentIx as
def resolve (ρ : VEnv) : List AR → Option (List Arg)
  | [] => some []
  | .v d :: as => (resolve ρ as).map (.v d :: ·)
  | .l i :: as => match ρ[i]? with
    | some (some (Sl.own _ m)) => (resolve ρ as).map (.l m :: ·)
    | _ => none
def setM (i : Nat) (m : MO) (ρ : VEnv) : VEnv := match ρ[i]? with
  | some (some (Sl.own l _)) => ρ.set i (some (Sl.own l m))
  | _ => ρ
def putBack : VEnv → List AR → List MO → VEnv
  | ρ, [], _ => ρ
  | ρ, .v _ :: as, ms => putBack ρ as ms
  | ρ, .l i :: as, m :: ms => putBack (setM i m ρ) as ms
  | ρ, .l _ :: as, [] => putBack ρ as []
section
variable {K : PySem.W.Frag} {T : Txt} {F F' Z H H' : Hp} {L : Nat → Option Addr} {σ : L2.St} {ρ : VEnv} {ars : List AR} {vs : List V} {as : List Arg}
theorem ARs.mono (e : Ex F F') : ∀ {ars : List AR} {vs : List V}, ARs K T F σ ars vs → ARs K T F' σ ars vs
  | [], _, h => h
  | .v d :: as, _, ⟨v, ws, e1, h, r⟩ => ⟨v, ws, e1, h.mono e, ARs.mono e r⟩
  | .l i :: as, _, ⟨v, ws, e1, h, r⟩ => ⟨v, ws, e1, h, ARs.mono e r⟩
theorem ARs.length : ∀ {ars : List AR} {vs : List V}, ARs K T F σ ars vs → vs.length = ars.length
  | [], _, h => by rw [show _ = ([] : List V) from h]; rfl
  | .v d :: as, _, ⟨v, ws, e1, h, r⟩ => by rw [e1]; simp [ARs.length r]
  | .l i :: as, _, ⟨v, ws, e1, h, r⟩ => by rw [e1]; simp [ARs.length r]
theorem ARs.vals : ∀ {ars : List AR} {vs ws : List V} {ds : List D}, ARs K T F σ ars vs → Reps K T F ds ws → ARs K T F σ (ars ++ ds.map AR.v) (vs ++ ws)
  | [], vs, ws, ds, h, r => by
    rw [show vs = _ from h]
    clear h
    induction ds generalizing ws with
    | nil => exact r
    | cons d ds ih => obtain ⟨v, us, e1, h1, r1⟩ := r; exact ⟨v, us, e1, h1, ih us r1⟩
  | .v d :: as, _, _, _, ⟨v, ws, e1, h, r⟩, q => by rw [e1]; exact ⟨v, _, rfl, h, ARs.vals r q⟩
  | .l i :: as, _, _, _, ⟨v, ws, e1, h, r⟩, q => by rw [e1]; exact ⟨v, _, rfl, h, ARs.vals r q⟩
theorem ARs.getV : ∀ {ars : List AR} {vs : List V} {p : Nat} {d : D}, ARs K T F σ ars vs → ars[p]? = some (.v d) → ∃ v, vs[p]? = some v ∧ Rep K T F d v
  | .v d' :: as, _, 0, d, ⟨v, ws, e1, h, r⟩, q => by simp at q; subst q; exact ⟨v, by rw [e1]; rfl, h⟩
  | .v d' :: as, _, p + 1, d, ⟨v, ws, e1, h, r⟩, q => by rw [e1]; simpa using ARs.getV (p := p) (d := d) r (by simpa using q)
  | .l i :: as, _, 0, d, ⟨v, ws, e1, h, r⟩, q => by simp at q
  | .l i :: as, _, p + 1, d, ⟨v, ws, e1, h, r⟩, q => by rw [e1]; simpa using ARs.getV (p := p) (d := d) r (by simpa using q)
  | [], _, p, d, _, q => by simp at q
theorem ARs.getL : ∀ {ars : List AR} {vs : List V} {p i : Nat}, ARs K T F σ ars vs → ars[p]? = some (.l i) → ∃ v, vs[p]? = some v ∧ σ[i]? = some (some v)
  | .v d' :: as, _, 0, i, ⟨v, ws, e1, h, r⟩, q => by simp at q
  | .v d' :: as, _, p + 1, i, ⟨v, ws, e1, h, r⟩, q => by rw [e1]; simpa using ARs.getL (p := p) (i := i) r (by simpa using q)
  | .l j :: as, _, 0, i, ⟨v, ws, e1, h, r⟩, q => by simp at q; subst q; exact ⟨v, by rw [e1]; rfl, h⟩
  | .l j :: as, _, p + 1, i, ⟨v, ws, e1, h, r⟩, q => by rw [e1]; simpa using ARs.getL (p := p) (i := i) r (by simpa using q)
  | [], _, p, i, _, q => by simp at q
theorem resolve_length : ∀ {ars : List AR} {as : List Arg}, resolve ρ ars = some as → as.length = ars.length
  | [], as, h => by simp only [resolve] at h; cases h; rfl
  | .v d :: ars, as, h => by
    simp only [resolve] at h
    cases q : resolve ρ ars with
    | none => rw [q] at h; cases h
    | some bs => rw [q] at h; cases h; simp [resolve_length q]
  | .l i :: ars, as, h => by
    simp only [resolve] at h
    split at h
    · cases q : resolve ρ ars with
      | none => rw [q] at h; cases h
      | some bs => rw [q] at h; cases h; simp [resolve_length q]
    · cases h
theorem resolve_v : ∀ {ars : List AR} {as : List Arg} {p : Nat} {d : D}, resolve ρ ars = some as → as[p]? = some (.v d) → ars[p]? = some (.v d)
  | [], as, p, d, h, q => by simp only [resolve] at h; cases h; simp at q
  | .v d' :: ars, as, p, d, h, q => by
    simp only [resolve] at h
    cases q1 : resolve ρ ars with
    | none => rw [q1] at h; cases h
    | some bs =>
      rw [q1] at h; cases h
      cases p with
      | zero => simp at q; subst q; rfl
      | succ p => simpa using resolve_v (p := p) (d := d) q1 (by simpa using q)
  | .l i :: ars, as, p, d, h, q => by
    simp only [resolve] at h
    split at h
    · cases q1 : resolve ρ ars with
      | none => rw [q1] at h; cases h
      | some bs =>
        rw [q1] at h; cases h
        cases p with
        | zero => simp at q
        | succ p => simpa using resolve_v (p := p) (d := d) q1 (by simpa using q)
    · cases h
theorem resolve_l : ∀ {ars : List AR} {as : List Arg} {p : Nat} {m : MO}, resolve ρ ars = some as → as[p]? = some (.l m) → ∃ i l, ars[p]? = some (.l i) ∧ ρ[i]? = some (some (Sl.own l m))
  | [], as, p, m, h, q => by simp only [resolve] at h; cases h; simp at q
  | .v d' :: ars, as, p, m, h, q => by
    simp only [resolve] at h
    cases q1 : resolve ρ ars with
    | none => rw [q1] at h; cases h
    | some bs =>
      rw [q1] at h; cases h
      cases p with
      | zero => simp at q
      | succ p => simpa using resolve_l (p := p) (m := m) q1 (by simpa using q)
  | .l i :: ars, as, p, m, h, q => by
    simp only [resolve] at h
    split at h
    · rename_i l0 m0 q0
      cases q1 : resolve ρ ars with
      | none => rw [q1] at h; cases h
      | some bs =>
        rw [q1] at h; cases h
        cases p with
        | zero => simp at q; subst q; exact ⟨i, l0, rfl, q0⟩
        | succ p => simpa using resolve_l (p := p) (m := m) q1 (by simpa using q)
    · cases h
theorem lentIx_mem : ∀ {ars : List AR} {i : Nat}, i ∈ lentIx ars ↔ ∃ p : Nat, ars[p]? = some (AR.l i)
  | [], i => by simp [lentIx]
  | .v d :: ars, i => by
    rw [lentIx, lentIx_mem]
    constructor
    · rintro ⟨p, h⟩; exact ⟨p + 1, by simpa using h⟩
    · rintro ⟨p, h⟩
      cases p with
      | zero => simp at h
      | succ p => exact ⟨p, by simpa using h⟩
  | .l j :: ars, i => by
    rw [lentIx, List.mem_cons, lentIx_mem]
    constructor
    · rintro (h | ⟨p, h⟩)
      · subst h; exact ⟨0, rfl⟩
      · exact ⟨p + 1, by simpa using h⟩
    · rintro ⟨p, h⟩
      cases p with
      | zero => simp at h; exact .inl h.symm
      | succ p => exact .inr ⟨p, by simpa using h⟩
theorem lentIx_inj : ∀ {ars : List AR} {p q i : Nat}, (lentIx ars).Nodup → ars[p]? = some (.l i) → ars[q]? = some (.l i) → p = q
  | [], p, q, i, _, h, _ => by simp at h
  | .v d :: ars, p, q, i, nd, h1, h2 => by
    cases p with
    | zero => simp at h1
    | succ p =>
      cases q with
      | zero => simp at h2
      | succ q => rw [lentIx_inj (ars := ars) (p := p) (q := q) nd (by simpa using h1) (by simpa using h2)]
  | .l j :: ars, p, q, i, nd, h1, h2 => by
    obtain ⟨n1, n2⟩ := List.nodup_cons.mp nd
    cases p with
    | zero =>
      cases q with
      | zero => rfl
      | succ q =>
        simp at h1; subst h1
        exact absurd (lentIx_mem.mpr ⟨q, by simpa using h2⟩) n1
    | succ p =>
      cases q with
      | zero =>
        simp at h2; subst h2
        exact absurd (lentIx_mem.mpr ⟨p, by simpa using h1⟩) n1
      | succ q => rw [lentIx_inj (ars := ars) (p := p) (q := q) n2 (by simpa using h1) (by simpa using h2)]
theorem setM_ne {i j : Nat} {m : MO} (h : j ≠ i) : (setM i m ρ)[j]? = ρ[j]? := by
  unfold setM
  split
  · exact List.getElem?_set_ne (Ne.symm h)
  · rfl
theorem setM_length (i : Nat) (m : MO) (ρ : VEnv) : (setM i m ρ).length = ρ.length := by unfold setM; split <;> simp
theorem putBack_length : ∀ (ars : List AR) (ms : List MO) (ρ : VEnv), (putBack ρ ars ms).length = ρ.length
  | [], _, _ => rfl
  | .v _ :: as, ms, ρ => putBack_length as ms ρ
  | .l i :: as, m :: ms, ρ => by rw [putBack, putBack_length as ms, setM_length]
  | .l _ :: as, [], ρ => putBack_length as [] ρ
theorem putBack_out : ∀ {ars : List AR} {ms : List MO} {ρ : VEnv} {j : Nat}, j ∉ lentIx ars → (putBack ρ ars ms)[j]? = ρ[j]?
  | [], _, _, _, _ => rfl
  | .v _ :: as, ms, ρ, j, h => putBack_out (ars := as) (ms := ms) (ρ := ρ) h
  | .l i :: as, m :: ms, ρ, j, h => by
    rw [putBack, putBack_out (fun z => h (List.mem_cons_of_mem _ z)), setM_ne (fun z => h (by rw [z]; exact List.mem_cons_self))]
  | .l _ :: as, [], ρ, j, h => putBack_out (ars := as) (ms := []) (ρ := ρ) (fun z => h (List.mem_cons_of_mem _ z))
theorem putBack_in : ∀ {ars : List AR} {as : List Arg} {ms : List MO} {ρ ρ0 : VEnv} {p j : Nat}, (lentIx ars).Nodup → resolve ρ0 ars = some as → (∀ i ∈ lentIx ars, ρ[i]? = ρ0[i]?) → ars[p]? = some (.l j) →
    ∃ l m0 m, ρ0[j]? = some (some (Sl.own l m0)) ∧ (upArgs as ms)[p]? = some (.l m) ∧ (putBack ρ ars ms)[j]? = some (some (Sl.own l m))
  | [], as, ms, ρ, ρ0, p, j, nd, h, hs, q => by simp at q
  | .v d :: ars, as, ms, ρ, ρ0, p, j, nd, h, hs, q => by
    simp only [resolve] at h
    cases q1 : resolve ρ0 ars with
    | none => rw [q1] at h; cases h
    | some bs =>
      rw [q1] at h; cases h
      cases p with
      | zero => simp at q
      | succ p => simpa [upArgs, putBack] using putBack_in (ars := ars) (as := bs) (ms := ms) (ρ := ρ) (p := p) (j := j) nd q1 hs (by simpa using q)
  | .l i :: ars, as, ms, ρ, ρ0, p, j, nd, h, hs, q => by
    simp only [resolve] at h
    obtain ⟨n1, n2⟩ := List.nodup_cons.mp nd
    split at h
    · rename_i l0 m0 q0
      cases q1 : resolve ρ0 ars with
      | none => rw [q1] at h; cases h
      | some bs =>
        rw [q1] at h; cases h
        have hi : ρ[i]? = some (some (Sl.own l0 m0)) := by rw [hs i List.mem_cons_self]; exact q0
        have hlt : i < ρ.length := (List.getElem?_eq_some_iff.mp hi).1
        cases ms with
        | nil =>
          cases p with
          | zero =>
            simp at q; subst q
            refine ⟨l0, m0, m0, q0, rfl, ?_⟩
            rw [putBack, putBack_out n1]; exact hi
          | succ p => simpa [upArgs, putBack] using putBack_in (ars := ars) (as := bs) (ms := []) (ρ := ρ) (p := p) (j := j) n2 q1 (fun k hk => hs k (List.mem_cons_of_mem _ hk)) (by simpa using q)
        | cons m ms =>
          have hset : setM i m ρ = ρ.set i (some (Sl.own l0 m)) := by unfold setM; rw [hi]
          cases p with
          | zero =>
            simp at q; subst q
            refine ⟨l0, m0, m, q0, rfl, ?_⟩
            rw [putBack, putBack_out n1, hset]
            exact List.getElem?_set_self hlt
          | succ p =>
            have := putBack_in (ars := ars) (as := bs) (ms := ms) (ρ := setM i m ρ) (p := p) (j := j) n2 q1 (fun k hk => by
              rw [setM_ne (fun z => n1 (by rw [← z]; exact hk))]
              exact hs k (List.mem_cons_of_mem _ hk)) (by simpa using q)
            simpa [upArgs, putBack] using this
    · cases h
def Kept (σ : L2.St) (ρ : VEnv) (H : Hp) (is : List Nat) (b : Addr) : Prop := (∃ (j : Nat) (l : Bool) (m : MO), ρ[j]? = some (some (Sl.own l m)) ∧ σ[j]? = some (some (V.ref b)) ∧ j ∉ is) ∨ ∃ (j k : Nat) (io : IO), Inn σ ρ H j k io b ∧ j ∉ is
theorem Kept.at {is : List Nat} {b : Addr} (r : Rel K T F Z L σ ρ H) (h : Kept σ ρ H is b) : F b = none ∧ Z b = none ∧ ∃ o, H b = some o := by
  rcases h with ⟨j, l, m, c1, c2, c3⟩ | ⟨j, k, io, hI, c3⟩
  · obtain ⟨a, o, g1, g2, g3, g4, _⟩ := r.own j l m c1
    rw [c2] at g1; cases g1
    exact ⟨g2, g3, o, g4⟩
  · obtain ⟨g1, g2, o, g3, _⟩ := r.bx.nest j k io b hI
    exact ⟨g1, g2, o, g3⟩
open Classical in
noncomputable def zOf (Z H : Hp) (σ : L2.St) (ρ : VEnv) (is : List Nat) : Hp := fun b => if Kept σ ρ H is b then H b else Z b
theorem zOf_kept {is : List Nat} {b : Addr} (h : Kept σ ρ H is b) : zOf Z H σ ρ is b = H b := if_pos h
theorem zOf_own {is : List Nat} {b : Addr} {j : Nat} {l : Bool} {m : MO} (h1 : ρ[j]? = some (some (Sl.own l m))) (h2 : σ[j]? = some (some (V.ref b))) (h3 : j ∉ is) : zOf Z H σ ρ is b = H b := if_pos (.inl ⟨j, l, m, h1, h2, h3⟩)
theorem zOf_else {is : List Nat} {b : Addr} (h : ¬ Kept σ ρ H is b) : zOf Z H σ ρ is b = Z b := if_neg h
theorem call_in (r : Rel K T F Z L σ ρ H) (ha : ARs K T F σ ars vs) (nd : (lentIx ars).Nodup) (hr : resolve ρ ars = some as) : RelA K T F (zOf Z H σ ρ (lentIx ars)) vs as H := by
  have la := resolve_length hr
  have lv := ha.length
  have own : ∀ {p : Nat} {m : MO}, as[p]? = some (Arg.l m) → ∃ (i : Nat) (l : Bool) (a : Addr) (o : HO), ars[p]? = some (AR.l i) ∧ ρ[i]? = some (some (Sl.own l m)) ∧ σ[i]? = some (some (.ref a)) ∧ vs[p]? = some (.ref a) ∧ F a = none ∧ Z a = none ∧ H a = some o ∧ RepS K T F m o := by
    intro p m q
    obtain ⟨i, l, h1, h2⟩ := resolve_l hr q
    obtain ⟨v, h3, h4⟩ := ha.getL h1
    obtain ⟨a, o, g1, g2, g3, g4, g5⟩ := r.own i l m h2
    rw [g1] at h4; cases h4
    exact ⟨i, l, a, o, h1, h2, g1, h3, g2, g3, g4, g5⟩
  have inn : ∀ {p k : Nat} {io : IO} {b : Addr}, Inn (vs.map some) (as.map slotOf) H p k io b → ∃ i, ars[p]? = some (AR.l i) ∧ Inn σ ρ H i k io b := by
    rintro p k io b ⟨l, c, fs, a, o, g1, g2, g3, g4, g5⟩
    rcases getSlot g1 with ⟨d', q', e'⟩ | ⟨m', q', e'⟩
    · cases e'
    · cases e'
      obtain ⟨i, l0, a', o', k1, k2, k3, k4, _⟩ := own q'
      rw [List.getElem?_map, k4] at g3
      cases g3
      exact ⟨i, k1, l0, c, fs, _, o, k2, g2, k3, g4, g5⟩
  have bx : Bx K T F (zOf Z H σ ρ (lentIx ars)) (vs.map some) (as.map slotOf) H := by
    refine ⟨fun p k io b h => ?_, fun p k io b p' l m h q1 q2 => ?_, fun p k io b p' k' io' h h' => ?_⟩
    · obtain ⟨i, h1, h2⟩ := inn h
      obtain ⟨g1, g2, o, g3, g4⟩ := r.bx.nest i k io b h2
      refine ⟨g1, ?_, o, g3, g4⟩
      rw [zOf_else]
      · exact g2
      · rintro (⟨j, l, m, c1, c2, c3⟩ | ⟨j, k', io', hI, c3⟩)
        · exact r.bx.nsep i k io b j l m h2 c1 c2
        · have := (r.bx.nuni i k io b j k' io' h2 hI).1
          subst this
          exact c3 (lentIx_mem.mpr ⟨p, h1⟩)
    · obtain ⟨i, h1, h2⟩ := inn h
      rcases getSlot q1 with ⟨d', q', e'⟩ | ⟨n1, q', e'⟩
      · cases e'
      · cases e'
        obtain ⟨i2, l2, a2, o2, k1, k2, k3, k4, _⟩ := own q'
        rw [List.getElem?_map, k4] at q2
        cases q2
        exact r.bx.nsep i k io _ i2 _ _ h2 k2 k3
    · obtain ⟨i, h1, h2⟩ := inn h
      obtain ⟨i', h1', h2'⟩ := inn h'
      obtain ⟨e1, e2⟩ := r.bx.nuni i k io b i' k' io' h2 h2'
      subst e1
      exact ⟨lentIx_inj nd h1 h1', e2⟩
  refine ⟨r.exF, fun b o q => ?_, fun b o q => ?_, by simp [la, lv], fun p d q => ?_, fun p l m q => ?_, fun p p' l m l' m' a q1 q2 q3 q4 => ?_, fun p a q => ?_, bx⟩
  · by_cases c : Kept σ ρ H (lentIx ars) b
    · rw [zOf_kept c] at q; exact q
    · rw [zOf_else c] at q; exact r.exZ b o q
  · by_cases c : Kept σ ρ H (lentIx ars) b
    · rw [(c.at r).1] at q; cases q
    · rw [zOf_else c]; exact r.dis b o q
  · rcases getSlot q with ⟨d', q', e'⟩ | ⟨m, q', e'⟩
    · cases e'
      obtain ⟨v, h1, h2⟩ := ha.getV (resolve_v hr q')
      exact ⟨v, by rw [List.getElem?_map, h1]; rfl, h2⟩
    · cases e'
  · rcases getSlot q with ⟨d', q', e'⟩ | ⟨m', q', e'⟩
    · cases e'
    · cases e'
      obtain ⟨i, l0, a, o, h1, h2, h3, h4, h5, h6, h7, h8⟩ := own q'
      refine ⟨a, o, by rw [List.getElem?_map, h4]; rfl, h5, ?_, h7, h8⟩
      rw [zOf_else]
      · exact h6
      · rintro (⟨j, l, m2, c1, c2, c3⟩ | ⟨j, k, io, hI, c3⟩)
        · have := r.sep j i _ _ _ _ a c1 h2 c2 h3
          subst this
          exact c3 (lentIx_mem.mpr ⟨p, h1⟩)
        · exact r.bx.nsep j k io a i _ _ hI h2 h3
  · rcases getSlot q1 with ⟨d', q', e'⟩ | ⟨n1, q', e'⟩
    · cases e'
    · cases e'
      rcases getSlot q2 with ⟨d', q'', e'⟩ | ⟨n2, q'', e'⟩
      · cases e'
      · cases e'
        obtain ⟨i1, l1, a1, o1, h11, h12, h13, h14, _⟩ := own q'
        obtain ⟨i2, l2, a2, o2, h21, h22, h23, h24, _⟩ := own q''
        rw [List.getElem?_map, h14] at q3
        rw [List.getElem?_map, h24] at q4
        cases q3
        cases q4
        have := r.sep i1 i2 _ _ _ _ _ h12 h22 h13 h23
        subst this
        exact lentIx_inj nd h11 h21
  · unfold lentOf at q
    split at q
    · rename_i m a' q1 q2
      cases q
      exact ⟨by rw [List.getElem?_map, q2]; rfl, m, by rw [List.getElem?_map, q1]; rfl⟩
    · cases q
theorem call_out {ms : List MO} {Z' Zc' : Hp} (r : Rel K T F Z L σ ρ H) (ha : ARs K T F σ ars vs) (nd : (lentIx ars).Nodup) (hr : resolve ρ ars = some as) (e : Ex F F') (r' : RelA K T F' Zc' vs (upArgs as ms) H')
    (h1 : ∀ b o, Z' b = some o → Zc' b = some o) (h2 : ∀ b o, zOf Z H σ ρ (lentIx ars) b = some o → Zc' b = some o) (h3 : ∀ b, Zc' b = none → Z' b = none) (h4 : ∀ b, zOf Z H σ ρ (lentIx ars) b ≠ none → Z' b = Z b) :
    Rel K T F' Z' L σ (putBack ρ ars ms) H' := by
  have slotIn : ∀ {j : Nat}, j ∈ lentIx ars → ∃ (p : Nat) (l : Bool) (m0 m : MO), ars[p]? = some (AR.l j) ∧ ρ[j]? = some (some (Sl.own l m0)) ∧ (upArgs as ms)[p]? = some (Arg.l m) ∧ (putBack ρ ars ms)[j]? = some (some (Sl.own l m)) := by
    intro j hj
    obtain ⟨p, hp⟩ := lentIx_mem.mp hj
    obtain ⟨l, m0, m, g1, g2, g3⟩ := putBack_in (ms := ms) nd hr (fun _ _ => rfl) hp
    exact ⟨p, l, m0, m, hp, g1, g2, g3⟩
  have ownOld : ∀ {j : Nat} {l : Bool} {m : MO}, (putBack ρ ars ms)[j]? = some (some (Sl.own l m)) → ∃ m0, ρ[j]? = some (some (Sl.own l m0)) := by
    intro j l m q
    by_cases hj : j ∈ lentIx ars
    · obtain ⟨p, l', m0, m', g1, g2, g3, g4⟩ := slotIn hj
      rw [g4] at q; cases q
      exact ⟨m0, g2⟩
    · rw [putBack_out hj] at q; exact ⟨m, q⟩
  have atS : ∀ {j p : Nat} {v : V}, ars[p]? = some (AR.l j) → σ[j]? = some (some v) → (vs.map some)[p]? = some (some v) := by
    intro j p v g1 g2
    obtain ⟨w, f1, f2⟩ := ha.getL g1
    rw [f2] at g2; cases g2
    rw [List.getElem?_map, f1]; rfl
  have inn : ∀ {j k : Nat} {io : IO} {b : Addr}, Inn σ (putBack ρ ars ms) H' j k io b → (∃ p, j ∈ lentIx ars ∧ ars[p]? = some (AR.l j) ∧ Inn (vs.map some) ((upArgs as ms).map slotOf) H' p k io b) ∨ (j ∉ lentIx ars ∧ Inn σ ρ H j k io b) := by
    rintro j k io b ⟨l, c, fs, a, o, g1, g2, g3, g4, g5⟩
    by_cases hj : j ∈ lentIx ars
    · obtain ⟨p, l', m0, m', k1, k2, k3, k4⟩ := slotIn hj
      rw [k4] at g1; cases g1
      exact .inl ⟨p, hj, k1, true, c, fs, a, o, by rw [List.getElem?_map, k3]; rfl, g2, atS k1 g3, g4, g5⟩
    · rw [putBack_out hj] at g1
      obtain ⟨a', o', k1, k2, k3, k4, _⟩ := r.own j l _ g1
      rw [g3] at k1; cases k1
      have hz : zOf Z H σ ρ (lentIx ars) a = some o' := by rw [zOf_own g1 g3 hj]; exact k4
      have := r'.exZ a o' (h2 a o' hz)
      rw [g4] at this; cases this
      exact .inr ⟨hj, l, c, fs, a, o, g1, g2, g3, k4, g5⟩
  have keptZ : ∀ {b : Addr}, Kept σ ρ H (lentIx ars) b → ∃ o, Zc' b = some o ∧ H b = some o ∧ Z' b = none ∧ F' b = none := by
    intro b c
    obtain ⟨c1, c2, o, c3⟩ := c.at r
    have hz : zOf Z H σ ρ (lentIx ars) b = some o := by rw [zOf_kept c]; exact c3
    have hz' := h2 b o hz
    refine ⟨o, hz', c3, by rw [h4 b (by rw [hz]; simp)]; exact c2, ?_⟩
    cases t : F' b with
    | none => rfl
    | some u => have := r'.dis b u t; rw [hz'] at this; cases this
  have bx : Bx K T F' Z' σ (putBack ρ ars ms) H' := by
    refine ⟨fun j k io b h => ?_, fun j k io b j2 l m h q1 q2 => ?_, fun j k io b j2 k2 io2 h h' => ?_⟩
    · rcases inn h with ⟨p, hj, k1, hI⟩ | ⟨hj, hI⟩
      · obtain ⟨g1, g2, o, g3, g4⟩ := r'.bx.nest p k io b hI
        exact ⟨g1, h3 b g2, o, g3, g4⟩
      · obtain ⟨g1, g2, o, g3, g4⟩ := r.bx.nest j k io b hI
        obtain ⟨o', c1, c2, c3, c4⟩ := keptZ (.inr ⟨j, k, io, hI, hj⟩)
        rw [g3] at c2; cases c2
        exact ⟨c4, c3, o, r'.exZ b o c1, g4.mono e⟩
    · by_cases hj2 : j2 ∈ lentIx ars
      · obtain ⟨p2, l', m0, m', t1, t2, t3, t4⟩ := slotIn hj2
        have qs : ((upArgs as ms).map slotOf)[p2]? = some (some (Sl.own true m')) := by rw [List.getElem?_map, t3]; rfl
        have qv := atS t1 q2
        rcases inn h with ⟨p, hj, k1, hI⟩ | ⟨hj, hI⟩
        · exact r'.bx.nsep p k io b p2 _ _ hI qs qv
        · obtain ⟨o', c1, _⟩ := keptZ (.inr ⟨j, k, io, hI, hj⟩)
          obtain ⟨a2, o2, s1, s2, s3, _⟩ := r'.own p2 _ _ qs
          rw [qv] at s1; cases s1
          rw [c1] at s3; cases s3
      · rw [putBack_out hj2] at q1
        rcases inn h with ⟨p, hj, k1, hI⟩ | ⟨hj, hI⟩
        · obtain ⟨o', c1, _⟩ := keptZ (b := b) (.inl ⟨j2, l, m, q1, q2, hj2⟩)
          have := (r'.bx.nest p k io b hI).2.1
          rw [c1] at this; cases this
        · exact r.bx.nsep j k io b j2 l m hI q1 q2
    · rcases inn h with ⟨p, hj, k1, hI⟩ | ⟨hj, hI⟩ <;> rcases inn h' with ⟨p2, hj2, t1, hI2⟩ | ⟨hj2, hI2⟩
      · obtain ⟨e1, e2⟩ := r'.bx.nuni p k io b p2 k2 io2 hI hI2
        subst e1
        rw [k1] at t1; cases t1
        exact ⟨rfl, e2⟩
      · obtain ⟨o', c1, _⟩ := keptZ (.inr ⟨j2, k2, io2, hI2, hj2⟩)
        have := (r'.bx.nest p k io b hI).2.1
        rw [c1] at this; cases this
      · obtain ⟨o', c1, _⟩ := keptZ (.inr ⟨j, k, io, hI, hj⟩)
        have := (r'.bx.nest p2 k2 io2 b hI2).2.1
        rw [c1] at this; cases this
      · exact r.bx.nuni j k io b j2 k2 io2 hI hI2
  refine ⟨r'.exF, fun b o q => r'.exZ b o (h1 b o q), fun b o q => h3 b (r'.dis b o q), by rw [putBack_length]; exact r.len, fun j d q => ?_, fun j l m q => ?_, fun j k l m l' m' a q1 q2 q3 q4 => ?_, fun j a q => ?_, bx⟩
  · by_cases hj : j ∈ lentIx ars
    · obtain ⟨p, l', m0, m', g1, g2, g3, g4⟩ := slotIn hj
      rw [g4] at q; cases q
    · rw [putBack_out hj] at q
      obtain ⟨v, g1, g2⟩ := r.val j d q
      exact ⟨v, g1, g2.mono e⟩
  · by_cases hj : j ∈ lentIx ars
    · obtain ⟨p, l', m0, m', g1, g2, g3, g4⟩ := slotIn hj
      rw [g4] at q; cases q
      obtain ⟨v, f1, f2⟩ := ha.getL g1
      obtain ⟨a, o, k1, k2, k3, k4, k5⟩ := r.own j _ m0 g2
      rw [k1] at f2; cases f2
      have qs : ((upArgs as ms).map slotOf)[p]? = some (some (Sl.own true m)) := by rw [List.getElem?_map, g3]; rfl
      obtain ⟨a2, o2, t1, t2, t3, t4, t5⟩ := r'.own p true m qs
      rw [List.getElem?_map, f1] at t1
      cases t1
      exact ⟨a, o2, k1, t2, h3 a t3, t4, t5⟩
    · rw [putBack_out hj] at q
      obtain ⟨a, o, k1, k2, k3, k4, k5⟩ := r.own j l m q
      have hz : zOf Z H σ ρ (lentIx ars) a = some o := by rw [zOf_own q k1 hj]; exact k4
      have hz' := h2 a o hz
      refine ⟨a, o, k1, ?_, by rw [h4 a (by rw [hz]; simp)]; exact k3, r'.exZ a o hz', k5.mono e⟩
      cases t : F' a with
      | none => rfl
      | some u => have := r'.dis a u t; rw [hz'] at this; cases this
  · obtain ⟨n1, q1⟩ := ownOld q1
    obtain ⟨n2, q2⟩ := ownOld q2
    exact r.sep j k _ _ _ _ a q1 q2 q3 q4
  · obtain ⟨g1, m, g2⟩ := r.lent j a q
    refine ⟨g1, ?_⟩
    by_cases hj : j ∈ lentIx ars
    · obtain ⟨p, l', m0, m', k1, k2, k3, k4⟩ := slotIn hj
      rw [g2] at k2; cases k2
      exact ⟨m', k4⟩
    · exact ⟨m, by rw [putBack_out hj]; exact g2⟩
end
end VS
set_option maxHeartbeats 2000000
namespace VS
open PySem L2 PySem.Spec PyProof.Rows
def rdC (K : PySem.W.Frag) (T : Txt) (W : WX) (ρ : VEnv) : R (List AR) → TA
  | .stuck => fun _ _ _ => False
  | .ok as ρ' => fun σ H Q => ∃ F Z L, Rel K T F Z L σ ρ H ∧ ∀ vs F' H', Ex F F' → Rel K T F' Z L σ ρ' H' → ARs K T F' σ as vs → Q vs H'
  | .ex c ds ρ' => fun σ H _ => ∃ F Z L, Rel K T F Z L σ ρ H ∧ ∀ cls dd F' H', Ex F F' → Rel K T F' Z L σ ρ' H' → ExR K T F' cls dd c ds → W cls dd σ H'
def JC (T : Txt) (X : Cx) (W : WX) (es : List Expr) (g : Ev (List AR)) : Prop := ∀ ρ, PA X es (rdC X.K T W ρ (g ρ))
def mCN : Ev (List AR) := fun ρ => .ok [] ρ
def mCV (g : Ev D) (h : Ev (List AR)) : Ev (List AR) := fun ρ => (g ρ).bind fun d ρ1 => (h ρ1).bind fun as ρ2 => .ok (.v d :: as) ρ2
def mCL (i : Nat) (h : Ev (List AR)) : Ev (List AR) := fun ρ => match ρ[i]? with
  | some (some (Sl.own _ _)) => (h ρ).bind fun as ρ2 => .ok (.l i :: as) ρ2
  | _ => .stuck
def callR (G : Fn) (n : Nat) (ars : List AR) (ρ : VEnv) : R Res := if (lentIx ars).Nodup ∧ ars.length = n then (match resolve ρ ars with
  | none => .stuck
  | some as => match G as with
    | none => .stuck
    | some (.ex c ds, ms) => .ex c ds (putBack ρ ars ms)
    | some (.ok d, ms) => .ok (.ok d) (putBack ρ ars ms)
    | some (.nw m, ms) => .ok (.nw m) (putBack ρ ars ms)) else .stuck
def mRes (G : Fn) (n : Nat) (dd : List D) (g : Ev (List AR)) : Ev Res := fun ρ => (g ρ).bind fun ars ρ1 => callR G n (ars ++ dd.map AR.v) ρ1
def rdR (K : PySem.W.Frag) (T : Txt) (W : WX) (ρ : VEnv) : R Res → TE
  | .stuck => fun _ _ _ => False
  | .ok (.ok d) ρ' => fun σ H Q => ∃ F Z L, Rel K T F Z L σ ρ H ∧ ∀ v F' H', Ex F F' → Rel K T F' Z L σ ρ' H' → Rep K T F' d v → Q v H'
  | .ok (.nw m) ρ' => fun σ H Q => ∃ F Z L, Rel K T F Z L σ ρ H ∧ ∀ a o F' H', Ex F F' → Z a = none → Rel K T F' (upd Z a o) L σ ρ' H' → RepO K T F' m o → Q (.ref a) H'
  | .ok (.ex _ _) _ => fun _ _ _ => False
  | .ex c ds ρ' => fun σ H _ => ∃ F Z L, Rel K T F Z L σ ρ H ∧ ∀ cls dd F' H', Ex F F' → Rel K T F' Z L σ ρ' H' → ExR K T F' cls dd c ds → W cls dd σ H'
def JR (T : Txt) (X : Cx) (W : WX) (e : Expr) (g : Ev Res) : Prop := ∀ ρ, PE X e (rdR X.K T W ρ (g ρ))
def mVal (g : Ev Res) : Ev D := fun ρ => (g ρ).bind fun r ρ' => match r with
  | .ok d => .ok d ρ'
  | .nw m => .ok m.frz ρ'
  | .ex _ _ => .stuck
def mNew (g : Ev Res) : Ev MO := fun ρ => (g ρ).bind fun r ρ' => match r with
  | .nw m => .ok m ρ'
  | _ => .stuck
section
variable {T : Txt} {X : Cx} {W : WX} {e a b c : Expr} {es : List Expr} {pos p : Pos} {K : PySem.W.Frag}
theorem jc_nil : JC T X W [] mCN := fun ρ => pa_weak pa_nil fun σ H Q ⟨F, Z, L, r, k⟩ => k [] F H (Ex.refl F) r rfl
theorem jc_v {g : Ev D} {h : Ev (List AR)} (h1 : JE T X W e g) (h2 : JC T X W es h) (hs : starEach (e :: es) X.env = (false, eval e X.env) :: starEach es X.env := by rfl) : JC T X W (e :: es) (mCV g h) := fun ρ => by
  have p1 := h1 ρ
  unfold mCV
  cases q1 : g ρ with
  | stuck => exact pa_no
  | ex c ds ρ1 => rw [q1] at p1; exact pa_weak (pa_cons p1 pa_no hs) fun σ H Q q => q
  | ok d ρ1 =>
    rw [q1] at p1
    have p2 := h2 ρ1
    simp only [R.bind_ok]
    cases q2 : h ρ1 with
    | stuck => exact pa_no
    | ex c ds ρ2 =>
      rw [q2] at p2
      exact pa_weak (pa_cons p1 p2 hs) fun σ H Q ⟨F, Z, L, r, k⟩ => ⟨F, Z, L, r, fun v F1 H1 e1 r1 _ => ⟨F1, Z, L, r1, fun cls dd F2 H2 e2 r2 x2 => k cls dd F2 H2 (e1.trans e2) r2 x2⟩⟩
    | ok as ρ2 =>
      rw [q2] at p2
      exact pa_weak (pa_cons p1 p2 hs) fun σ H Q ⟨F, Z, L, r, k⟩ => ⟨F, Z, L, r, fun v F1 H1 e1 r1 x1 => ⟨F1, Z, L, r1, fun vs F2 H2 e2 r2 x2 => k _ F2 H2 (e1.trans e2) r2 ⟨v, vs, rfl, x1.mono e2, x2⟩⟩⟩
theorem jc_l {i : Nat} {h : Ev (List AR)} (h1 : PE X e (tVar i)) (h2 : JC T X W es h) (hs : starEach (e :: es) X.env = (false, eval e X.env) :: starEach es X.env := by rfl) : JC T X W (e :: es) (mCL i h) := fun ρ => by
  unfold mCL
  split
  · rename_i l m q0
    have p2 := h2 ρ
    cases q2 : h ρ with
    | stuck => exact pa_no
    | ex c ds ρ2 =>
      rw [q2] at p2
      refine pa_weak (pa_cons h1 p2 hs) fun σ H Q ⟨F, Z, L, r, k⟩ => ?_
      obtain ⟨a, o, g1, _⟩ := r.own i l m q0
      exact ⟨_, g1, F, Z, L, r, k⟩
    | ok as ρ2 =>
      rw [q2] at p2
      refine pa_weak (pa_cons h1 p2 hs) fun σ H Q ⟨F, Z, L, r, k⟩ => ?_
      obtain ⟨a, o, g1, _⟩ := r.own i l m q0
      exact ⟨_, g1, F, Z, L, r, fun vs F2 H2 e2 r2 x2 => k _ F2 H2 e2 r2 ⟨_, vs, rfl, g1, x2⟩⟩
  · exact pa_no
theorem call_mid {G : Fn} {n : Nat} {ars : List AR} {ρ1 : VEnv} {F Z H1 : Hp} {L : Nat → Option Addr} {σ : L2.St} {vs : List V} {Q : VK} {r : R Res} (hr : callR G n ars ρ1 = r) (r1 : Rel K T F Z L σ ρ1 H1) (ha : ARs K T F σ ars vs)
    (k : match r with
      | .stuck => False
      | .ok (.ok d) ρ' => ∀ v F' H', Ex F F' → Rel K T F' Z L σ ρ' H' → Rep K T F' d v → Q v H'
      | .ok (.nw m) ρ' => ∀ a o F' H', Ex F F' → Z a = none → Rel K T F' (upd Z a o) L σ ρ' H' → RepO K T F' m o → Q (.ref a) H'
      | .ok (.ex _ _) _ => False
      | .ex c ds ρ' => ∀ cls dd F' H', Ex F F' → Rel K T F' Z L σ ρ' H' → ExR K T F' cls dd c ds → W cls dd σ H') : spG K T G n vs H1 Q (WE W σ) := by
  unfold callR at hr
  split at hr
  · rename_i hc
    obtain ⟨nd, hlen⟩ := hc
    cases q1 : resolve ρ1 ars with
    | none => rw [q1] at hr; subst hr; exact k.elim
    | some as =>
      rw [q1] at hr
      dsimp only at hr
      have hin := call_in r1 ha nd q1
      have hlv : vs.length = n := ha.length.trans hlen
      have z1 : ∀ b o, Z b = some o → zOf Z H1 σ ρ1 (lentIx ars) b = some o := by
        intro b o q
        by_cases c : Kept σ ρ1 H1 (lentIx ars) b
        · rw [(c.at r1).2.1] at q; cases q
        · rw [zOf_else c]; exact q
      have z3 : ∀ b, zOf Z H1 σ ρ1 (lentIx ars) b = none → Z b = none := by
        intro b q
        by_cases c : Kept σ ρ1 H1 (lentIx ars) b
        · exact (c.at r1).2.1
        · rw [zOf_else c] at q; exact q
      cases q2 : G as with
      | none => rw [q2] at hr; subst hr; exact k.elim
      | some rm =>
        obtain ⟨rr, ms⟩ := rm
        rw [q2] at hr
        cases rr with
        | ok d =>
          dsimp only at hr
          subst hr
          exact ⟨F, _, as, .ok d, ms, hlv, hin, q2, fun v F' H' e r' p => k v F' H' e (call_out r1 ha nd q1 e r' z1 (fun b o q => q) z3 (fun b _ => rfl)) p⟩
        | nw m =>
          dsimp only at hr
          subst hr
          refine ⟨F, _, as, .nw m, ms, hlv, hin, q2, fun a o F' H' e hz r' p => k a o F' H' e (z3 a hz) (call_out r1 ha nd q1 e r' (fun b u q => ?_) (fun b u q => ?_) (fun b q => ?_) (fun b q => ?_)) p⟩
          · by_cases hb : b = a
            · subst hb; rw [upd_same] at q ⊢; exact q
            · rw [upd_ne hb] at q ⊢; exact z1 b u q
          · rw [upd_ne (ne_of_none q hz)]; exact q
          · by_cases hb : b = a
            · subst hb; rw [upd_same] at q; cases q
            · rw [upd_ne hb] at q ⊢; exact z3 b q
          · have hb : b ≠ a := fun z => by subst z; exact q hz
            exact upd_ne hb
        | ex c ds =>
          dsimp only at hr
          subst hr
          exact ⟨F, _, as, .ex c ds, ms, hlv, hin, q2, fun cls dd F' H' e r' p => k cls dd F' H' e (call_out r1 ha nd q1 e r' z1 (fun b o q => q) z3 (fun b _ => rfl)) p⟩
  · subst hr; exact k.elim
theorem jr_call {G : Fn} {n : Nat} {dd : List D} {dvs : List V} {g : Ev (List AR)} (rule : ∀ t, PA X es t → PE X e (tCallG (spG X.K T G n) dvs W t)) (hdv : ∀ F, Reps X.K T F dd dvs) (ha : JC T X W es g) : JR T X W e (mRes G n dd g) := fun ρ => by
  have p1 := ha ρ
  unfold mRes
  cases q1 : g ρ with
  | stuck => exact pe_no
  | ex c ds ρ1 => rw [q1] at p1; exact pe_weak (rule _ p1) fun σ H Q q => q
  | ok ars ρ1 =>
    rw [q1] at p1
    simp only [R.bind_ok]
    cases q2 : callR G n (ars ++ dd.map AR.v) ρ1 with
    | stuck => exact pe_no
    | ex c ds ρ2 => exact pe_weak (rule _ p1) fun σ H Q ⟨F, Z, L, r, k⟩ => ⟨F, Z, L, r, fun vs F1 H1 e1 r1 x1 => call_mid q2 r1 (x1.vals (hdv F1)) fun cls dd F' H' e r' p => k cls dd F' H' (e1.trans e) r' p⟩
    | ok rr ρ2 =>
      cases rr with
      | ok d => exact pe_weak (rule _ p1) fun σ H Q ⟨F, Z, L, r, k⟩ => ⟨F, Z, L, r, fun vs F1 H1 e1 r1 x1 => call_mid q2 r1 (x1.vals (hdv F1)) fun v F' H' e r' p => k v F' H' (e1.trans e) r' p⟩
      | nw m => exact pe_weak (rule _ p1) fun σ H Q ⟨F, Z, L, r, k⟩ => ⟨F, Z, L, r, fun vs F1 H1 e1 r1 x1 => call_mid q2 r1 (x1.vals (hdv F1)) fun a o F' H' e hz r' p => k a o F' H' (e1.trans e) hz r' p⟩
      | ex c ds => exact pe_no
theorem je_of_jr {g : Ev Res} (h : JR T X W e g) : JE T X W e (mVal g) := fun ρ => by
  refine pe_weak (h ρ) fun σ H Q q => ?_
  unfold mVal at q
  cases q1 : g ρ with
  | stuck => rw [q1] at q; exact q.elim
  | ex c ds ρ1 => rw [q1] at q; exact q
  | ok rr ρ1 =>
    rw [q1] at q
    cases rr with
    | ok d => exact q
    | ex c ds => exact q.elim
    | nw m =>
      obtain ⟨F, Z, L, r, k⟩ := q
      refine ⟨F, Z, L, r, fun a o F' H' e hz r' x => ?_⟩
      have fn := (r'.zDrop hz).2.1
      exact k _ _ H' (e.trans (Ex.new fn)) (r'.zF hz) (x.frz fn)
theorem jf_of_jr {g : Ev Res} (h : JR T X W e g) : JF T X W e (mNew g) := fun ρ => by
  refine pe_weak (h ρ) fun σ H Q q => ?_
  unfold mNew at q
  cases q1 : g ρ with
  | stuck => rw [q1] at q; exact q.elim
  | ex c ds ρ1 => rw [q1] at q; exact q
  | ok rr ρ1 =>
    rw [q1] at q
    cases rr with
    | ok d => exact q.elim
    | ex c ds => exact q.elim
    | nw m => exact q
end
theorem fnG_def {T : Txt} {P : Program} {w : World} {K : PySem.W.Frag} {mg : Str → Option Value} {base : Heap} {k : Nat} {x qual : Str} {pa : Arguments} {bd : List Stmt} {sc : Scope} {dvs : List V} {kws : List (Str × V)} {f : Addr} {fd : FuncData} {N ps : List Str} {h : VEnv → RS}
    (D0 : FunD K x qual pa bd sc dvs kws f fd) (S : FnScope N ps sc)
    (hb : ∀ {cdv A outer s H E}, A.guards = some [] → Room k (A.deeper (envOfC qual sc s.heap.objs.size f cdv)) → JSs T (cxOf (L2.CX P w) P w K mg base N qual sc f cdv A outer s H E) (fun cls dd _ H => E cls dd H) bd h) :
    FnG P w K mg base (k + 1) f fd ps (spG K T (runG N.length h) ps.length) := by
  refine fnG_of D0 S (fun {vs H Q E} hs => ?_) (fun {cdv A outer s H vs Q E} hA hr hs => ⟨_, pss_all (hb hA hr), runG_ok (W := fun cls dd _ H => E cls dd H) rfl (fun _ _ _ _ z => z) hs⟩)
  obtain ⟨F, Z, as, r, ms, hl, _⟩ := hs
  exact hl
end VS
set_option maxHeartbeats 2000000
namespace VS
open PySem L2 PySem.Spec PyProof.Rows
section
variable {T : Txt} {X : Cx} {W : WX} {e a b c : Expr} {es : List Expr} {pos p : Pos} {K : PySem.W.Frag}
theorem je_len {g : Ev D} (hm : X.mg "len" = none) (ha : JB T X W a g) (hg : Gl X "len" := by rfl) (hs : starEach [a] X.env = (false, eval a X.env) :: starEach [] X.env := by rfl) : JE T X W (.Call (.Name "len" p) [a] [] pos) (mCall1 lenD g) :=
  je_call1 (fun _ h => pe_callB call_lenA hg hm (by decide +kernel) h (by decide) (by decide) hs rfl) callv_len ha hs
theorem je_abs {g : Ev D} (hm : X.mg "abs" = none) (ha : JB T X W a g) (hg : Gl X "abs" := by rfl) (hs : starEach [a] X.env = (false, eval a X.env) :: starEach [] X.env := by rfl) : JE T X W (.Call (.Name "abs" p) [a] [] pos) (mCall1 absD g) :=
  je_call1 (fun _ h => pe_callB call_abs hg hm (by decide +kernel) h (by decide) (by decide) hs rfl) callv_abs ha hs
theorem je_int {g : Ev D} (hm : X.mg "int" = none) (ha : JB T X W a g) (hg : Gl X "int" := by rfl) (hs : starEach [a] X.env = (false, eval a X.env) :: starEach [] X.env := by rfl) : JE T X W (.Call (.Name "int" p) [a] [] pos) (mCall1 int1D g) :=
  je_call1 (fun _ h => pe_callTy call_int1 hg hm (by decide +kernel) h (by decide) (by decide) hs rfl) callv_int ha hs
theorem je_str {g : Ev D} (hm : X.mg "str" = none) (ha : JB T X W a g) (hg : Gl X "str" := by rfl) (hs : starEach [a] X.env = (false, eval a X.env) :: starEach [] X.env := by rfl) : JE T X W (.Call (.Name "str" p) [a] [] pos) (mCall1 strD g) :=
  je_call1 (fun _ h => pe_callTy call_strA hg hm (by decide +kernel) h (by decide) (by decide) hs rfl) callv_str ha hs
theorem je_all {g : Ev D} (hc : X.calm = true) (hm : X.mg "all" = none) (ha : JB T X W a g) (hg : Gl X "all" := by rfl) (hs : starEach [a] X.env = (false, eval a X.env) :: starEach [] X.env := by rfl) : JE T X W (.Call (.Name "all" p) [a] [] pos) (mCall1 allD g) :=
  je_call1 (fun _ h => pe_callB (cr_all hc) hg hm (by decide +kernel) h (by decide) (by decide) hs rfl) callv_all ha hs
theorem je_any {g : Ev D} (hc : X.calm = true) (hm : X.mg "any" = none) (ha : JB T X W a g) (hg : Gl X "any" := by rfl) (hs : starEach [a] X.env = (false, eval a X.env) :: starEach [] X.env := by rfl) : JE T X W (.Call (.Name "any" p) [a] [] pos) (mCall1 anyD g) :=
  je_call1 (fun _ h => pe_callB (cr_any hc) hg hm (by decide +kernel) h (by decide) (by decide) hs rfl) callv_any ha hs
theorem je_max1 {g : Ev D} (hc : X.calm = true) (hm : X.mg "max" = none) (ha : JB T X W a g) (hg : Gl X "max" := by rfl) (hs : starEach [a] X.env = (false, eval a X.env) :: starEach [] X.env := by rfl) : JE T X W (.Call (.Name "max" p) [a] [] pos) (mCall1 maxD g) :=
  je_call1 (fun _ h => pe_callB (cr_max hc) hg hm (by decide +kernel) h (by decide) (by decide) hs rfl) callv_max ha hs
theorem je_min1 {g : Ev D} (hc : X.calm = true) (hm : X.mg "min" = none) (ha : JB T X W a g) (hg : Gl X "min" := by rfl) (hs : starEach [a] X.env = (false, eval a X.env) :: starEach [] X.env := by rfl) : JE T X W (.Call (.Name "min" p) [a] [] pos) (mCall1 minD g) :=
  je_call1 (fun _ h => pe_callB (cr_min hc) hg hm (by decide +kernel) h (by decide) (by decide) hs rfl) callv_min ha hs
def max2D : List D → Option D
  | [.int i, .int j] => some (.int (if j > i then j else i))
  | _ => none
def min2D : List D → Option D
  | [.int i, .int j] => some (.int (if j < i then j else i))
  | _ => none
def divmodD : List D → Option D
  | [.int i, .int j] => if 0 < j ∧ j.natAbs < big then some (.tup [.int (i / j), .int (i % j)]) else none
  | _ => none
theorem callv_max2 : CallV K T (fun xs H Q => ∃ i j, xs = [.int i, .int j] ∧ Q (.int (if j > i then j else i)) H) max2D := by
  intro ds z h F H vs Q e r k
  unfold max2D at h
  split at h
  · cases h
    obtain ⟨v, ws, rfl, h1, v2, ws2, rfl, h2, h3⟩ := r
    exact ⟨_, _, by rw [show v = _ from h1, show v2 = _ from h2, show ws2 = _ from h3], k _ F H .refl rfl⟩
  · cases h
theorem callv_min2 : CallV K T (fun xs H Q => ∃ i j, xs = [.int i, .int j] ∧ Q (.int (if j < i then j else i)) H) min2D := by
  intro ds z h F H vs Q e r k
  unfold min2D at h
  split at h
  · cases h
    obtain ⟨v, ws, rfl, h1, v2, ws2, rfl, h2, h3⟩ := r
    exact ⟨_, _, by rw [show v = _ from h1, show v2 = _ from h2, show ws2 = _ from h3], k _ F H .refl rfl⟩
  · cases h
theorem callv_divmod : CallV K T (fun xs H Q => ∃ i j, xs = [.int i, .int j] ∧ CDivP i j ∧ ∀ p, H p = none → Q (.ref p) (upd H p (.tup [.int (i / j), .int (i % j)]))) divmodD := by
  intro ds z h F H vs Q e r k
  unfold divmodD at h
  split at h
  · split at h
    · rename_i i j c
      cases h
      obtain ⟨v, ws, rfl, h1, v2, ws2, rfl, h2, h3⟩ := r
      refine ⟨i, j, by rw [show v = _ from h1, show v2 = _ from h2, show ws2 = _ from h3], ⟨c.1, PyProof.noPylong_of_log2 ?_⟩, fun p hp => ?_⟩
      · have := PySem.Flt.log2_lt_of (k := 250) (by decide) c.2
        omega
      · have g := Grow.new (K := K) (T := T) (o := HO.tup [.int (i / j), .int (i % j)]) e hp
        exact k _ _ _ g ⟨p, _, rfl, SqX.of upd_same, ⟨_, _, rfl, rfl, _, _, rfl, rfl, rfl⟩⟩
    · cases h
  · cases h
theorem je_max2 {g : Ev (List D)} (hc : X.calm = true) (hm : X.mg "max" = none) (ha : JA T X W [a, b] g) (hg : Gl X "max" := by rfl) (hs : starEach [a, b] X.env = (false, eval a X.env) :: starEach [b] X.env := by rfl) (hp : (backTo pos (starEach [b] X.env)).any (·.1) = false := by rfl) :
    JE T X W (.Call (.Name "max" p) [a, b] [] pos) (mCall max2D g) := je_callR (fun _ h => pe_callB (call_max2 hc) hg hm (by decide +kernel) h (by decide) (by decide) hs hp) callv_max2 ha
theorem je_min2 {g : Ev (List D)} (hc : X.calm = true) (hm : X.mg "min" = none) (ha : JA T X W [a, b] g) (hg : Gl X "min" := by rfl) (hs : starEach [a, b] X.env = (false, eval a X.env) :: starEach [b] X.env := by rfl) (hp : (backTo pos (starEach [b] X.env)).any (·.1) = false := by rfl) :
    JE T X W (.Call (.Name "min" p) [a, b] [] pos) (mCall min2D g) := je_callR (fun _ h => pe_callB (call_min2 hc) hg hm (by decide +kernel) h (by decide) (by decide) hs hp) callv_min2 ha
theorem je_divmod {g : Ev (List D)} (hm : X.mg "divmod" = none) (ha : JA T X W [a, b] g) (hg : Gl X "divmod" := by rfl) (hs : starEach [a, b] X.env = (false, eval a X.env) :: starEach [b] X.env := by rfl) (hp : (backTo pos (starEach [b] X.env)).any (·.1) = false := by rfl) :
    JE T X W (.Call (.Name "divmod" p) [a, b] [] pos) (mCall divmodD g) := je_callR (fun _ h => pe_callB call_divmodW hg hm (by decide +kernel) h (by decide) (by decide) hs hp) callv_divmod ha
def IsiV (K : PySem.W.Frag) (T : Txt) (c : V) (f : D → Option Bool) : Prop := ∀ d b, f d = some b → ∀ F H v, Ex F H → RepB K T F H d v → ∃ t u, ClsV c u ∧ TyX K H v t ∧ PySem.W.kitOne K t u = some b
def mIsi (f : D → Option Bool) (g : Ev D) : Ev D := fun ρ => (g ρ).bind fun d ρ' => R.of ((f d).map .bl) ρ'
theorem je_isi {cv : V} {f : D → Option Bool} {g : Ev D} (hf : IsiV X.K T cv f) (hm : X.mg "isinstance" = none) (ha : JB T X W a g) (hb : PE X b (tC cv)) (hg : Gl X "isinstance" := by rfl)
    (hs : starEach [a, b] X.env = (false, eval a X.env) :: starEach [b] X.env := by rfl) (hs2 : starEach [b] X.env = (false, eval b X.env) :: starEach [] X.env := by rfl) (hp : (backTo pos (starEach [b] X.env)).any (·.1) = false := by rfl) :
    JE T X W (.Call (.Name "isinstance" p) [a, b] [] pos) (mIsi f g) := fun ρ => by
  have p1 := ha ρ
  have rule : ∀ ta, PE X a ta → PE X (.Call (.Name "isinstance" p) [a, b] [] pos) (tCB (rIsi X.K) (tCons ta (tCons (tC cv) tNil))) := fun ta h => pe_callB call_isi hg hm (by decide +kernel) (pa_cons h (pa_cons hb pa_nil hs2) hs) (by decide) (by decide) hs hp
  unfold mIsi
  cases q1 : g ρ with
  | stuck => exact pe_no
  | ex c ds ρ1 => rw [q1] at p1; exact pe_weak (rule _ p1) fun σ H Q q => q
  | ok d ρ1 =>
    rw [q1] at p1
    simp only [R.bind_ok]
    cases q2 : f d with
    | none => exact pe_no
    | some z =>
      refine pe_weak (rule _ p1) fun σ H Q ⟨F, Z, L, r, k⟩ => ⟨F, Z, L, r, fun v F1 H1 e1 r1 x1 => ?_⟩
      obtain ⟨t, u, h1, h2, h3⟩ := hf d z q2 F1 H1 v r1.exF x1
      exact ⟨v, cv, t, u, z, rfl, h1, h2, h3, k _ F1 H1 e1 r1 rfl⟩
def tyD : D → Option String
  | .non => some "NoneType"
  | .bl _ => some "bool"
  | .int _ => some "int"
  | .str _ => some "str"
  | .tup _ => some "tuple"
  | .lst _ => some "list"
  | .frl _ => some "list"
  | .dct _ => some "dict"
  | _ => none
theorem ty_of {F H : Hp} {d : D} {v : V} {n : String} (h : tyD d = some n) (e : Ex F H) (r : RepB K T F H d v) : TyX K H v (.type n) := by
  cases d with
  | non => rw [show v = _ from r]; cases h; exact .base .non
  | bl b => rw [show v = _ from r]; cases h; exact .base (.bl b)
  | int b => rw [show v = _ from r]; cases h; exact .base (.int b)
  | str b => rw [show v = _ from r]; cases h; exact .base (.str b)
  | tup xs =>
    obtain ⟨a, vs, rfl, h1, _⟩ := r
    cases h
    rcases e.sqT h1.1 with (h1 | ⟨o, h1⟩) | ⟨o, its, n, h1, h2, _⟩
    · exact .base (.tup h1)
    · exact .fTuple h1
    · exact .kTuple h1 h2
  | lst xs => obtain ⟨a, vs, rfl, h1, _⟩ := r; cases h; exact .base (.lst h1)
  | frl xs =>
    obtain ⟨a, vs, rfl, h1, _⟩ := r
    cases h
    rcases e.sqL h1 with (h1 | ⟨o, h1⟩) | ⟨o, its, n, h1, h2, _⟩
    · exact .base (.lst h1)
    · exact .base (.frz h1)
    · exact .kList h1 h2
  | dct xs => obtain ⟨a, vs, rfl, h1, _⟩ := r; cases h; exact .base (.dK h1)
  | _ => cases h
def isiB (n : String) : D → Option Bool
  | .fru _ => kitB "tuple" n
  | d => (tyD d).bind fun t => kitB t n
theorem isi_ty {n : String} : IsiV K T (.ty n) (isiB n) := by
  intro d b h F H v e r
  unfold isiB at h
  split at h
  · obtain ⟨a, vs, rfl, h1, _⟩ := r
    have ty : TyX K H (.ref a) (.type "tuple") := by
      rcases e.sqT h1 with (h1 | ⟨o, h1⟩) | ⟨o, its, n, h1, h2, _⟩
      · exact .base (.tup h1)
      · exact .fTuple h1
      · exact .kTuple h1 h2
    exact ⟨_, _, .ty n, ty, kit_ty h⟩
  cases q : tyD d with
  | none => rw [q] at h; cases h
  | some t => rw [q] at h; exact ⟨_, _, .ty n, ty_of q e r, kit_ty h⟩
structure Cal (P : Program) (w : World) (K : PySem.W.Frag) (mg : Str → Option Value) (base : Heap) (T : Txt) (k : Nat) (x : Str) (G : Fn) (ps : List Str) : Prop where
  ex : ∃ f fd, FnG P w K mg base k f fd ps (spG K T G ps.length) ∧ mg x = some (.ref f) ∧ PySem.W.keepIn K (.ref f) = true ∧ Binds K fd ps []
theorem jr_def {k n : Nat} {x : Str} {G : Fn} {ps : List Str} {g : Ev (List AR)} (c : Cal X.prog X.w X.K X.mg X.base T k x G ps) (hA : X.A.guards = some []) (hr : Room k X.A) (tk : Takes X W) (ha : JC T X W (e :: es) g) (hn : ps.length = n := by rfl) (hg : Gl X x := by rfl)
    (hdb : (x == ("__debug__" : Str)) = false := by decide) (he : starEach (e :: es) X.env = (false, eval e X.env) :: starEach es X.env := by rfl) (hpl : (backTo pos (starEach es X.env)).any (·.1) = false := by rfl) : JR T X W (.Call (.Name x p) (e :: es) [] pos) (mRes G n [] g) := by
  subst hn
  obtain ⟨f, fd, hG, hm, hk, hb⟩ := c.ex
  exact jr_call (fun t h => pe_callG hG hA hr hg hm hk hb .nil tk h hdb he hpl) (fun _ => rfl) ha
theorem je_gint {x : Str} {i : Int} (h : ∃ t, X.mg x = some (.int i t)) (hg : Gl X x := by rfl) (hd : (x == ("__debug__" : Str)) = false := by decide) : JE T X W (.Name x p) (mC (.int i)) := by
  obtain ⟨t, h⟩ := h
  exact je_const (pe_glob (v := .int i) hg h ⟨t, rfl⟩ hd) rfl
theorem je_cint {i : Int} {j : Nat} : JE T X W (.Constant (.int i) j p) (mC (.int i)) := je_const pe_int rfl
theorem je_cstr {x : Str} {j : Nat} : JE T X W (.Constant (.str x) j p) (mC (.str x)) := je_const pe_str rfl
theorem je_cbl {x : Bool} {j : Nat} : JE T X W (.Constant (.bool x) j p) (mC (.bl x)) := je_const pe_bl rfl
theorem je_cnon {j : Nat} : JE T X W (.Constant .none j p) (mC .non) := je_const pe_non rfl
theorem je_v (i : Nat) {x : Str} (hN : X.N[i]? = some x := by rfl) (hv : Vis X.env.scope x := by first | exact Or.inl rfl | exact Or.inr (Or.inl rfl) | exact Or.inr (Or.inr rfl)) (hd : (x == ("__debug__" : Str)) = false := by decide)
    (hcd : (x == ("__classdict__" : Str)) = false := by decide) : JE T X W (.Name x p) (mVar i) := je_pe_var (pv i hN hv hd hcd)
theorem jb_v (i : Nat) {x : Str} (hN : X.N[i]? = some x := by rfl) (hv : Vis X.env.scope x := by first | exact Or.inl rfl | exact Or.inr (Or.inl rfl) | exact Or.inr (Or.inr rfl)) (hd : (x == ("__debug__" : Str)) = false := by decide)
    (hcd : (x == ("__classdict__" : Str)) = false := by decide) : JB T X W (.Name x p) (mOwn i) := jb_own (pv i hN hv hd hcd)
theorem jg_v (i : Nat) {x : Str} (hN : X.N.Nodup) (hi : X.N[i]? = some x := by rfl) (hx : Loc X.env.scope x := by first | exact Or.inl rfl | exact Or.inr rfl) (hf : X.fn x = true ∨ X.env.scope.names.lookup x = some .local := by first | exact .inl rfl | exact .inr rfl) : JG T X (.Name x p) [i] (setV i) := jg_name (pg_name hN hi hx hf)
def mPart (g : Ev D) : Ev (Option Int) := fun ρ => (g ρ).bind fun d ρ' => match d with
  | .int i => .ok (some i) ρ'
  | _ => .stuck
def mNoPart : Ev (Option Int) := fun ρ => .ok none ρ
def rdP (K : PySem.W.Frag) (T : Txt) (W : WX) (ρ : VEnv) : R (Option Int) → TO
  | .stuck => fun _ _ _ => False
  | .ok b ρ' => fun σ H Q => ∃ F Z L, Rel K T F Z L σ ρ H ∧ ∀ F' H', Ex F F' → Rel K T F' Z L σ ρ' H' → Q b H'
  | .ex c ds ρ' => fun σ H _ => ∃ F Z L, Rel K T F Z L σ ρ H ∧ ∀ cls dd F' H', Ex F F' → Rel K T F' Z L σ ρ' H' → ExR K T F' cls dd c ds → W cls dd σ H'
def JP (T : Txt) (X : Cx) (W : WX) (e : Option Expr) (g : Ev (Option Int)) : Prop := ∀ ρ, PO X e (rdP X.K T W ρ (g ρ))
theorem po_weak {o : Option Expr} {t t' : TO} (h : PO X o t) (w : ∀ σ H Q, t' σ H Q → t σ H Q) : PO X o t' := ⟨fun pins s σ H Q I q => h.run pins s σ H Q I (w σ H Q q)⟩
theorem po_no {o : Option Expr} : PO X o (fun _ _ _ => False) := ⟨fun _ _ _ _ _ _ h => h.elim⟩
theorem jp_none : JP T X W none mNoPart := fun ρ => po_weak po_none fun σ H Q ⟨F, Z, L, r, k⟩ => k F H (Ex.refl F) r
theorem jp_some {g : Ev D} (h : JE T X W a g) : JP T X W (some a) (mPart g) := fun ρ => by
  have p1 := h ρ
  unfold mPart
  cases q1 : g ρ with
  | stuck => exact po_no
  | ex c ds ρ1 => rw [q1] at p1; exact po_weak (po_some p1) fun σ H Q q => q
  | ok d ρ1 =>
    rw [q1] at p1
    simp only [R.bind_ok]
    cases d with
    | int i => exact po_weak (po_some p1) fun σ H Q ⟨F, Z, L, r, k⟩ => ⟨F, Z, L, r, fun v F1 H1 e1 r1 x1 => ⟨i, x1, k F1 H1 e1 r1⟩⟩
    | _ => exact po_no
def mSlice (g : Ev D) (lo hi : Ev (Option Int)) : Ev D := fun ρ => (g ρ).bind fun d ρ1 => (lo ρ1).bind fun l ρ2 => (hi ρ2).bind fun u ρ3 => R.of (slD d l u) ρ3
theorem je_slice {lo hi : Option Expr} {p2 : Pos} {g : Ev D} {gl gh : Ev (Option Int)} (ha : JE T X W a g) (hl : JP T X W lo gl) (hh : JP T X W hi gh) : JE T X W (.Subscript a (.Slice lo hi none p2) pos) (mSlice g gl gh) := fun ρ => by
  have h1 := ha ρ
  unfold mSlice
  cases q1 : g ρ with
  | stuck => exact pe_no
  | ex c ds ρ1 => rw [q1] at h1; exact pe_weak (pe_slice sl_any h1 po_no po_no) fun σ H Q h => h
  | ok x ρ1 =>
    rw [q1] at h1
    have h2 := hl ρ1
    simp only [R.bind_ok]
    cases q2 : gl ρ1 with
    | stuck => exact pe_no
    | ex c ds ρ2 =>
      rw [q2] at h2
      exact pe_weak (pe_slice sl_any h1 h2 po_no) fun σ H Q ⟨F, Z, L, r, k⟩ => ⟨F, Z, L, r, fun v F1 H1 e1 r1 p1 => ⟨F1, Z, L, r1, fun cls dd F2 H2 e2 r2 x2 => k cls dd F2 H2 (e1.trans e2) r2 x2⟩⟩
    | ok l ρ2 =>
      rw [q2] at h2
      have h3 := hh ρ2
      simp only [R.bind_ok]
      cases q3 : gh ρ2 with
      | stuck => exact pe_no
      | ex c ds ρ3 =>
        rw [q3] at h3
        exact pe_weak (pe_slice sl_any h1 h2 h3) fun σ H Q ⟨F, Z, L, r, k⟩ => ⟨F, Z, L, r, fun v F1 H1 e1 r1 p1 => ⟨F1, Z, L, r1, fun F2 H2 e2 r2 => ⟨F2, Z, L, r2, fun cls dd F3 H3 e3 r3 x3 => k cls dd F3 H3 ((e1.trans e2).trans e3) r3 x3⟩⟩⟩
      | ok u ρ3 =>
        rw [q3] at h3
        simp only [R.bind_ok]
        cases q4 : slD x l u with
        | none => exact pe_no
        | some z =>
          exact pe_weak (pe_slice sl_any h1 h2 h3) fun σ H Q ⟨F, Z, L, r, k⟩ => ⟨F, Z, L, r, fun v F1 H1 e1 r1 p1 => ⟨F1, Z, L, r1, fun F2 H2 e2 r2 => ⟨F2, Z, L, r2, fun F3 H3 e3 r3 =>
            slv_any q4 r3.exF (((p1.mono e2).mono e3).b r3.exF) fun w F4 H4 g p4 => k w F4 H4 (((e1.trans e2).trans e3).trans g.1) (g.2 _ _ _ _ r3) p4⟩⟩⟩
def strsOf : List D → Option (List Str)
  | [] => some []
  | .str x :: ds => (strsOf ds).map (x :: ·)
  | _ => none
end
end VS
namespace VS
open PySem L2 PySem.Spec PyProof.Rows
theorem fnG_def' {T : Txt} {P : Program} {w : World} {K : PySem.W.Frag} {mg : Str → Option Value} {base : Heap} {k n m : Nat} {x qual : Str} {pa : Arguments} {bd : List Stmt} {sc : Scope} {dvs : List V} {kws : List (Str × V)} {f : Addr} {fd : FuncData} {N ps : List Str} {h : VEnv → RS} {G : Fn}
    (D0 : FunD K x qual pa bd sc dvs kws f fd) (S : FnScope N ps sc) (hn : N.length = n) (hm : ps.length = m) (hG : G = runG n h)
    (hb : ∀ {cdv A outer s H E}, A.guards = some [] → Room k (A.deeper (envOfC qual sc s.heap.objs.size f cdv)) → Takes (cxOf (L2.CX P w) P w K mg base N qual sc f cdv A outer s H E) (fun cls dd _ H => E cls dd H) →
      PassesOwn (model P w) (cxOf (L2.CX P w) P w K mg base N qual sc f cdv A outer s H E).A (cxOf (L2.CX P w) P w K mg base N qual sc f cdv A outer s H E).env (cxOf (L2.CX P w) P w K mg base N qual sc f cdv A outer s H E).xe →
      JSs T (cxOf (L2.CX P w) P w K mg base N qual sc f cdv A outer s H E) (fun cls dd _ H => E cls dd H) bd h) :
    FnG P w K mg base (k + 1) f fd ps (spG K T G m) := by
  subst hn hm hG
  exact fnG_def D0 S fun {cdv A outer s H E} hA hr => hb hA hr (takes_of rfl rfl rfl rfl) (passes_of rfl)
end VS
set_option maxHeartbeats 2000000
namespace VS
open PySem L2 PySem.Spec PyProof.Rows
section
variable {T : Txt} {X : Cx} {W : WX} {st : Stmt} {sts : List Stmt} {tg e a b c : Expr} {es : List Expr} {pos p : Pos} {K : PySem.W.Frag}
def mNever : VEnv → RS := fun _ => .stuck
theorem js_never : JS T X W st mNever := fun ρ => ⟨fun _ _ _ _ _ _ ⟨_, _, _, _, z⟩ => z.elim⟩
def setVS (i : Nat) (d : D) (ρ : VEnv) (k : VEnv → RS) : RS := match setV i d ρ with
  | some ρ' => k ρ'
  | none => .stuck
def setOS (i : Nat) (m : MO) (ρ : VEnv) (k : VEnv → RS) : RS := match setO i m ρ with
  | some ρ' => k ρ'
  | none => .stuck
def mParEF (i j : Nat) (ga : Ev D) (gb : Ev MO) : VEnv → RS := fun ρ => (ga ρ).thenS fun x ρ1 => (gb ρ1).thenM fun y ρ2 => setVS i x ρ2 fun ρ3 => setOS j y ρ3 .nx
theorem setVS_ks {F Z : Hp} {L : Nat → Option Addr} {N : Ends} {i : Nat} {d : D} {ρ : VEnv} {k : VEnv → RS} (h : KS K T W F Z L N (setVS i d ρ k)) : ∃ ρ', setV i d ρ = some ρ' ∧ KS K T W F Z L N (k ρ') := by
  unfold setVS at h
  split at h
  · rename_i ρ' q; exact ⟨ρ', q, h⟩
  · exact h.elim
theorem setOS_ks {F Z : Hp} {L : Nat → Option Addr} {N : Ends} {i : Nat} {d : MO} {ρ : VEnv} {k : VEnv → RS} (h : KS K T W F Z L N (setOS i d ρ k)) : ∃ ρ', setO i d ρ = some ρ' ∧ KS K T W F Z L N (k ρ') := by
  unfold setOS at h
  split at h
  · rename_i ρ' q; exact ⟨ρ', q, h⟩
  · exact h.elim
section
variable {i j : Nat} {x y : Str} {px py pt pt2 : Pos} {kt k2 : Nat}
theorem js_parEF {ga : Ev D} {gb : Ev MO} (hc : X.calm = true) (hN : X.N.Nodup) (hi : X.N[i]? = some x) (hj : X.N[j]? = some y) (hij : i ≠ j) (hx : X.env.scope.names.lookup x = some .local) (hy : X.env.scope.names.lookup y = some .local)
    (ha : JE T X W a ga) (hb : JF T X W b gb) (hw : swappedStores [.Tuple [.Name x px, .Name y py] kt pt] (.Tuple [a, b] k2 pt2) X.env = pure (some [x, y]))
    (hs : starEach [a, b] X.env = (false, eval a X.env) :: starEach [b] X.env := by rfl) (hs2 : starEach [b] X.env = (false, eval b X.env) :: starEach [] X.env := by rfl) :
    JS T X W (.Assign [.Tuple [.Name x px, .Name y py] kt pt] (.Tuple [a, b] k2 pt2) pos) (mParEF i j ga gb) := fun ρ => by
  have rule : ∀ ta tb, PE X a ta → PE X b tb → PS X (.Assign [.Tuple [.Name x px, .Name y py] kt pt] (.Tuple [a, b] k2 pt2) pos) (tPar i j (tCons ta (tCons tb tNil))) :=
    fun ta tb h1 h2 => ps_par hc hN hi hj hij hx hy (pa_cons h1 (pa_cons h2 pa_nil hs2) hs) hw
  have p1 := ha ρ
  unfold mParEF
  cases q1 : ga ρ with
  | stuck => exact js_never ρ
  | ex c ds ρ1 => rw [q1] at p1; exact ps_weak (rule _ _ p1 pe_no) fun N σ H ⟨F, Z, L, r, k⟩ => ⟨F, Z, L, r, fun cls dd F' H' e r' x => k cls dd σ F' H' e r' x⟩
  | ok d ρ1 =>
    rw [q1] at p1
    have p2 := hb ρ1
    simp only [R.thenS_ok]
    cases q2 : gb ρ1 with
    | stuck => exact js_never ρ
    | ex c ds ρ2 => rw [q2] at p2; exact ps_weak (rule _ _ p1 p2) fun N σ H ⟨F, Z, L, r, k⟩ => ⟨F, Z, L, r, fun v F1 H1 e1 r1 x1 => ⟨F1, Z, L, r1, fun cls dd F' H' e r' x => k cls dd σ F' H' (e1.trans e) r' x⟩⟩
    | ok d2 ρ2 =>
      rw [q2] at p2
      refine ps_weak (rule _ _ p1 p2) fun N σ H ⟨F, Z, L, r, k⟩ => ⟨F, Z, L, r, fun v F1 H1 e1 r1 x1 => ⟨F1, Z, L, r1, fun a o F2 H2 e2 hz r2 x2 => ?_⟩⟩
      obtain ⟨ρ3, q3, k⟩ := setVS_ks k
      obtain ⟨ρ4, q4, k⟩ := setOS_ks k
      exact ⟨v, .ref a, rfl, k _ F2 H2 (e1.trans e2) ((r2.setV q3 (x1.mono e2)).setO hz q4 x2)⟩
end
def joinD (z : Str) : D → Option D := fun d => match seqOf d with
  | some ds => match d with
    | .str _ => none
    | _ => (strsOf ds).bind fun ys => if (ys.map (·.length)).sum + ys.length * z.length ≤ 16777216 then some (.str (Txt.join z ys)) else none
  | none => none
theorem strsOf_reps {F : Hp} : ∀ {ds : List D} {ys : List Str} {vs : List V}, strsOf ds = some ys → Reps K T F ds vs → vs = ys.map V.str
  | [], ys, vs, h, r => by cases h; exact r
  | d :: ds, ys, vs, h, ⟨v, ws, e1, h1, r⟩ => by
    cases d <;> simp only [strsOf, reduceCtorEq] at h
    rename_i x
    cases q : strsOf ds with
    | none => rw [q] at h; cases h
    | some zs => rw [q] at h; cases h; rw [e1, show v = _ from h1, strsOf_reps q r]; rfl
theorem je_join {z : Str} {j : Nat} {p1 apos : Pos} {g : Ev D} (ha : JE T X W a g)
    (h1 : attributeBase (.Constant (.str z) j p1) "join" X.env (eval (.Constant (.str z) j p1) X.env) = eval (.Constant (.str z) j p1) X.env := by rfl) (h3 : (apos.endLine == pos.line) = true := by rfl)
    (h4 : starEach [a] X.env = [(false, eval a X.env)] := by rfl) : JE T X W (.Call (.Attribute (.Constant (.str z) j p1) "join" apos) [a] [] pos) (mCall1 (joinD z) g) := fun ρ => by
  have p1 := ha ρ
  unfold mCall1
  cases q1 : g ρ with
  | stuck => exact pe_no
  | ex c ds ρ1 => rw [q1] at p1; exact pe_weak (pe_join pe_str p1 h4 h1 h3) fun σ H Q q => ⟨⟨_, rfl⟩, q⟩
  | ok d ρ1 =>
    rw [q1] at p1
    simp only [R.bind_ok]
    cases q2 : joinD z d with
    | none => exact pe_no
    | some u =>
      refine pe_weak (pe_join pe_str p1 h4 h1 h3) fun σ H Q ⟨F, Z, L, r, k⟩ => ⟨⟨_, rfl⟩, F, Z, L, r, fun v F1 H1 e1 r1 x1 => ?_⟩
      unfold joinD at q2
      have fin : ∀ ds ys, strsOf ds = some ys → (ys.map (·.length)).sum + ys.length * z.length ≤ 16777216 → u = .str (Txt.join z ys) → (∃ p vs, v = .ref p ∧ (SqL X.K H1 p vs ∨ SqT X.K H1 p vs) ∧ Reps X.K T F1 ds vs) →
          ∃ a p, ∃ ys : List Str, V.str z = .str a ∧ [v] = [.ref p] ∧ (SqL X.K H1 p (ys.map V.str) ∨ SqT X.K H1 p (ys.map V.str)) ∧ (ys.map (·.length)).sum + ys.length * a.length ≤ 16777216 ∧ Q (.str (Txt.join a ys)) H1 := by
        intro ds ys h1 h2 h3 ⟨p, vs, e2, h4, h5⟩
        rw [strsOf_reps h1 h5] at h4
        subst h3
        exact ⟨z, p, ys, rfl, by rw [e2], h4, h2, k _ F1 H1 e1 r1 rfl⟩
      cases d with
      | tup xs =>
        simp only [seqOf] at q2
        cases q3 : strsOf xs with
        | none => rw [q3] at q2; cases q2
        | some ys =>
          rw [q3] at q2
          simp only [Option.bind_some] at q2
          split at q2
          · rename_i hz
            obtain ⟨a, vs, rfl, h5, rr⟩ := x1
            exact fin xs ys q3 hz (by cases q2; rfl) ⟨a, vs, rfl, .inr (r1.exF.sqT h5), rr⟩
          · cases q2
      | fru xs =>
        simp only [seqOf] at q2
        cases q3 : strsOf xs with
        | none => rw [q3] at q2; cases q2
        | some ys =>
          rw [q3] at q2
          simp only [Option.bind_some] at q2
          split at q2
          · rename_i hz
            obtain ⟨a, vs, rfl, h5, rr⟩ := x1
            exact fin xs ys q3 hz (by cases q2; rfl) ⟨a, vs, rfl, .inr (r1.exF.sqT h5), rr⟩
          · cases q2
      | lst xs =>
        simp only [seqOf] at q2
        cases q3 : strsOf xs with
        | none => rw [q3] at q2; cases q2
        | some ys =>
          rw [q3] at q2
          simp only [Option.bind_some] at q2
          split at q2
          · rename_i hz
            obtain ⟨a, vs, rfl, h5, rr⟩ := x1
            exact fin xs ys q3 hz (by cases q2; rfl) ⟨a, vs, rfl, .inl (SqL.of (r1.exF _ _ h5)), rr⟩
          · cases q2
      | frl xs =>
        simp only [seqOf] at q2
        cases q3 : strsOf xs with
        | none => rw [q3] at q2; cases q2
        | some ys =>
          rw [q3] at q2
          simp only [Option.bind_some] at q2
          split at q2
          · rename_i hz
            obtain ⟨a, vs, rfl, h5, rr⟩ := x1
            exact fin xs ys q3 hz (by cases q2; rfl) ⟨a, vs, rfl, .inl (r1.exF.sqL h5), rr⟩
          · cases q2
      | _ => simp [seqOf] at q2
end
end VS
set_option maxHeartbeats 2000000
namespace VS
open PySem L2 PySem.Spec PyProof.Rows
section
variable {prog : Program} {w : World} {A : Around} {E : Value → Shared → Prop} {s : Shared} {sl : Addr} {v1 v2 v3 : Value}
theorem down_all {n : Nat} {Q : Int × Int × Nat → Shared → Prop} (obj : s.heap.IsSliceOf sl v1 v2 v3) (p1 : IsPart v1 none) (p2 : IsPart v2 none) (p3 : IsPart v3 (some (-1))) (then_ : Q ((n : Int) - 1, -1, n) s) :
    wpAny (model prog w) A (Builtin.Slice.sliceApplied (.ref sl) (pure (n : Int))) Q E s := by
  have count : Builtin.Slice.slicePlaces ((n : Int) - 1) (-1) (-1) = n := by
    simp only [Builtin.Slice.slicePlaces]
    rw [if_neg (by decide), show (- -1 : Int) = 1 from rfl, Int.ediv_one]
    split <;> omega
  have ends : Builtin.Slice.sliceAdjust none none (-1) (n : Int) = ((n : Int) - 1, -1) := rfl
  have obj' := obj
  obtain ⟨ob, at_ob, _, flds⟩ := obj'
  simp only [Builtin.Slice.sliceApplied, Builtin.Slice.sliceFields]
  refine wpAny_bind (wpAny_bind (wpAny_field at_ob flds (x := v1) rfl (wpAny_bind (wpAny_field at_ob flds (x := v2) rfl (wpAny_bind (wpAny_field at_ob flds (x := v3) rfl (wpAny_pure (wpAny_bind (HT.slicePart_ p3 ?_)))))))))
  show wpAny _ _ (ite (((-1 : Int) == 0) = true) _ _) _ _ s
  rw [if_neg (by decide)]
  refine wpAny_bind (HT.slicePart_ p1 (wpAny_bind (HT.slicePart_ p2 (wpAny_bind (wpAny_pure ?_)))))
  refine wpAny_pure ?_
  show Q ((Builtin.Slice.sliceAdjust none none (-1) (n : Int)).fst, -1, Builtin.Slice.slicePlaces (Builtin.Slice.sliceAdjust none none (-1) (n : Int)).fst (Builtin.Slice.sliceAdjust none none (-1) (n : Int)).snd (-1)) s
  rw [ends, count]
  exact then_
theorem pick_down (xs : Array Value) : ((List.range xs.size).filterMap fun (k : Nat) => xs[((xs.size : Int) - 1 + (k : Int) * (-1)).toNat]?).toArray = xs.toList.reverse.toArray := by
  have turned : ∀ k : Nat, xs[((xs.size : Int) - 1 + (k : Int) * (-1)).toNat]? = xs[xs.size - 1 - k]? := fun k => by
    rw [show ((xs.size : Int) - 1 + (k : Int) * (-1)).toNat = xs.size - 1 - k by omega]
  simp only [turned]
  have := List.filterMap_map (f := fun k => xs.size - 1 - k) (g := fun k => xs[k]?) (l := List.range xs.size)
  rw [PySem.W.krv_range, List.filterMap_reverse, PySem.W.krv_all] at this
  rw [show (fun k => xs[xs.size - 1 - k]?) = (fun k => xs[k]?) ∘ fun k => xs.size - 1 - k from rfl, ← this]
theorem item_down {t : Addr} {items : Array Value} {Q : Value → Shared → Prop} (tup : IsTup s.heap t items) (obj : s.heap.IsSliceOf sl v1 v2 v3) (p1 : IsPart v1 none) (p2 : IsPart v2 none) (p3 : IsPart v3 (some (-1))) (few : items.size ≤ sizeLine)
    (then_ : Q (.ref s.heap.objs.size) { s with heap := s.heap.push { cls := .type "tuple", data := .seq items.toList.reverse.toArray } }) : wpAny (model prog w) A (getItem (.ref t) (.ref sl)) Q E s := by
  have fits : sizeOk (.seq items.toList.reverse.toArray) := by simpa [sizeOk] using few
  have slice_ : s.TypeIs (.ref sl) "slice" := let ⟨ob, at_ob, c, _⟩ := obj; ⟨ob, at_ob, c⟩
  simp only [getItem]
  try with_reducible apply wpAny_holding
  try apply wpAny_bind; apply wpAny_pure
  refine wpAny_bind (wpAny_sequenceKey tup.typeIs (by decide) (wpAny_bind (wpAny_callSpecial?_slot (name := Str.ofString "__getitem__") tup.typeIs PyProof.Rows.slot_tuple_getitem (wpAny_call_entry PyProof.Rows.slot_tuple_getitem tup.typeIs entry_tuple_getitem ?_ (args_tuple_getitem _ _)))))
  refine wpAny_bind (m := Builtin.Tuple.tupleItemsOf (.ref t)) (tupleItemsOf_ tup (wpAny_bind (wpAny_typeOf slice_ ?_)))
  rw [if_pos (by decide)]
  refine wpAny_bind (down_all obj p1 p2 p3 ?_)
  show wpAny _ _ (ite (((items.size : Int) - 1 == 0 && (-1 : Int) == 1 && items.size == items.size) = true) _ _) _ _ s
  rw [if_neg (by simp), pick_down]
  first
    | exact wpAny_bind (m := Builtin.Tuple.tupleExact _) (wpAny_newObj_type (wpAny_pure ⟨_, rfl, wpAny_pure then_⟩) fits)
    | exact wpAny_bind (m := Builtin.Tuple.tupleExact _) (wpAny_newObj_type (wpAny_bind (wpAny_pure (wpAny_pure ⟨_, rfl, wpAny_pure then_⟩))) fits)
    | exact wpAny_bind (wpAny_bind (m := Builtin.Tuple.tupleExact _) (wpAny_newObj_type (wpAny_pure (wpAny_pure ⟨_, rfl, wpAny_pure then_⟩)) fits))
    | exact wpAny_bind (wpAny_bind (m := Builtin.Tuple.tupleExact _) (wpAny_newObj_type (wpAny_pure ⟨_, rfl, wpAny_pure then_⟩) fits))
end
section
variable {T : Txt} {X : Cx} {W : WX} {st : Stmt} {sts : List Stmt} {tg e a b c : Expr} {es : List Expr} {pos p : Pos} {K : PySem.W.Frag}
def tRevT (K : PySem.W.Frag) (te : TE) : TE := fun σ H Q => te σ H fun x H1 => ∃ a xs, x = .ref a ∧ SqT K H1 a xs ∧ ∀ p, H1 p = none → Q (.ref p) (upd H1 p (.tup xs.reverse))
theorem pe_revT {te : TE} {k : Nat} {p1 p2 p3 : Pos} (he : PE X e te) : PE X (.Subscript e (.Slice none none (some (.UnaryOp .USub (.Constant (.int 1) k p1) p2)) p3) pos) (tRevT X.K te) := by
  have step : PO X (some (.UnaryOp .USub (.Constant (.int 1) k p1) p2)) (tPart (tUn (rU fun i => .int (-i)) (tC (.int 1)))) := po_some (pe_un un_neg pe_int)
  refine ⟨fun pins s σ H Q I h => Subscript_ (thn (he.run pins s σ H _ I h) ?_)⟩
  rintro _ s1 ⟨_, H1, J1, rel, t, xs, rfl, sq, then_⟩
  cases rel
  refine wpAny_Slice (thn (po_none.run pins s1 σ H1 (fun o G => o = none ∧ G = H1) J1 ⟨rfl, rfl⟩) ?_)
  rintro v1 s2 ⟨_, _, J2, is1, rfl, rfl⟩
  refine thn (po_none.run pins s2 σ _ (fun o G => o = none ∧ G = _) J2 ⟨rfl, rfl⟩) ?_
  rintro v2 s3 ⟨_, _, J3, is2, rfl, rfl⟩
  refine thn (step.run pins s3 σ _ (fun o G => o = some (-1) ∧ G = _) J3 ⟨1, rfl, -1, rfl, rfl, rfl⟩) ?_
  rintro v3 s4 ⟨_, _, J4, is3, rfl, rfl⟩
  have J5 := J4.kept (h' := s4.heap.push { cls := .type "slice", data := .fields #[v1, v2, v3] }) (t' := s4.toks) fun b ob q => Heap.get?_push_of_some _ q
  obtain ⟨its, vals, tup, few⟩ := J5.tuple sq
  show wpAny (model X.prog X.w) X.A (subscriptTail e (.Slice none none (some (.UnaryOp .USub (.Constant (.int 1) k p1) p2)) p3) (.ref t) (.ref s4.heap.objs.size)) (EP X pins σ Q) X.xe _
  refine tail_any (ops := [.ref t, .ref s4.heap.objs.size]) tup.typeIs PyProof.Rows.slot_tuple_getitem.lookup ?_ (by with_unfolding_all rfl)
  refine item_down tup (Heap.IsSliceOf.new _ v1 v2 v3) is1 is2 is3 (by rw [List.size_toArray, ← vals.length]; exact few) ?_
  refine ⟨.ref _, _, J5.laid (t' := s4.toks) (o := .tup xs.reverse) (fun b ob q => Heap.get?_push_of_some _ q) (Nat.le_refl _) ?_, rfl, then_ _ (J5.hok.fresh (Nat.le_refl _))⟩
  refine ⟨?_, _, vals.reverse, _, Heap.get?_push_size _ rfl, rfl, _, rfl⟩
  rw [List.length_reverse]
  exact few
def revD : D → Option D
  | .lst xs => some (.lst xs.reverse)
  | .frl xs => some (.lst xs.reverse)
  | .tup xs => some (.tup xs.reverse)
  | _ => none
theorem Reps.reverse {F : Hp} : ∀ {ds : List D} {vs : List V}, Reps K T F ds vs → Reps K T F ds.reverse vs.reverse
  | [], vs, h => by rw [show vs = _ from h]; exact rfl
  | d :: ds, vs, ⟨v, ws, e1, h, r⟩ => by
    rw [e1, List.reverse_cons, List.reverse_cons]
    exact (Reps.reverse r).append (Reps.one h)
theorem je_rev {k : Nat} {p1 p2 p3 : Pos} {g : Ev D} (ha : JE T X W a g) : JE T X W (.Subscript a (.Slice none none (some (.UnaryOp .USub (.Constant (.int 1) k p1) p2)) p3) pos) (mCall1 revD g) := fun ρ => by
  have h1 := ha ρ
  unfold mCall1
  cases q1 : g ρ with
  | stuck => exact pe_no
  | ex c ds ρ1 => rw [q1] at h1; exact pe_weak (pe_revL h1) fun σ H Q q => q
  | ok d ρ1 =>
    rw [q1] at h1
    simp only [R.bind_ok]
    cases d with
    | tup xs =>
      refine pe_weak (pe_revT h1) fun σ H Q ⟨F, Z, L, r, k⟩ => ⟨F, Z, L, r, fun v F1 H1 e1 r1 ⟨q, vs, ev, hs, rr⟩ => ⟨q, vs, ev, r1.exF.sqT hs, fun p hp => ?_⟩⟩
      have g := Grow.new (K := X.K) (T := T) (o := HO.tup vs.reverse) r1.exF hp
      exact k _ _ _ (e1.trans g.1) (g.2 _ _ _ _ r1) ⟨p, _, rfl, SqX.of upd_same, rr.reverse.mono g.1⟩
    | lst xs =>
      refine pe_weak (pe_revL h1) fun σ H Q ⟨F, Z, L, r, k⟩ => ⟨F, Z, L, r, fun v F1 H1 e1 r1 ⟨q, vs, ev, hs, rr⟩ => ⟨q, vs, ev, SqL.of (r1.exF _ _ hs), fun p hp => ?_⟩⟩
      have g := Grow.new (K := X.K) (T := T) (o := HO.lst vs.reverse) r1.exF hp
      exact k _ _ _ (e1.trans g.1) (g.2 _ _ _ _ r1) ⟨p, _, rfl, upd_same, rr.reverse.mono g.1⟩
    | frl xs =>
      refine pe_weak (pe_revL h1) fun σ H Q ⟨F, Z, L, r, k⟩ => ⟨F, Z, L, r, fun v F1 H1 e1 r1 ⟨q, vs, ev, hs, rr⟩ => ⟨q, vs, ev, r1.exF.sqL hs, fun p hp => ?_⟩⟩
      have g := Grow.new (K := X.K) (T := T) (o := HO.lst vs.reverse) r1.exF hp
      exact k _ _ _ (e1.trans g.1) (g.2 _ _ _ _ r1) ⟨p, _, rfl, upd_same, rr.reverse.mono g.1⟩
    | _ => exact pe_no
end
end VS
set_option maxHeartbeats 2000000
namespace VS
open PySem L2 PySem.Spec PyProof.Rows
theorem str_ext {x y : Str} (h : x.cps.toList = y.cps.toList) : x = y := by
  cases x; cases y
  simp only [Str.mk.injEq]
  exact Array.toList_inj.mp h
section
variable {T : Txt} {X : Cx} {W : WX} {st : Stmt} {sts : List Stmt} {tg e a b c : Expr} {es : List Expr} {pos p : Pos} {K : PySem.W.Frag}
theorem reps_ints {F : Hp} : ∀ (ns : List Int), Reps K T F (ns.map .int) (ns.map V.int)
  | [] => rfl
  | n :: ns => ⟨_, _, rfl, rfl, reps_ints ns⟩
theorem reps_strs {F : Hp} : ∀ (ns : List Str), Reps K T F (ns.map .str) (ns.map V.str)
  | [] => rfl
  | n :: ns => ⟨_, _, rfl, rfl, reps_strs ns⟩
end
end VS
set_option maxHeartbeats 2000000
namespace VS
open PySem L2 PySem.Spec PyProof.Rows
section
variable {T : Txt} {X : Cx} {W : WX} {st : Stmt} {sts : List Stmt} {tg e a b c : Expr} {es : List Expr} {pos p : Pos} {K : PySem.W.Frag}
theorem mul_one_meets (l : Addr) (items : Array Value) (n : Nat) (dd : Option Addr) (sl : Array (Option Value)) (u : Tok) :
    Meets (Builtin.«tuple.__mul__» ⟨[.ref l, .int 1 u], []⟩) (fun _ R s => s.heap.get? l = some { cls := .type "tuple", dict := dd, data := .seq items n, slots := sl } ∧ R (.ok (.ret (Value.ref l))) s) :=
  .of_wp fun prog w A R s h => by
    obtain ⟨hp, g, d, tk, os⟩ := s
    obtain ⟨hl, h⟩ := h
    have f1 := AutoSeq1.idx_int
    wp_walk using AutoSeq1.wpAny_loadPart' hl
    exact ⟨_, rfl, h⟩
def rRep1 (K : PySem.W.Frag) : R2 := fun x y H Q => ∃ l xs, x = .ref l ∧ y = .int 1 ∧ SqT K H l xs ∧ Q (.ref l) H
theorem op_rep1 : OpR X (binaryOp .Mult) (rRep1 X.K) := by
  intro pins s σ H x y v u Q I rx ry h
  obtain ⟨l, xs, rfl, rfl, hT, q⟩ := h
  cases rx
  obtain ⟨t, rfl⟩ := ry
  obtain ⟨its, r, ⟨⟨cls, dd, data, sl⟩, ho, hc, n, hd⟩, hs⟩ := I.tuple hT
  simp only at hc hd
  subst hc hd
  refine wpAny_binaryOp_repeat_ref (T := "tuple") (U := "int") (by decide) ⟨_, ho, rfl⟩ (fun s' => typeIs_int s' 1 t) noFill_tuple_mul F.fills_int_mul F.slot_int_rmul repeat_tuple F.slot_int_index.lookup ?_
  refine call_meets F.slot_int_rmul (typeIs_int s 1 t) F.entry_int_rmul (F.args_int_rmul_2 _ _) (int_rmul_tuple 1 t l its.toArray n dd sl) ⟨ho, rfl, ⟨_, ho, rfl⟩, ?_⟩
  exact call_meets F.slot_tuple_mul ⟨_, ho, rfl⟩ F.entry_tuple_mul (F.args_tuple_mul_2 _ _) (mul_one_meets l its.toArray n dd sl t) ⟨ho, ⟨.ref l, H, I, rfl, q⟩⟩
def repS (z : Str) (n : Nat) : Str := ⟨(List.replicate n z.cps).foldl (· ++ ·) #[]⟩
def rRepS : R2 := fun x y H Q => ∃ z k, x = .str z ∧ y = .int k ∧ 2 ≤ k ∧ k ≤ 1000 ∧ 0 < z.length ∧ z.length ≤ 1000 ∧ Q (.str (repS z k.toNat)) H
theorem op_repS : OpR X (binaryOp .Mult) rRepS := by
  intro pins s σ H x y v u Q I rx ry h
  obtain ⟨z, k, rfl, rfl, h2, h3, h4, h5, q⟩ := h
  obtain ⟨t, rfl⟩ := rx
  obtain ⟨t', rfl⟩ := ry
  have c : (k == 1 || z.length == 0) = false := by
    rw [beq_eq_false_iff_ne.mpr (by omega), beq_eq_false_iff_ne.mpr (by omega)]; rfl
  refine P.mul_str (by rw [decide_eq_false (by omega), decide_eq_false (by omega)]; rfl) (fun _ _ hb => ?_) (fun _ _ => ?_) ?_
  · have : (1000 : Int) ≤ (2 ^ 63 - 1) / k := by
      exact Int.le_ediv_of_mul_le (by omega) (by omega)
    omega
  · have e1 : z.length * k.toNat ≤ 1000 * 1000 := Nat.mul_le_mul h5 (by omega)
    exact decide_eq_false (by have : sizeLine ≥ 1000000 := by decide
                              omega)
  · rw [if_neg (by omega), c, if_neg Bool.false_ne_true]
    refine ⟨?_, .str (repS z k.toNat), H, I.tok _, ⟨_, rfl⟩, q⟩
    have e0 : ∀ (m : Nat) (acc : Array Nat), ((List.replicate m z.cps).foldl (· ++ ·) acc).size = acc.size + m * z.cps.size := by
      intro m
      induction m with
      | zero => intro acc; simp
      | succ m ih => intro acc; rw [List.replicate_succ, List.foldl_cons, ih, Array.size_append, Nat.succ_mul]; omega
    show ((List.replicate k.toNat z.cps).foldl (· ++ ·) #[]).size ≤ sizeLine
    rw [e0]
    have e1 : k.toNat * z.cps.size ≤ 1000 * 1000 := Nat.mul_le_mul (by omega) h5
    have e2 : sizeLine ≥ 1000000 := by decide
    simp only [List.size_toArray, List.length_nil]
    omega
def mulE : D → D → Option D
  | .str z, .int k => if 2 ≤ k ∧ k ≤ 1000 ∧ 0 < z.length ∧ z.length ≤ 1000 then some (.str (repS z k.toNat)) else none
  | .tup xs, .int k => if k = 1 then some (.tup xs) else mulD (.tup xs) (.int k)
  | .lst xs, .int k => if -1000 ≤ k ∧ k ≤ 1000 ∧ xs.length ≤ 1000 then some (.lst (List.replicate k.toNat xs).flatten) else none
  | x, y => mulD x y
def rMulE (K : PySem.W.Frag) : R2 := fun x y H Q => rMulA K x y H Q ∨ (rRep1 K x y H Q ∨ (rRepS x y H Q ∨ rRep x y H Q))
theorem op_mulE : OpR X (binaryOp .Mult) (rMulE X.K) := opr_or op_mulA (opr_or op_rep1 (opr_or op_repS op_rep))
theorem opv_mulE : OpV K T (rMulE K) mulE := by
  intro x y z h F H v w Q e rx ry k
  unfold mulE at h
  split at h
  · obtain rfl : v = _ := rx
    obtain rfl : w = _ := ry
    split at h
    · rename_i q
      cases h
      exact .inr (.inr (.inl ⟨_, _, rfl, rfl, q.1, q.2.1, q.2.2.1, q.2.2.2, k _ F H .refl rfl⟩))
    · cases h
  · split at h
    · rename_i q
      cases h
      subst q
      obtain rfl : w = _ := ry
      obtain ⟨a, vs, rfl, ha, ra⟩ := rx
      exact .inr (.inl ⟨a, vs, rfl, rfl, e.sqT ha, k _ F H .refl ⟨a, vs, rfl, ha, ra⟩⟩)
    · exact .inl (opv_mul _ _ z h F H v w Q e rx ry k)
  · rename_i xs j
    split at h
    · rename_i q
      cases h
      obtain rfl : w = _ := ry
      obtain ⟨a, vs, rfl, ha, ra⟩ := rx
      refine .inr (.inr (.inr ⟨a, j, vs, rfl, rfl, e _ _ ha, by omega, by omega, ?_, fun p hp => ?_⟩))
      · rw [ra.length]
        have e1 : xs.length * j.toNat ≤ 1000 * 1000 := Nat.mul_le_mul q.2.2 (by omega)
        have : sizeLine ≥ 1000000 := by decide
        omega
      · have g := Grow.new (K := K) (T := T) (o := HO.lst (List.replicate j.toNat vs).flatten) e hp
        exact k _ _ _ g ⟨p, _, rfl, upd_same, (ra.rep _).mono g.1⟩
    · cases h
  · exact .inl (opv_mul _ _ z h F H v w Q e rx ry k)
theorem je_mulE {ga gb : Ev D} (ha : JE T X W a ga) (hb : JE T X W b gb) : JE T X W (.BinOp a .Mult b pos) (mOp mulE ga gb) := je_op2 (fun _ _ h1 h2 => pe_op op_mulE h1 h2) opv_mulE ha hb
def rTupS (calm : Bool) : List V → Hp → VK → Prop := fun xs H Q => calm = true ∧ ∃ z : Str, xs = [V.str z] ∧ z.cps.size ≤ sizeLine ∧ ∀ l, H l = none → Q (.ref l) (upd H l (.tup (z.cps.toList.map fun c => V.str ⟨#[c]⟩)))
theorem call_tupS : CallR X (.type "tuple") (rTupS X.calm) := by
  intro pins s σ H xs us Q I r h
  obtain ⟨hc, z, rfl, hz, q⟩ := h
  cases r with
  | cons r1 rr =>
    cases rr
    obtain ⟨t, rfl⟩ := r1
    refine call_tuple_str (I.ok.hd hc) z t (fun h' tk acc hk hi => ?_) hz
    have I1 : Inv X pins σ H { s with heap := h', toks := tk } := I.kept hk
    have vals : ∀ (k : Nat), k ≤ z.cps.size → Vals ((z.cps.toList.take k).map fun c => V.str ⟨#[c]⟩) (acc.toList.take k) := by
      intro k
      induction k with
      | zero => intro _; exact .nil
      | succ k ih =>
        intro hk
        have hlt : k < z.cps.size := by omega
        have hka : k < acc.size := by rw [hi.1]; exact hlt
        obtain ⟨v, hv⟩ : ∃ v, acc[k]? = some v := ⟨acc[k], by simp [hka]⟩
        obtain ⟨c, u, hc1, hv2⟩ := hi.2 k v hv
        rw [List.take_add_one, List.take_add_one, List.map_append]
        have e1 : z.cps.toList[k]? = some c := by simpa using hc1
        have e2 : acc.toList[k]? = some v := by simpa using hv
        rw [e1, e2]
        exact (ih (by omega)).append (.cons ⟨u, hv2⟩ .nil)
    have hv := vals z.cps.size (Nat.le_refl _)
    rw [List.take_of_length_le (by simp), List.take_of_length_le (by rw [Array.length_toList, hi.1]; exact Nat.le_refl _)] at hv
    have e3 : acc = acc.toList.toArray := by simp
    have I2 : Inv X pins σ (upd H h'.objs.size (.tup (z.cps.toList.map fun c => V.str ⟨#[c]⟩))) { s with heap := h'.push { cls := .type "tuple", data := .seq acc }, toks := tk } := by
      rw [e3]
      exact I1.laid (t' := tk) (fun b o e => Heap.get?_push_of_some _ e) (Nat.le_refl _) (show ObjOk X.prog X.w _ _ _ (.tup _) from ⟨by rw [List.length_map, Array.length_toList]; exact hz, acc.toList, hv, IsTup.new _ _⟩)
    exact ⟨.ref h'.objs.size, _, I2, rfl, q _ (I1.hok.fresh (Nat.le_refl _))⟩
def tupleE : D → Option D
  | .str z => if z.length ≤ lim then some (.tup (signs z)) else none
  | d => tupleD d
def rTupE (K : PySem.W.Frag) (calm : Bool) : List V → Hp → VK → Prop := fun xs H Q => rTup1 K xs H Q ∨ rTupS calm xs H Q
theorem reps_signs {F : Hp} : ∀ (cs : List Nat), Reps K T F (cs.map fun c => .str ⟨#[c]⟩) (cs.map fun c => V.str ⟨#[c]⟩)
  | [] => rfl
  | n :: ns => ⟨_, _, rfl, rfl, reps_signs ns⟩
theorem callv_tupleE (hc : X.calm = true) : CallV1 K T (rTupE K X.calm) tupleE := by
  intro d z h F H v Q e r k
  unfold tupleE at h
  split at h
  · split at h
    · rename_i q
      cases h
      obtain rfl : v = _ := r
      refine .inr ⟨hc, _, rfl, le_line q, fun l hl => ?_⟩
      rename_i zz
      have g := Grow.new (K := K) (T := T) (o := HO.tup (zz.cps.toList.map fun c => V.str ⟨#[c]⟩)) e hl
      exact k _ _ _ g ⟨l, _, rfl, SqX.of upd_same, reps_signs _⟩
    · cases h
  · exact .inl (callv_tuple d z h F H v Q e r k)
theorem je_tupleE {g : Ev D} (hc : X.calm = true) (hm : X.mg "tuple" = none) (ha : JB T X W a g) (hg : Gl X "tuple" := by rfl) (hs : starEach [a] X.env = (false, eval a X.env) :: starEach [] X.env := by rfl) : JE T X W (.Call (.Name "tuple" p) [a] [] pos) (mCall1 tupleE g) :=
  je_call1 (fun _ h => pe_callTy (callr_or call_tuple_of call_tupS) hg hm (by decide +kernel) h (by decide) (by decide) hs rfl) (callv_tupleE hc) ha hs
def putD (kvs : List (Key × D)) (k : Key) (d : D) : List (Key × D) := if (kvs.any fun kv => decide (kv.1 = k)) = true then kvs.map (fun kv => if kv.1 = k then (kv.1, d) else kv) else kvs ++ [(k, d)]
theorem repK_any {F : Hp} {k : Key} : ∀ {kvs : List (Key × D)} {ws : List (Key × V)}, RepK K T F kvs ws → (ws.any fun kv => decide (kv.1 = k)) = kvs.any fun kv => decide (kv.1 = k)
  | [], ws, r => by rw [show ws = _ from r]; rfl
  | (k', d) :: kvs, ws, ⟨v, us, e1, h, r⟩ => by rw [e1]; simp only [List.any_cons]; rw [repK_any r]
theorem repK_map {F : Hp} {k : Key} {d : D} {v : V} (p : Rep K T F d v) : ∀ {kvs : List (Key × D)} {ws : List (Key × V)}, RepK K T F kvs ws → RepK K T F (kvs.map fun kv => if kv.1 = k then (kv.1, d) else kv) (ws.map fun kv => if kv.1 = k then (kv.1, v) else kv)
  | [], ws, r => by rw [show ws = _ from r]; exact rfl
  | (k', d') :: kvs, ws, ⟨v', us, e1, h, r⟩ => by
    rw [e1]
    simp only [List.map_cons]
    by_cases hk : k' = k
    · rw [if_pos hk, if_pos hk]; exact ⟨v, _, rfl, p, repK_map p r⟩
    · rw [if_neg hk, if_neg hk]; exact ⟨v', _, rfl, h, repK_map p r⟩
theorem RepK.snoc {F : Hp} {k : Key} {d : D} {v : V} (p : Rep K T F d v) : ∀ {kvs : List (Key × D)} {ws : List (Key × V)}, RepK K T F kvs ws → RepK K T F (kvs ++ [(k, d)]) (ws ++ [(k, v)])
  | [], ws, r => by rw [show ws = _ from r]; exact ⟨v, [], rfl, p, rfl⟩
  | (k', d') :: kvs, ws, ⟨v', us, e1, h, r⟩ => by rw [e1]; exact ⟨v', _, rfl, h, RepK.snoc p r⟩
theorem RepK.put {F : Hp} {k : Key} {d : D} {v : V} {kvs : List (Key × D)} {ws : List (Key × V)} (p : Rep K T F d v) (r : RepK K T F kvs ws) : RepK K T F (putD kvs k d) (putK ws k v) := by
  unfold putD putK
  rw [repK_any r]
  split
  · exact repK_map p r
  · exact r.snoc p
def putT (kvs : List (List Key × D)) (k : List Key) (d : D) : List (List Key × D) := if (kvs.any fun kv => decide (kv.1 = k)) = true then kvs.map (fun kv => if kv.1 = k then (kv.1, d) else kv) else kvs ++ [(k, d)]
theorem repKT_any {F : Hp} {k : List Key} : ∀ {kvs : List (List Key × D)} {ws : List (List Key × V)}, RepKT K T F kvs ws → (ws.any fun kv => decide (kv.1 = k)) = kvs.any fun kv => decide (kv.1 = k)
  | [], ws, r => by rw [show ws = _ from r]; rfl
  | (k', d) :: kvs, ws, ⟨v, us, e1, h, r⟩ => by rw [e1]; simp only [List.any_cons]; rw [repKT_any r]
theorem repKT_map {F : Hp} {k : List Key} {d : D} {v : V} (p : Rep K T F d v) : ∀ {kvs : List (List Key × D)} {ws : List (List Key × V)}, RepKT K T F kvs ws → RepKT K T F (kvs.map fun kv => if kv.1 = k then (kv.1, d) else kv) (ws.map fun kv => if kv.1 = k then (kv.1, v) else kv)
  | [], ws, r => by rw [show ws = _ from r]; exact rfl
  | (k', d') :: kvs, ws, ⟨v', us, e1, h, r⟩ => by
    rw [e1]
    simp only [List.map_cons]
    by_cases hk : k' = k
    · rw [if_pos hk, if_pos hk]; exact ⟨v, _, rfl, p, repKT_map p r⟩
    · rw [if_neg hk, if_neg hk]; exact ⟨v', _, rfl, h, repKT_map p r⟩
theorem RepKT.snoc {F : Hp} {k : List Key} {d : D} {v : V} (p : Rep K T F d v) : ∀ {kvs : List (List Key × D)} {ws : List (List Key × V)}, RepKT K T F kvs ws → RepKT K T F (kvs ++ [(k, d)]) (ws ++ [(k, v)])
  | [], ws, r => by rw [show ws = _ from r]; exact ⟨v, [], rfl, p, rfl⟩
  | (k', d') :: kvs, ws, ⟨v', us, e1, h, r⟩ => by rw [e1]; exact ⟨v', _, rfl, h, RepKT.snoc p r⟩
theorem RepKT.put {F : Hp} {k : List Key} {d : D} {v : V} {kvs : List (List Key × D)} {ws : List (List Key × V)} (p : Rep K T F d v) (r : RepKT K T F kvs ws) : RepKT K T F (putT kvs k d) (putK ws k v) := by
  unfold putT putK
  rw [repKT_any r]
  split
  · exact repKT_map p r
  · exact r.snoc p
theorem RepKT.length {F : Hp} : ∀ {kvs : List (List Key × D)} {ws : List (List Key × V)}, RepKT K T F kvs ws → ws.length = kvs.length
  | [], ws, r => by rw [show ws = _ from r]; rfl
  | (k', d') :: kvs, ws, ⟨v', us, e1, h, r⟩ => by rw [e1]; simp [RepKT.length r]
def tgPut (i : Nat) (gk : Ev D) (d : D) (ρ : VEnv) : Option VEnv := match ρ[i]? with
  | some (some (Sl.own _ (.dct _))) => match gk ρ with
    | .ok y ρ' => match ρ'[i]? with
      | some (some (Sl.own l (.dct kvs))) => (keyD y).bind fun k => if kvs.length < lim then some (ρ'.set i (some (Sl.own l (.dct (putD kvs k d))))) else none
      | _ => none
    | _ => none
  | _ => none
theorem jg_put {k i : Nat} (hr : Room k X.A) {gk : Ev D} (ho : PE X a (tVar i)) (hk : JE T X W b gk)
    (ha : ∀ v, assign (.Subscript a b pos) X.env v = (do
      let ov ← holding [v] (eval a X.env)
      let iv ← holding [v, ov] (eval b X.env)
      standAt pos
      holding [v, ov, iv] (setItem ov iv v)
      release [v, ov, iv] []) := by intro _; rfl) : JG T X (.Subscript a b pos) [] (tgPut i gk) := by
  refine pg_weak (pg_sub ho (pe_all hk) (set_dict (hu_of hr)) ha) fun v σ H Q ⟨d, ρ, ρ', F, Z, L, q, r, p, k⟩ => ?_
  unfold tgPut at q
  split at q
  · rename_i l0 xs0 q0
    obtain ⟨a0, o0, g1, g2, g3, g4, vs0, g5, g6⟩ := r.own i l0 _ q0
    refine ⟨_, g1, ρ, ?_⟩
    cases q1 : gk ρ with
    | stuck => rw [q1] at q; cases q
    | ex c ds ρ1 => rw [q1] at q; cases q
    | ok y ρ1 =>
      rw [q1] at q
      refine ⟨F, Z, L, r, fun w F1 H1 e1 r1 px => ?_⟩
      dsimp only at q
      split at q
      · rename_i l kvs q2
        obtain ⟨a1, o1, f1, f2, f3, f4, vs1, f5, f6⟩ := r1.own i l _ q2
        have ea : a1 = a0 := by rw [g1] at f1; cases f1; rfl
        subst ea
        cases q3 : keyD y with
        | none => rw [q3] at q; cases q
        | some key =>
          rw [q3] at q
          simp only [Option.bind_some] at q
          split at q
          · rename_i hl
            cases q
            refine ⟨a1, _, rfl, ?_, k σ F1 _ (fun _ _ => rfl) rfl e1 (r1.ownSet q2 f1 ⟨_, rfl, f6.put (p.mono e1)⟩)⟩
            rw [rep_key q3 px]
            exact DPut.k (by rw [f4, f5]) (by rw [f6.length]; exact lt_line hl)
          · cases q
      · cases q
  · cases q
end
end VS
set_option maxHeartbeats 2000000
namespace VS
open PySem L2 PySem.Spec PyProof.Rows
section
variable {prog : Program} {w : World} {A : Around} {E : Value → Shared → Prop} {s : Shared} {v : Value} {o : Obj} {Good : Heap → Prop}
abbrev enObj (it : Addr) : Obj := { cls := .type "enumerate", data := .fields #[.none, .bool false, .ref it, rawInt 0, .none, .none] }
theorem en_new (B : Begins v o Good) : Meets (Builtin.«enumerate.__new__» ⟨[.type "enumerate", v], []⟩) (fun _ R s => Good s.heap ∧ R (.ok (.ret (.ref (s.heap.push o).objs.size))) { s with heap := (s.heap.push o).push (enObj s.heap.objs.size) }) := by
  refine .of_wp ?_
  rintro prog w A R ⟨heap, gens, drawn, toks, os⟩ ⟨good, then_⟩
  have known := sub_enumerate
  have begin_ : ∀ {A' : Around} {E : Value → Shared → Prop} {Q : Value → Shared → Prop}, Q (.ref heap.objs.size) ⟨heap.push o, gens, drawn, toks, os⟩ → wpAny (model prog w) A' (pyIter v) Q E ⟨heap, gens, drawn, toks, os⟩ := fun q => B.iter prog w _ _ _ _ good q
  wp_walk using begin_
  refine wpAny_stack_any fun _ => wpAny_pure ?_
  split
  · rename_i c _ _ _ _ _
    cases (c == Value.type "enumerate") <;> (wp_walk using begin_; exact ⟨_, rfl, then_⟩)
  · wp_walk using begin_
    exact ⟨_, rfl, then_⟩
theorem en_call {Q : Value → Shared → Prop} (B : Begins v o Good) (good : Good s.heap)
    (then_ : ∀ h', IsEnum h' (s.heap.objs.size + 1) s.heap.objs.size 0 .none → h'.get? s.heap.objs.size = some o → (∀ b u, s.heap.get? b = some u → h'.get? b = some u) → Q (.ref (s.heap.objs.size + 1)) { s with heap := h' }) :
    wpAny (model prog w) A (call (.type "enumerate") [v]) Q E s := by
  have size : (s.heap.push o).objs.size = s.heap.objs.size + 1 := Heap.size_push ..
  have is_en := Heap.get?_push_size (s.heap.push o) (o := enObj s.heap.objs.size) rfl
  refine callType_new F.called_enumerate (by decide) (F.typeCall_enumerate_1 v) (F.newCall_enumerate_1 v) (fun obj => F.args_object_init_2 obj v) F.entry_enumerate_new (en_new B) ⟨good, ?_⟩
  rw [size] at is_en
  show _ ∧ _
  rw [size]
  exact ⟨⟨_, is_en, rfl⟩, then_ _ is_en (Heap.get?_push_of_some _ (Heap.get?_push_size _ B.free)) fun b u q => Heap.get?_push_of_some _ (Heap.get?_push_of_some _ q)⟩
end
def IteT (K : PySem.W.Frag) (a : Addr) : It :=
  ⟨fun i H => ∃ (xs : List V) (x : V), SqT K H a xs ∧ xs[i]? = some x, fun i H v H' => ∃ T x, v = .ref T ∧ H T = none ∧ H' = upd H T (.tup [.int (i : Nat), x]) ∧ ∀ xs, SqT K H a xs → xs[i]? = some x, fun i H => ∃ xs : List V, SqT K H a xs ∧ xs.length = i⟩
structure EnAt (a e it : Addr) (i : Nat) (h : Heap) : Prop where
  en : ∃ last, IsEnum h e it ((i : Nat) : Int) last
  it : h.IsTupleIter it a i
section
variable {P : Program} {w : World} {K : PySem.W.Frag} {elts : List Expr} {kk : Nat} {tpos : Pos} {a e it : Addr} {X : Cx} {i : Nat} {pins : List (Addr × Obj)} {s : Shared} {σ : L2.St} {H : Hp} {E : Value → Shared → Prop}
theorem en_turn (d1 : e ≠ it) (d2 : e ≠ a) (d3 : a ≠ it) (calm : X.calm = true) (I : Inv X pins σ H s) (fp : ∀ b ∈ [e, it], FpOk X pins H b) (st : EnAt a e it i s.heap) (go : (IteT X.K a).go i H) :
    wpAny (model X.prog X.w) X.A (pyNext (.ref e)) (fun r s1 => ∃ u, r = some u ∧ wpAny (model X.prog X.w) X.A (letOwnedTupleGo (.Tuple elts kk tpos) (.ref e) u)
      (fun _ s2 => ∃ x H', Inv X pins σ H' s2 ∧ RelV x u ∧ (IteT X.K a).yld i H x H' ∧ EnAt a e it (i + 1) s2.heap ∧ ∀ b ∈ [e, it], H' b = none) E s1) E s := by
  obtain ⟨⟨last, is_e⟩, is_it⟩ := st
  obtain ⟨xs, x, sq, at_x⟩ := go
  obtain ⟨its, vals, tup, _⟩ := I.tuple sq
  obtain ⟨u, at_u, rel⟩ := vals.get at_x
  have le : e < s.heap.objs.size := Heap.lt_size is_e
  have li : it < s.heap.objs.size := let ⟨_, q, _⟩ := is_it; Heap.lt_size q
  have D := Draws.tuple (prog := X.prog) (w := X.w) (A := X.A.in1) (by simpa using I.ok.hd calm) it a d3 its.toArray
  have more : i < its.toArray.size := by simpa using (List.getElem?_eq_some_iff.mp at_u).1
  refine wpAny_pyNext_enum_itemD D is_e ⟨is_it, tup⟩ more d1 (by simp [d1, d2]) fun y h1 tk at_y out st1 new_ _ keep => ?_
  obtain rfl : y = u := Option.some.inj (Eq.trans (by simpa using at_y.symm) at_u)
  refine ⟨_, rfl, wpAny_letOwnedTupleGo_enum (s := { s with heap := h1, toks := tk + 1 }) out fun h2 is_e2 but => ?_⟩
  have pair : h2.get? s.heap.objs.size = some { cls := .type "tuple", data := .seq #[.int i tk, y] } := (but.2 _ (Nat.ne_of_gt le)).trans new_
  have I2 : Inv X pins σ (upd H s.heap.objs.size (.tup [.int (i : Nat), x])) { s with heap := h2, toks := tk + 1 } := by
    refine I.turnedNew (ch := [e, it]) (fun b ob out_ q => ?_) fp (Nat.le_refl _) ⟨by show 2 ≤ sizeLine; decide, [.int i tk, y], .cons ⟨_, rfl⟩ (.cons rel .nil), ⟨_, pair, rfl, _, rfl⟩⟩
    simp only [List.mem_cons, List.not_mem_nil, or_false, not_or] at out_
    exact (but.2 b out_.1).trans (keep b ob out_.1 out_.2 q)
  refine ⟨.ref s.heap.objs.size, _, I2, rfl, ⟨_, x, rfl, I.hok.fresh (Nat.le_refl _), rfl, fun ys sq2 => by rw [I.tuple_inj sq2 sq]; exact at_x⟩, ⟨⟨y, ?_⟩, st1.1.at fun ob q => (but.2 it (Ne.symm d1)).trans q⟩, fun b hb => ?_⟩
  · rw [show ((i + 1 : Nat) : Int) = (i : Int) + 1 by omega]
    exact is_e2
  · have lb : b < s.heap.objs.size := by
      simp only [List.mem_cons, List.not_mem_nil, or_false] at hb
      rcases hb with z | z <;> rw [z] <;> assumption
    rw [upd_ne (Nat.ne_of_lt lb)]
    exact (fp b hb).1
theorem en_end (d3 : a ≠ it) (calm : X.calm = true) (I : Inv X pins σ H s) (fp : ∀ b ∈ [e, it], FpOk X pins H b) (st : EnAt a e it i s.heap) (stop : (IteT X.K a).stop i H) :
    wpAny (model X.prog X.w) X.A (pyNext (.ref e)) (fun r s1 => r = none ∧ Inv X pins σ H s1) E s := by
  obtain ⟨⟨last, is_e⟩, is_it⟩ := st
  obtain ⟨xs, sq, rfl⟩ := stop
  obtain ⟨its, vals, tup, _⟩ := I.tuple sq
  obtain ⟨p0, p1, _, p3, p4, p5⟩ := fp it (by simp)
  have D := Draws.tuple (prog := X.prog) (w := X.w) (A := X.A.in1) (by simpa using I.ok.hd calm) it a d3 its.toArray
  refine wpAny_pyNext_enum_endD D is_e ⟨?_, tup⟩ fun h1 but => ⟨rfl, I.turned (t' := s.toks) (fun b ob out_ q => but b ob out_ q) p0 p1 p3 p4 p5⟩
  rw [List.size_toArray, ← vals.length]
  exact is_it
theorem en_turns (d1 : e ≠ it) (d2 : e ≠ a) (d3 : a ≠ it) : Turn P w K (.Tuple elts kk tpos) (IteT K a) [e, it] e (EnAt a e it) where
  mem := List.mem_cons_self
  obj := fun i h st b hb => by
    simp only [List.mem_cons, List.not_mem_nil, or_false] at hb
    obtain ⟨⟨last, is_e⟩, o, at_it, _, dat⟩ := st
    rcases hb with rfl | rfl
    · exact ⟨_, is_e, nofun⟩
    · exact ⟨o, at_it, fun u z => by rw [dat] at z; exact nomatch z⟩
  keep := fun i h h' ⟨⟨last, is_e⟩, is_it⟩ same => ⟨⟨last, same e List.mem_cons_self _ is_e⟩, is_it.at fun ob q => same it (by simp) ob q⟩
  item := by rintro X rfl rfl rfl calm i pins s σ H E I fp st go; exact en_turn d1 d2 d3 calm I fp st go
  done := by rintro X rfl rfl rfl calm i pins s σ H E I fp st stop; exact en_end d3 calm I fp st stop
  self := fun A i s Q E ⟨⟨_, is_e⟩, _⟩ q => wpAny_pyIter_enum is_e q
end
section
variable {T : Txt} {X : Cx} {W : WX} {st : Stmt} {sts : List Stmt} {tg e a b c : Expr} {es : List Expr} {pos p : Pos} {K : PySem.W.Frag}
def iEnumT (K : PySem.W.Frag) (ta : TA) : TI := fun σ H R => ta σ H fun vs H1 => ∃ a xs, vs = [.ref a] ∧ SqT K H1 a xs ∧ R (IteT K a) H1
theorem pi_enumT {ta : TA} {tpos : Pos} {elts : List Expr} {kk : Nat} (hg : Gl X "enumerate") (hm : X.mg "enumerate" = none) (ha : PA X [e] ta) (hs : starEach [e] X.env = [(false, eval e X.env)] := by rfl) :
    PI X (.Tuple elts kk tpos) (.Call (.Name "enumerate" p) [e] [] pos) (iEnumT X.K ta) := by
  refine ⟨fun pins s σ H R I h => Call_ (ld_blt I hg hm boot_enumerate (PyProof.Rows.callWith_type1 (thn (ha.run pos pins s σ H _ I h) ?_) hs rfl))⟩
  rintro us s1 ⟨_, H1, J, rel, t, xs, rfl, sq, then_⟩
  obtain ⟨_, rfl⟩ : ∃ u : Unit, us = [.ref t] := by
    cases rel with
    | cons r rr => cases rr; cases r; exact ⟨(), rfl⟩
  obtain ⟨its, vals, tup, _⟩ := J.tuple sq
  have lt : t < s1.heap.objs.size := let ⟨_, q, _⟩ := tup; Heap.lt_size q
  refine en_call (begins_tuple t its.toArray) tup fun h1 is_e at_it keep => wpAny_pyIter_enum is_e ?_
  refine ⟨_, [s1.heap.objs.size + 1, s1.heap.objs.size], EnAt t (s1.heap.objs.size + 1) s1.heap.objs.size, IteT X.K t, H1, rfl, J.kept (t' := s1.toks) keep, en_turns (Nat.succ_ne_self _) (Nat.ne_of_gt (Nat.lt_succ_of_lt lt)) (Nat.ne_of_lt lt), ⟨⟨_, is_e⟩, ⟨_, at_it, rfl, rfl⟩⟩, fun b hb => ?_, then_⟩
  have ge : s1.heap.objs.size ≤ b := by
    simp only [List.mem_cons, List.not_mem_nil, or_false] at hb
    rcases hb with z | z <;> rw [z]
    · exact Nat.le_succ _
    · exact Nat.le_refl _
  exact J.fpOk ge (J.hok.fresh ge)
theorem itd_enumT {F : Hp} {a : Addr} {vs : List V} {ds : List D} (hs : SqT K F a vs) (r : Reps K T F ds vs) : ItD K T F (IteT K a) (enumFrom 0 ds) where
  go := fun i H e hi => by
    rw [enumFrom_length] at hi
    have : i < vs.length := by rw [r.length]; exact hi
    exact ⟨vs, vs[i], e.sqT hs, by simp [this]⟩
  stop := fun H e => ⟨vs, e.sqT hs, by rw [r.length, enumFrom_length]⟩
  yld := fun i d G H x H' e1 e2 hd y => by
    obtain ⟨t, x', rfl, hn, rfl, q⟩ := y
    rw [enumFrom_get] at hd
    cases q1 : ds[i]? with
    | none => rw [q1] at hd; cases hd
    | some d0 =>
      rw [q1] at hd
      cases hd
      obtain ⟨v, h1, h2⟩ := r.get q1
      have hx := q vs ((e1.trans e2).sqT hs)
      rw [h1] at hx
      obtain rfl : v = x' := Option.some.inj hx
      have g := Grow.new (K := K) (T := T) (o := HO.tup [.int (i : Nat), v]) e2 hn
      refine ⟨_, g, ⟨t, _, rfl, SqX.of upd_same, ?_⟩⟩
      rw [Nat.zero_add]
      exact ⟨_, _, rfl, rfl, _, _, rfl, (h2.mono e1).mono g.1, rfl⟩
def mEnumE (g : Ev D) : Ev (List D) := fun ρ => (g ρ).bind fun d ρ' => match d with
  | .lst xs => .ok (enumFrom 0 xs) ρ'
  | .frl xs => .ok (enumFrom 0 xs) ρ'
  | .tup xs => .ok (enumFrom 0 xs) ρ'
  | .fru xs => .ok (enumFrom 0 xs) ρ'
  | _ => .stuck
theorem ji_enumE {g : Ev D} {elts : List Expr} {kk : Nat} {tpos : Pos} (hg : Gl X "enumerate") (hm : X.mg "enumerate" = none) (h : JE T X W a g) (hs : starEach [a] X.env = [(false, eval a X.env)] := by rfl) (hs1 : starEach [a] X.env = (false, eval a X.env) :: starEach [] X.env := by rfl) :
    JI T X W (.Tuple elts kk tpos) (.Call (.Name "enumerate" p) [a] [] pos) (mEnumE g) := fun ρ => by
  have p0 := ji_enum (tpos := tpos) (elts := elts) (kk := kk) (p := p) (pos := pos) hg hm h hs hs1 ρ
  have p1 := h ρ
  unfold mEnum at p0
  unfold mEnumE
  cases q1 : g ρ with
  | stuck => exact pi_no
  | ex c ds ρ1 => rw [q1] at p0; exact p0
  | ok d ρ1 =>
    rw [q1] at p1 p0
    simp only [R.bind_ok] at p0 ⊢
    cases d with
    | tup xs =>
      refine pi_weak (pi_enumT hg hm (pa_cons p1 pa_nil hs1) hs) fun σ H Q ⟨F, Z, L, r, k⟩ => ⟨F, Z, L, r, fun v F' H' e r' x => ?_⟩
      obtain ⟨a, vs, rfl, h1, rr⟩ := x
      exact ⟨a, vs, rfl, r'.exF.sqT h1, k _ F' H' e r' (itd_enumT h1 rr)⟩
    | fru xs =>
      refine pi_weak (pi_enumT hg hm (pa_cons p1 pa_nil hs1) hs) fun σ H Q ⟨F, Z, L, r, k⟩ => ⟨F, Z, L, r, fun v F' H' e r' x => ?_⟩
      obtain ⟨a, vs, rfl, h1, rr⟩ := x
      exact ⟨a, vs, rfl, r'.exF.sqT h1, k _ F' H' e r' (itd_enumT h1 rr)⟩
    | lst xs => exact p0
    | frl xs => exact p0
    | _ => exact pi_no
end
end VS
set_option maxHeartbeats 4000000
namespace VS
open PySem L2 PySem.Spec PyProof.Rows
def cntR {κ : Type} [DecidableEq κ] : List κ → Nat
  | [] => 0
  | x :: r => if x ∈ r then cntR r else cntR r + 1
def distinct {κ : Type} [DecidableEq κ] (xs : List κ) : Nat := cntR xs.reverse
section
variable {κ : Type} [DecidableEq κ]
theorem cntR_le : ∀ xs : List κ, cntR xs ≤ xs.length
  | [] => Nat.le_refl _
  | x :: r => by
    have := cntR_le r
    unfold cntR
    split <;> simp <;> omega
theorem cntR_iff : ∀ {xs : List κ}, cntR xs = xs.length ↔ xs.Nodup
  | [] => by simp [cntR]
  | x :: r => by
    have le := cntR_le r
    rw [List.nodup_cons, ← cntR_iff (xs := r), cntR, List.length_cons]
    split
    · rename_i h; simp [h]; omega
    · rename_i h; simp [h]
theorem distinct_le (xs : List κ) : distinct xs ≤ xs.length := by simpa [distinct] using cntR_le xs.reverse
theorem distinct_iff {xs : List κ} : distinct xs = xs.length ↔ xs.Nodup := by
  have := cntR_iff (xs := xs.reverse)
  rw [List.length_reverse, (List.reverse_perm xs).nodup_iff] at this
  exact this
theorem distinct_snoc (xs : List κ) (x : κ) : distinct (xs ++ [x]) = if x ∈ xs then distinct xs else distinct xs + 1 := by
  unfold distinct
  rw [List.reverse_append, List.reverse_singleton, List.singleton_append, cntR]
  simp only [List.mem_reverse]
variable [BEq κ] [LawfulBEq κ] {prog : Program} {w : World} {A : Around} {E : Value → Shared → Prop} {s : Shared} {knd : KeyKind prog w κ} {S : Addr}
def SetHas (knd : KeyKind prog w κ) (h : Heap) (S : Addr) (ks : List κ) : Prop := h.SetOf knd S (fun k => decide (k ∈ ks)) (distinct ks)
theorem SetHas.on {h h' : Heap} {ks : List κ} (p : SetHas knd h S ks) (same : ∀ o, h.get? S = some o → h'.get? S = some o) : SetHas knd h' S ks :=
  let ⟨o, es, ep, t, at_S, more⟩ := p
  ⟨o, es, ep, t, same o at_S, more⟩
theorem set_fill {I : Addr} {fp wr : List Addr} {G : Array GenState → Array GenState → Prop} {n : Nat} {P : Nat → Value → Prop} {St : Nat → Shared → Prop} {R : Result → Shared → Prop} {ks : List κ} (W : WalksS prog w A.in1 I fp wr G n P St) (apart : S ∉ fp) (few : n + 1 < scanBound) (len : ks.length = n)
    (key : ∀ i v, P i v → v.scannable = true ∧ ∃ k, ks[i]? = some k ∧ knd.is k v = true) (rest : List κ) : ∀ (pre : List κ) (s : Shared), ks = pre ++ rest → St pre.length s → SetHas knd s.heap S pre →
      (∀ s', Moved (S :: wr) G s s' → SetHas knd s'.heap S ks → R (.ok (.ret .none)) s') → codeAny (model prog w) A (.builtin "set.update.loop" ⟨[.ref S, .ref I], []⟩) R s := by
  have apart' : S ∉ wr := fun z => apart (W.sub S z)
  induction rest with
  | nil =>
    intro pre s e st has out
    rw [List.append_nil] at e
    subst e
    rw [len] at st
    refine codeAny_builtin PyProof.Rows.F.entry_set_update_loop ?_
    rw [Around.under_plainId PyProof.Rows.F.plain_set_update_loop]
    refine wpAny_bind (m := pyNext (.ref I)) (W.done s _ _ st fun s' moved => wpAny_pure (out s' (moved.mono fun b z => List.mem_cons_of_mem S z) (has.on fun o q => moved.heap S o apart' q)))
  | cons x rest ih =>
    intro pre s e st has out
    have here : ks[pre.length]? = some x := by rw [e]; simp
    have room : pre.length < n := by rw [← len, e]; simp
    refine codeAny_builtin PyProof.Rows.F.entry_set_update_loop ?_
    rw [Around.under_plainId PyProof.Rows.F.plain_set_update_loop]
    refine wpAny_bind (m := pyNext (.ref I)) (W.item pre.length s _ _ room st fun v s1 is_v st1 moved => ?_)
    obtain ⟨scan, k, at_k, is_k⟩ := key _ v is_v
    obtain rfl : x = k := Option.some.inj (here.symm.trans at_k)
    have has1 := has.on fun o q => moved.heap S o apart' q
    refine wpAny_bind (m := holding [v] (setAdd S v)) (wpAny_holding (wpAny_holding (wpAny_bind (knd.pyHash is_k ?_))))
    refine wpAny_setAddHashed_of (s := { s1 with toks := s1.toks + 1 }) is_k scan has1 (Nat.lt_of_le_of_lt (Nat.succ_le_succ (distinct_le pre)) (by omega)) fun h2 but has2 => ?_
    have has3 : SetHas knd h2 S (pre ++ [x]) := by
      refine SetOf_congr has2 (fun y => ?_) ?_
      · simp [Bool.decide_or]
      · rw [distinct_snoc]; simp
    refine wpAny_pure ⟨plainId_quiet PyProof.Rows.F.plain_set_update_loop _, ih (pre ++ [x]) _ (by rw [e]; simp) ?_ has3 fun s3 moved3 has4 => out s3 ?_ has4⟩
    · rw [List.length_append]
      refine W.frame _ s1 _ _ st1 (Nat.le_succ _) fun b hb o q => ?_
      show h2.get? b = some o
      rw [but.2 b fun z => apart (z ▸ hb)]
      exact q
    · refine Moved.trans W.gtrans ((moved.mono fun b z => List.mem_cons_of_mem S z).then_heap (Nat.le_succ _) fun b o hb q => ?_) moved3
      show h2.get? b = some o
      rw [but.2 b fun z => hb (z ▸ List.mem_cons_self)]
      exact q
theorem set_of_tuple {l : Addr} {items : Array Value} {ks : List κ} {Q : Value → Shared → Prop} (quiet : A.handled = none) (tup : s.heap.IsTuple l items) (len : ks.length = items.size) (few : items.size + 1 < scanBound)
    (key : ∀ (i : Nat) (v : Value), items[i]? = some v → v.scannable = true ∧ ∃ k, ks[i]? = some k ∧ knd.is k v = true)
    (out : ∀ (h' : Heap) (tk : Nat), SetHas knd h' s.heap.objs.size ks → (∀ b o, s.heap.get? b = some o → h'.get? b = some o) → Q (.ref s.heap.objs.size) { s with heap := h', toks := tk }) :
    wpAny (model prog w) A (call (.type "set") [.ref l]) Q E s := by
  obtain ⟨N, hN⟩ : ∃ N, N = s.heap.objs.size := ⟨_, rfl⟩
  rw [← hN] at out
  have ft := F.called_set
  obtain ⟨_, _, by_mro⟩ := ft.mro
  have f1 := ft.made
  have f2 := ft.sub
  have f3 := ft.notType
  have f4 := ft.canCreate
  have f5 := F.typeCall_set_1 (.ref l)
  have f6 := ft.init.lookup
  refine wpAny_call (codeAny_of_tree (wpAny_pure ⟨Code.quiet_builtin _ (by decide +kernel), codeAny_builtin F.entry_type_call ?_⟩))
  rw [Around.under_plain (weight_type_call_type "set" _ []) rfl]
  repeat any_goals (first | assumption | wp_step)
  refine codeAny_mono (code_set_new_1 (E := E) (Q₁ := fun obj s1 => ∃ led : Bool, obj = .ref N ∧ s1 = { s with heap := s.heap.push { cls := .type "set", dict := none, data := .set #[] 0 (.fresh 0 0 led) } }) _ fun led => ⟨led, by rw [hN], rfl⟩) ?_
  rintro (e | (_ | _ | _ | obj)) s1 made
  · exact made
  · exact made.elim
  · exact made.elim
  · exact made.elim
  obtain ⟨led, rfl, rfl⟩ := made
  have at_S : (s.heap.push { cls := .type "set", dict := none, data := .set #[] 0 (.fresh 0 0 led) }).get? N = some { cls := .type "set", dict := none, data := .set #[] 0 (.fresh 0 0 led) } := by rw [hN]; exact Heap.get?_push_size _ rfl
  have ty_S : Shared.TypeIs { s with heap := s.heap.push { cls := .type "set", dict := none, data := .set #[] 0 (.fresh 0 0 led) } } (.ref N) "set" := ⟨_, at_S, rfl⟩
  have f7 := ft.init.bind (.ref N)
  repeat any_goals (first | assumption | wp_step)
  refine codeAny_mono (codeAny_call_builtin (R := wants (fun r s2 => r = .none ∧ ∃ h' tk, s2 = { s with heap := h', toks := tk } ∧ SetHas knd h' N ks ∧ ∀ b o, s.heap.get? b = some o → h'.get? b = some o) E) ft.init.plain F.entry_set_init (check_set_init_1 ty_S ?_)) ?_
  · obtain ⟨⟨cl, dct, dat, sl⟩, at_l, is_cl, m, is_dat⟩ := tup
    replace is_cl : cl = .type "tuple" := is_cl
    replace is_dat : dat = .seq items m := is_dat
    subst is_cl is_dat
    have below : l < N := hN ▸ Heap.lt_size at_l
    have at_l1 : (s.heap.push { cls := .type "set", dict := none, data := .set #[] 0 (.fresh 0 0 led) }).get? l = some { cls := .type "tuple", dict := dct, data := .seq items m, slots := sl } := Heap.get?_push_of_some _ at_l
    have no1 := PySem.F.sub_tuple_set
    have no2 := PySem.F.sub_tuple_frozenset
    have no3 : (Value.type "tuple" == Value.type "dict") = false := by decide
    have big1 : (s.heap.push { cls := .type "set", dict := none, data := .set #[] 0 (.fresh 0 0 led) }).objs.size = N + 1 := by rw [hN]; exact Heap.size_push ..
    have tup1 : (s.heap.push { cls := .type "set", dict := none, data := .set #[] 0 (.fresh 0 0 led) }).IsTuple l items := ⟨_, at_l1, rfl, m, rfl⟩
    unfold Builtin.«set.__init__» noKeywords Builtin.Frozenset.updateFrom
    generalize gen : pyIter = it
    wp_walk
    subst gen
    refine wpAny_pyIter_tuple tup1 (wpAny_bind (wpAny_runValue ?_))
    have W := Walks.tuple (prog := prog) (w := w) (A := A.in1.in1.in1) (by simp [quiet]) (N + 1) l (Nat.ne_of_lt (Nat.lt_succ_of_lt below)) items
    rw [← big1] at W
    refine set_fill (knd := knd) W.toS (S := N) ?_ few len key ks [] _ rfl ⟨⟨_, Heap.get?_push_size _ rfl, rfl, rfl⟩, tup1.push _⟩ ?_ ?_
    · rw [big1]
      intro z
      rcases List.mem_cons.mp z with z | z
      · exact Nat.ne_of_lt (Nat.lt_succ_self N) z
      · exact Nat.ne_of_gt below (List.mem_singleton.mp z)
    · exact SetOf_congr ((setObjOf_fresh (knd := knd) led).setOf (Heap.get?_push_of_some _ at_S) (by unfold scanBound; omega)) (fun _ => by simp) rfl
    · rintro ⟨h', g', d', tk', os'⟩ moved has
      obtain rfl : g' = s.gens := moved.gens
      obtain rfl : d' = s.drawn := moved.drawn
      obtain rfl : os' = s.os := moved.os
      refine wpAny_pure (wpAny_pure ⟨rfl, h', tk', rfl, has, fun b o q => moved.heap b o (fun z => ?_) (Heap.get?_push_of_some _ (Heap.get?_push_of_some _ q))⟩)
      have lt : b < N := hN ▸ Heap.lt_size q
      rw [big1] at z
      rcases List.mem_cons.mp z with z | z
      · exact Nat.ne_of_lt lt z
      · exact Nat.ne_of_lt (Nat.lt_succ_of_lt lt) (List.mem_singleton.mp z)
  · rintro (e | (_ | _ | _ | r)) s2 made
    · exact made
    · exact made.elim
    · exact made.elim
    · exact made.elim
    obtain ⟨rfl, h', tk, rfl, has, keep⟩ := made
    repeat any_goals (first | assumption | wp_step)
    exact out _ _ has keep
end
section
variable {T : Txt} {X : Cx} {W : WX} {e a b c : Expr} {es : List Expr} {pos p p2 q : Pos} {K : PySem.W.Frag}
def tLenSetT (K : PySem.W.Frag) (ta : TE) : TE := fun σ H Q => ta σ H fun x H1 => ∃ l, ∃ xs : List Str, x = .ref l ∧ SqT K H1 l (xs.map V.str) ∧ xs.length ≤ 1000 ∧ Q (.int (distinct xs : Nat)) H1
theorem pe_lenSetT {ta : TE} (calm : X.calm = true) (g1 : Gl X "len") (m1 : X.mg "len" = none) (g2 : Gl X "set") (m2 : X.mg "set" = none) (ha : PE X a ta)
    (na : starEach [a] X.env = (false, eval a X.env) :: starEach [] X.env := by rfl) : PE X (.Call (.Name "len" p) [.Call (.Name "set" p2) [a] [] q] [] pos) (tLenSetT X.K ta) := by
  refine ⟨fun pins s σ H Q I h => ?_⟩
  refine Call_ (ld_blt I g1 m1 boot_len (PyProof.Rows.callWith_builtin1 (PyProof.Rows.args_cons (Call_ (ld_blt I g2 m2 boot_set (PyProof.Rows.callWith_type1 (PyProof.Rows.args_cons (thn (ha.run pins s σ H _ I h) ?_) na) na rfl))) rfl) rfl rfl))
  rintro v s1 ⟨_, H1, J, rel, l, xs, rfl, sq, few, then_⟩
  cases rel
  obtain ⟨items, vals, tup, _⟩ := J.tuple sq
  have len : xs.length = items.length := by rw [← vals.length, List.length_map]
  refine PyProof.Rows.args_nil (set_of_tuple (knd := PySem.strKind X.prog X.w) (ks := xs) (J.ok.hd calm) (show s1.heap.IsTuple l items.toArray from tup) (by simpa using len) (by unfold scanBound; simp; omega) (fun i v at_v => ?_) fun h' tk has keep => PyProof.Rows.args_nil ?_)
  · have at_v' : items[i]? = some v := by simpa using at_v
    have lt : i < xs.length := by rw [len]; exact (List.getElem?_eq_some_iff.mp at_v').1
    obtain ⟨u, at_u, is_u⟩ := vals.get (i := i) (x := V.str xs[i]) (by simp [lt])
    rw [at_v'] at at_u
    obtain rfl : v = u := Option.some.inj at_u
    obtain ⟨t, rfl⟩ := is_u
    exact ⟨rfl, xs[i], by simp [lt], strKind_is _ _ _ _⟩
  · obtain ⟨o, els, ep, t, at_S, exact_, dat, _, _, _, fits, size⟩ := has
    have J2 : Inv X pins σ H1 { s1 with heap := h', toks := tk } := J.kept keep
    have le := distinct_le xs
    exact call_len_set at_S exact_ dat fits (by rw [size]; omega) ⟨.int (distinct xs : Nat), H1, J2.tok _, ⟨_, by rw [size]⟩, then_⟩
def lenSetD : D → Option D
  | .tup xs => (strsOf xs).bind fun ys => if ys.length ≤ 1000 then some (.int (distinct ys : Nat)) else none
  | _ => none
theorem je_lenSet {g : Ev D} (hc : X.calm = true) (hm : X.mg "len" = none) (hm2 : X.mg "set" = none) (ha : JE T X W a g) (hg : Gl X "len" := by rfl) (hg2 : Gl X "set" := by rfl)
    (na : starEach [a] X.env = (false, eval a X.env) :: starEach [] X.env := by rfl) : JE T X W (.Call (.Name "len" p) [.Call (.Name "set" p2) [a] [] q] [] pos) (mCall1 lenSetD g) := fun ρ => by
  have h1 := ha ρ
  have rule := pe_lenSetT (p := p) (p2 := p2) (q := q) (pos := pos) hc hg hm hg2 hm2 h1 na
  unfold mCall1
  cases q1 : g ρ with
  | stuck => exact pe_no
  | ex c ds ρ1 => rw [q1] at rule; exact pe_weak rule fun σ H Q q => q
  | ok d ρ1 =>
    rw [q1] at rule
    simp only [R.bind_ok]
    cases d with
    | tup xs =>
      simp only [lenSetD]
      cases q2 : strsOf xs with
      | none => exact pe_no
      | some ys =>
        simp only [Option.bind_some]
        by_cases hl : ys.length ≤ 1000
        · rw [if_pos hl]
          refine pe_weak rule fun σ H Q ⟨F, Z, L, r, k⟩ => ⟨F, Z, L, r, fun v F1 H1 e1 r1 ⟨a, vs, ev, hs, rr⟩ => ⟨a, ys, ev, ?_, hl, k _ F1 H1 e1 r1 rfl⟩⟩
          rw [← strsOf_reps q2 rr]
          exact r1.exF.sqT hs
        · rw [if_neg hl]; exact pe_no
    | _ => exact pe_no
end
end VS
set_option maxHeartbeats 2000000
namespace VS
open PySem L2 PySem.Spec PyProof.Rows
structure ClsF (K : PySem.W.Frag) (T : Txt) (c : Nat) : Prop where
  cls : Cls K (T.cl c)
  noat : ∀ f ∈ T.fl c, NoAttr K (T.cl c) f
  nd : (T.fl c).Nodup
theorem zip_lookup {f : Str} {v : V} : ∀ {fs : List Str} {vs : List V} {i : Nat}, fs.Nodup → fs[i]? = some f → vs[i]? = some v → (fs.zip vs).lookup f = some v
  | [], _, i, _, h, _ => by simp at h
  | g :: fs, [], i, _, _, h => by simp at h
  | g :: fs, w :: vs, 0, nd, h1, h2 => by
    simp at h1 h2
    subst h1 h2
    simp [List.lookup]
  | g :: fs, w :: vs, i + 1, nd, h1, h2 => by
    obtain ⟨n1, n2⟩ := List.nodup_cons.mp nd
    have hm : f ∈ fs := List.mem_of_getElem? (by simpa using h1)
    have ne : (f == g) = false := beq_eq_false_iff_ne.mpr fun z => n1 (z ▸ hm)
    rw [List.zip_cons_cons, List.lookup_cons, ne]
    exact zip_lookup n2 (by simpa using h1) (by simpa using h2)
theorem zip_none {f : Str} : ∀ {fs : List Str} {vs : List V}, f ∉ fs → (fs.zip vs).lookup f = none
  | [], _, _ => by simp
  | g :: fs, [], _ => by simp
  | g :: fs, w :: vs, h => by
    have ne : (f == g) = false := beq_eq_false_iff_ne.mpr fun z => h (z ▸ List.mem_cons_self)
    rw [List.zip_cons_cons, List.lookup_cons, ne]
    exact zip_none fun z => h (List.mem_cons_of_mem _ z)
theorem putF_snoc {f : Str} {y : V} : ∀ {fs : List Str} {vs : List V}, fs.Nodup → fs[vs.length]? = some f → putF f y (fs.zip vs) = fs.zip (vs ++ [y])
  | [], _, _, h => by simp at h
  | g :: fs, [], nd, h => by simp at h; subst h; simp [putF]
  | g :: fs, w :: vs, nd, h => by
    obtain ⟨n1, n2⟩ := List.nodup_cons.mp nd
    have h' : fs[vs.length]? = some f := by simpa using h
    have ne : g ≠ f := fun z => n1 (z ▸ List.mem_of_getElem? h')
    rw [List.zip_cons_cons, putF, if_neg ne, putF_snoc n2 h']
    rfl
theorem putF_set {f : Str} {y : V} : ∀ {fs : List Str} {vs : List V} {i : Nat}, fs.Nodup → fs[i]? = some f → i < vs.length → putF f y (fs.zip vs) = fs.zip (vs.set i y)
  | [], _, i, _, h, _ => by simp at h
  | g :: fs, [], i, _, _, h => by simp at h
  | g :: fs, w :: vs, 0, nd, h, hl => by simp at h; subst h; simp [putF]
  | g :: fs, w :: vs, i + 1, nd, h, hl => by
    obtain ⟨n1, n2⟩ := List.nodup_cons.mp nd
    have h' : fs[i]? = some f := by simpa using h
    have ne : g ≠ f := fun z => n1 (z ▸ List.mem_of_getElem? h')
    rw [List.zip_cons_cons, putF, if_neg ne, putF_set n2 h' (by simpa using hl)]
    rfl
section
variable {T : Txt} {X : Cx} {W : WX} {st : Stmt} {sts : List Stmt} {tg e a b o : Expr} {es : List Expr} {pos p apos : Pos} {K : PySem.W.Frag} {c i : Nat} {f m x : Str}
def fldD (c i : Nat) : D → Option D
  | .ins c' xs => if c' = c then xs[i]? else none
  | _ => none
theorem je_fld {g : Ev D} (C : ClsF X.K T c) (hi : (T.fl c)[i]? = some f) (ha : JE T X W a g) (hb : attributeBase a f X.env (eval a X.env) = eval a X.env := by rfl) : JE T X W (.Attribute a f pos) (mCall1 (fldD c i) g) := fun ρ => by
  have p1 := ha ρ
  unfold mCall1
  cases q1 : g ρ with
  | stuck => exact pe_no
  | ex e ds ρ1 => rw [q1] at p1; exact pe_weak (pe_fld p1 hb) fun σ H Q q => q
  | ok d ρ1 =>
    rw [q1] at p1
    simp only [R.bind_ok]
    cases q2 : fldD c i d with
    | none => exact pe_no
    | some z =>
      cases d <;> simp only [fldD, reduceCtorEq] at q2
      split at q2
      · rename_i c' xs hc
        subst hc
        refine pe_weak (pe_fld p1 hb) fun σ H Q ⟨F, Z, L, r, k⟩ => ⟨F, Z, L, r, fun v F1 H1 e1 r1 x1 => ?_⟩
        obtain ⟨q, dx, vs, rfl, h1, h2, rr⟩ := x1
        obtain ⟨u, h3, h4⟩ := rr.get q2
        exact ⟨q, _, dx, _, u, rfl, r1.exF _ _ h1, C.cls, C.noat f (List.mem_of_getElem? hi), zip_lookup C.nd hi h3, k _ F1 H1 e1 r1 h4⟩
      · cases q2
def putAt (xs : List D) (j : Nat) (d : D) : Option (List D) := if xs.length = j then some (xs ++ [d]) else if j < xs.length then some (xs.set j d) else none
def mFldS (i c j : Nat) (g : Ev D) : VEnv → RS := fun ρ => (g ρ).thenS fun d ρ1 => match ρ1[i]? with
  | some (some (Sl.own l (.ins c' xs))) => if c' = c then (match putAt xs j d with
    | some ys => .nx (ρ1.set i (some (Sl.own l (.ins c ys))))
    | none => .stuck) else .stuck
  | _ => .stuck
theorem js_fldS {j : Nat} {pos' : Pos} {g : Ev D} (C : ClsF X.K T c) (hl : (T.fl c).length < 1000) (hj : (T.fl c)[j]? = some f) (ho : PE X o (tVar i)) (hv : JE T X W e g) (hs : swapsWith e (some (.Attribute o f pos')) pos.line X.env = pure false := by rfl) :
    JS T X W (.Assign [.Attribute o f pos'] e pos) (mFldS i c j g) := fun ρ => by
  refine ps_weak (ps_fld ho (hv ρ) hs) fun N σ H q => thenS_rd q fun d ρ1 v F Z L H1 r p k => ?_
  split at k
  · rename_i l c' xs q1
    split at k
    · rename_i hc
      subst hc
      obtain ⟨a0, o0, g1, g2, g3, g4, dx, vs, g5, g6, g7⟩ := r.own i l _ q1
      have hjl : j < (T.fl c').length := (List.getElem?_eq_some_iff.mp hj).1
      refine ⟨_, g1, a0, _, dx, _, rfl, by rw [g4, g5], C.cls, C.noat f (List.mem_of_getElem? hj), ?_, ?_⟩
      · rw [List.length_zip]; omega
      · unfold putAt at k
        split at k
        · rename_i ys hy
          split at hy
          · rename_i hx
            cases hy
            refine k σ F _ (Ex.refl F) (r.ownSet q1 g1 ⟨dx, vs ++ [v], ?_, ?_, g7.append (Reps.one p)⟩)
            · rw [putF_snoc C.nd (by rw [g7.length, hx]; exact hj)]
            · rw [List.length_append, g7.length, hx]; simp; omega
          · split at hy
            · rename_i hx
              cases hy
              refine k σ F _ (Ex.refl F) (r.ownSet q1 g1 ⟨dx, vs.set j v, ?_, by rw [List.length_set]; exact g6, g7.set p j⟩)
              rw [putF_set C.nd hj (by rw [g7.length]; exact hx)]
            · cases hy
        · exact k.elim
    · exact k.elim
  · exact k.elim
end
section
variable {K : PySem.W.Frag} {T : Txt} {F Z H : Hp} {L : Nat → Option Addr} {σ : L2.St} {ρ : VEnv} {c : Nat}
theorem Rel.push {a dx : Addr} (r : Rel K T F Z L σ ρ H) (ha : H a = none) (hd : H dx = none) (hn : dx ≠ a) :
    Rel K T F Z L (σ ++ [some (.ref a)]) (ρ ++ [some (Sl.own false (.ins c []))]) (upd (upd H dx (.own a)) a (.ins (T.cl c) dx [])) := by
  have keep : ∀ {b : Addr} {u : HO}, H b = some u → upd (upd H dx (.own a)) a (.ins (T.cl c) dx []) b = some u := fun {b u} q => by
    rw [upd_ne (ne_of_none q ha), upd_ne (ne_of_none q hd)]; exact q
  have old : ∀ {j : Nat} {s : Sl}, (ρ ++ [some (Sl.own false (.ins c []))])[j]? = some (some s) → (j < ρ.length ∧ ρ[j]? = some (some s) ∧ (σ ++ [some (V.ref a)])[j]? = σ[j]?) ∨ (j = ρ.length ∧ s = Sl.own false (.ins c []) ∧ (σ ++ [some (V.ref a)])[j]? = some (some (.ref a))) := fun {j s} q => by
    by_cases hj : j < ρ.length
    · rw [List.getElem?_append_left hj] at q
      exact .inl ⟨hj, q, List.getElem?_append_left (by rw [← r.len]; exact hj)⟩
    · rw [List.getElem?_append_right (by omega)] at q
      have e : j - ρ.length = 0 := by
        have := (List.getElem?_eq_some_iff.mp q).1
        simp at this; omega
      rw [e] at q
      have ej : j = ρ.length := by omega
      refine .inr ⟨ej, by simpa using q.symm, ?_⟩
      rw [List.getElem?_append_right (by rw [← r.len]; omega), ← r.len, e]; rfl
  have inn : ∀ {j k : Nat} {io : IO} {b : Addr}, Inn (σ ++ [some (V.ref a)]) (ρ ++ [some (Sl.own false (.ins c []))]) (upd (upd H dx (.own a)) a (.ins (T.cl c) dx [])) j k io b → Inn σ ρ H j k io b := fun {j k io b} ⟨l, c', fs, a', o', h1, h2, h3, h4, h5⟩ => by
    rcases old h1 with ⟨_, q, e⟩ | ⟨_, q, _⟩
    · rw [e] at h3
      obtain ⟨a2, u, g1, g2, g3, g4, g5⟩ := r.own j l _ q
      rw [h3] at g1; cases g1
      rw [keep g4] at h4; cases h4
      exact ⟨l, c', fs, a', _, q, h2, h3, g4, h5⟩
    · cases q
  refine ⟨fun b u q => keep (r.exF b u q), fun b u q => keep (r.exZ b u q), r.dis, by simp [r.len], fun j d q => ?_, fun j l m q => ?_, fun j k l m l' m' b q1 q2 q3 q4 => ?_, fun j b q => ?_,
    r.bx.gen (Ex.refl F) (fun j k io b h => inn h) (fun j k io b h h1 h2 o h3 => ⟨h1, h2, keep h3⟩) fun j k io b j' l m h q1 q2 => ?_⟩
  · rcases old q with ⟨_, h, e⟩ | ⟨_, h, _⟩
    · rw [e]; exact r.val j d h
    · cases h
  · rcases old q with ⟨_, h, e⟩ | ⟨_, h, e⟩
    · obtain ⟨b, u, g1, g2, g3, g4, g5⟩ := r.own j l m h
      exact ⟨b, u, by rw [e]; exact g1, g2, g3, keep g4, g5⟩
    · cases h
      exact ⟨a, _, e, r.exF.none ha, r.exZ.none ha, upd_same, dx, [], by simp, by simp, rfl⟩
  · rcases old q1 with ⟨_, h1, e1⟩ | ⟨j1, h1, e1⟩
    · rcases old q2 with ⟨_, h2, e2⟩ | ⟨j2, h2, e2⟩
      · rw [e1] at q3; rw [e2] at q4
        exact r.sep j k _ _ _ _ b h1 h2 q3 q4
      · obtain ⟨b', u, g1, _, _, g4, _⟩ := r.own j l m h1
        rw [e1, g1] at q3; rw [e2] at q4
        cases q3; cases q4
        rw [ha] at g4; cases g4
    · rcases old q2 with ⟨_, h2, e2⟩ | ⟨j2, h2, e2⟩
      · obtain ⟨b', u, g1, _, _, g4, _⟩ := r.own k l' m' h2
        rw [e2, g1] at q4; rw [e1] at q3
        cases q3; cases q4
        rw [ha] at g4; cases g4
      · omega
  · obtain ⟨h1, m, h2⟩ := r.lent j b q
    have hj : j < ρ.length := (List.getElem?_eq_some_iff.mp h2).1
    exact ⟨by rw [List.getElem?_append_left (by rw [← r.len]; exact hj)]; exact h1, m, by rw [List.getElem?_append_left hj]; exact h2⟩
  · rcases old q1 with ⟨_, q, e⟩ | ⟨_, _, e⟩
    · exact ⟨j', l, m, q, by rw [← e]; exact q2⟩
    · rw [e] at q2
      cases q2
      obtain ⟨_, _, o, g3, _⟩ := r.bx.nest j k io _ (inn h)
      rw [ha] at g3; cases g3
theorem Rel.pop {v : V} {m : MO} (r : Rel K T F Z L (σ ++ [some v]) (ρ ++ [some (Sl.own false m)]) H) : ∃ a o, v = .ref a ∧ Z a = none ∧ RepS K T F m o ∧ Rel K T F (upd Z a o) L σ ρ H := by
  have hl : ρ.length = σ.length := by have := r.len; simpa using this
  have qi : (ρ ++ [some (Sl.own false m)])[ρ.length]? = some (some (Sl.own false m)) := by rw [List.getElem?_append_right (Nat.le_refl _)]; simp
  have ql : ∀ {j : Nat} {s : Sl}, ρ[j]? = some (some s) → j < ρ.length ∧ (ρ ++ [some (Sl.own false m)])[j]? = some (some s) ∧ (σ ++ [some v])[j]? = σ[j]? := fun {j s} q => by
    have hj : j < ρ.length := (List.getElem?_eq_some_iff.mp q).1
    exact ⟨hj, by rw [List.getElem?_append_left hj]; exact q, List.getElem?_append_left (by rw [← hl]; exact hj)⟩
  obtain ⟨a, o, g1, g2, g3, g4, g5⟩ := r.own ρ.length false m qi
  have ev : v = .ref a := by
    rw [List.getElem?_append_right (by rw [hl]; exact Nat.le_refl _), hl, Nat.sub_self] at g1
    simpa using g1
  have inn : ∀ {j k : Nat} {io : IO} {b : Addr}, Inn σ ρ H j k io b → Inn (σ ++ [some v]) (ρ ++ [some (Sl.own false m)]) H j k io b := fun {j k io b} ⟨l, c', fs, a', o', h1, h2, h3, h4, h5⟩ => by
    obtain ⟨_, f1, f2⟩ := ql h1
    exact ⟨l, c', fs, a', o', f1, h2, by rw [f2]; exact h3, h4, h5⟩
  have bx : Bx K T F (upd Z a o) σ ρ H := r.bx.gen (Ex.refl F) (fun j k io b h => inn h) (fun j k io b h h1 h2 o' h3 => by
      have apart : b ≠ a := fun z => by subst z; exact r.bx.nsep j k io b ρ.length _ _ (inn h) qi g1
      exact ⟨h1, by rw [upd_ne apart]; exact h2, h3⟩) fun j k io b j' l m' h q1 q2 => ⟨j', l, m', (ql q1).2.1, by rw [(ql q1).2.2]; exact q2⟩
  refine ⟨a, o, ev, g3, g5, ⟨r.exF, fun b u q => ?_, fun b u q => ?_, hl, fun j d q => ?_, fun j l m' q => ?_, fun j k l m1 l' m2 b q1 q2 q3 q4 => ?_, fun j b q => ?_, bx⟩⟩
  · by_cases hb : b = a
    · subst hb; rw [upd_same] at q; cases q; exact g4
    · rw [upd_ne hb] at q; exact r.exZ b u q
  · rw [upd_ne (ne_of_none q g2)]; exact r.dis b u q
  · obtain ⟨_, h1, h2⟩ := ql q
    obtain ⟨w, h3, h4⟩ := r.val j d h1
    exact ⟨w, by rw [← h2]; exact h3, h4⟩
  · obtain ⟨hj, h1, h2⟩ := ql q
    obtain ⟨b, u, f1, f2, f3, f4, f5⟩ := r.own j l m' h1
    have nb : b ≠ a := fun z => by
      subst z
      have := r.sep j ρ.length _ _ _ _ b h1 qi f1 g1
      omega
    exact ⟨b, u, by rw [← h2]; exact f1, f2, by rw [upd_ne nb]; exact f3, f4, f5⟩
  · obtain ⟨_, h1, h2⟩ := ql q1
    obtain ⟨_, h3, h4⟩ := ql q2
    exact r.sep j k _ _ _ _ b h1 h3 (by rw [h2]; exact q3) (by rw [h4]; exact q4)
  · obtain ⟨h1, m', h2⟩ := r.lent j b q
    by_cases hj : j < ρ.length
    · rw [List.getElem?_append_left hj] at h2
      rw [List.getElem?_append_left (by rw [← hl]; exact hj)] at h1
      exact ⟨h1, m', h2⟩
    · rw [List.getElem?_append_right (by omega)] at h2
      have hj2 := (List.getElem?_eq_some_iff.mp h2).1
      have e : j - ρ.length = 0 := by simp at hj2; omega
      rw [e] at h2
      simp at h2
end
theorem setM_last {ρ : VEnv} {l : Bool} {m m' : MO} : setM ρ.length m' (ρ ++ [some (Sl.own l m)]) = ρ ++ [some (Sl.own l m')] := by
  have q : (ρ ++ [some (Sl.own l m)])[ρ.length]? = some (some (Sl.own l m)) := by rw [List.getElem?_append_right (Nat.le_refl _)]; simp
  unfold setM
  rw [q]
  simp
theorem resolve_vs {ρ : VEnv} : ∀ (ds : List D), resolve ρ (ds.map AR.v) = some (ds.map Arg.v)
  | [] => rfl
  | d :: ds => by rw [List.map_cons, resolve, resolve_vs ds]; rfl
theorem lentIx_vs : ∀ (ds : List D), lentIx (ds.map AR.v) = []
  | [] => rfl
  | d :: ds => by rw [List.map_cons, lentIx, lentIx_vs ds]
theorem putBack_vs {ρ : VEnv} : ∀ (ds : List D) (ms : List MO), putBack ρ (ds.map AR.v) ms = ρ
  | [], _ => rfl
  | d :: ds, ms => by rw [List.map_cons, putBack, putBack_vs ds ms]
section
variable {T : Txt} {X : Cx} {W : WX} {st : Stmt} {sts : List Stmt} {tg e a b o : Expr} {es : List Expr} {pos p apos : Pos} {K : PySem.W.Frag} {c i : Nat} {f m x : Str}
def mMake (G : Fn) (c n : Nat) (dd : List D) (g : Ev (List D)) : Ev Res := fun ρ => (g ρ).bind fun ds ρ1 => if (ds ++ dd).length + 1 = n then (match G (.l (.ins c []) :: (ds ++ dd).map Arg.v) with
  | some (.ok .non, [m]) => if m.plain = true then .ok (.nw m) ρ1 else .stuck
  | some (.ex e xs, [_]) => .ex e xs ρ1
  | _ => .stuck) else .stuck
theorem jr_make {G : Fn} {n : Nat} {dvs : List V} {dd : List D} {g : Ev (List D)} (rule : ∀ t, PA X es t → PE X e (tMakeG (T.cl c) (spG X.K T G n) dvs W t)) (hdv : ∀ F, Reps X.K T F dd dvs) (ha : JA T X W es g) :
    JR T X W e (mMake G c n dd g) := fun ρ => by
  have p1 := ha ρ
  unfold mMake
  cases q1 : g ρ with
  | stuck => exact pe_no
  | ex c ds ρ1 => rw [q1] at p1; exact pe_weak (rule _ p1) fun σ H Q q => q
  | ok ds0 ρ1 =>
    rw [q1] at p1
    simp only [R.bind_ok]
    by_cases hn : (ds0 ++ dd).length + 1 = n
    · rw [if_pos hn]
      have main : ∀ {σ : L2.St} {F Z : Hp} {L : Nat → Option Addr} {vs : List V} {H1 : Hp} {Q : VK} {a dx : Addr} {rr : Res} {m : MO}, Rel X.K T F Z L σ ρ1 H1 → Reps X.K T F (ds0 ++ dd) vs → H1 a = none → H1 dx = none → dx ≠ a →
          G (.l (.ins c []) :: (ds0 ++ dd).map Arg.v) = some (rr, [m]) →
          (match rr with
            | .ok d => d = .non ∧ ∀ o F' H', Ex F F' → Z a = none → Rel X.K T F' (upd Z a o) L σ ρ1 H' → RepS X.K T F' m o → Q (.ref a) H'
            | .ex e xs => ∀ cls dd F' H', Ex F F' → Rel X.K T F' Z L σ ρ1 H' → ExR X.K T F' cls dd e xs → W cls dd σ H'
            | .nw _ => False) →
          spG X.K T G n (.ref a :: vs) (upd (upd H1 dx (.own a)) a (.ins (T.cl c) dx [])) (fun v H2 => v = .non ∧ Q (.ref a) H2) (WE W σ) := by
        intro σ F Z L vs H1 Q a dx rr m r1 x1 ha hd hne hG k
        have hl : ρ1.length = σ.length := r1.len
        have rp := r1.push (c := c) ha hd hne
        have eR : resolve (ρ1 ++ [some (Sl.own false (.ins c []))]) (AR.l ρ1.length :: (ds0 ++ dd).map AR.v) = some (.l (.ins c []) :: (ds0 ++ dd).map Arg.v) := by
          have q : (ρ1 ++ [some (Sl.own false (MO.ins c []))])[ρ1.length]? = some (some (Sl.own false (.ins c []))) := by rw [List.getElem?_append_right (Nat.le_refl _)]; simp
          unfold resolve
          rw [q, resolve_vs]
          rfl
        have eP : putBack (ρ1 ++ [some (Sl.own false (.ins c []))]) (AR.l ρ1.length :: (ds0 ++ dd).map AR.v) [m] = ρ1 ++ [some (Sl.own false m)] := by
          rw [putBack, setM_last, putBack_vs]
        have hc : (lentIx (AR.l ρ1.length :: (ds0 ++ dd).map AR.v)).Nodup ∧ (AR.l ρ1.length :: (ds0 ++ dd).map AR.v).length = n := by
          rw [lentIx, lentIx_vs]
          exact ⟨by simp, by simpa using hn⟩
        have av : ARs X.K T F (σ ++ [some (V.ref a)]) (AR.l ρ1.length :: (ds0 ++ dd).map AR.v) (.ref a :: vs) := by
          refine ⟨_, vs, rfl, by rw [List.getElem?_append_right (by rw [hl]; exact Nat.le_refl _), hl, Nat.sub_self]; rfl, ?_⟩
          have := ARs.vals (K := X.K) (T := T) (F := F) (σ := σ ++ [some (V.ref a)]) (ars := []) (vs := []) rfl x1
          simpa using this
        cases rr with
        | ok d =>
          obtain ⟨rfl, k⟩ := k
          have eC : callR G n (AR.l ρ1.length :: (ds0 ++ dd).map AR.v) (ρ1 ++ [some (Sl.own false (.ins c []))]) = .ok (.ok .non) (ρ1 ++ [some (Sl.own false m)]) := by
            unfold callR
            rw [if_pos hc, eR]
            dsimp only
            rw [hG]
            dsimp only
            rw [eP]
          refine call_mid (W := fun cls dd _ H => W cls dd σ H) eC rp av fun v F' H' e' r' x' => ⟨x', ?_⟩
          obtain ⟨a', o, ea, hz, px, r2⟩ := r'.pop
          cases ea
          exact k o F' H' e' hz r2 px
        | nw _ => exact k.elim
        | ex e' xs =>
          have eC : callR G n (AR.l ρ1.length :: (ds0 ++ dd).map AR.v) (ρ1 ++ [some (Sl.own false (.ins c []))]) = .ex e' xs (ρ1 ++ [some (Sl.own false m)]) := by
            unfold callR
            rw [if_pos hc, eR]
            dsimp only
            rw [hG]
            dsimp only
            rw [eP]
          refine call_mid (W := fun cls dd _ H => W cls dd σ H) eC rp av fun cls dd F' H' e' r' x' => ?_
          obtain ⟨a', o, ea, hz, px, r2⟩ := r'.pop
          exact k cls dd F' H' e' (r2.zDrop hz).1 x'
      split
      · rename_i m hG
        split
        · rename_i hp
          refine pe_weak (rule _ p1) fun σ H Q ⟨F, Z, L, r, k⟩ => ⟨F, Z, L, r, fun vs F1 H1 e1 r1 x1 a dx ha hd hne => ?_⟩
          exact main r1 (x1.append (hdv F1)) ha hd hne hG ⟨rfl, fun o F' H' e' hz r' px => k a o F' H' (e1.trans e') hz r' (px.o hp)⟩
        · exact pe_no
      · rename_i e' xs m hG
        refine pe_weak (rule _ p1) fun σ H Q ⟨F, Z, L, r, k⟩ => ⟨F, Z, L, r, fun vs F1 H1 e1 r1 x1 a dx ha hd hne => ?_⟩
        exact main r1 (x1.append (hdv F1)) ha hd hne hG fun cls dd F' H' e' r' px => k cls dd F' H' (e1.trans e') r' px
      · exact pe_no
    · rw [if_neg hn]; exact pe_no
def mMeth (G : Fn) (c n : Nat) (dd : List D) (ga : Ev D) (gs : Ev (List D)) : Ev Res := fun ρ => (ga ρ).bind fun d ρ1 => match d with
  | .ins c' _ => if c' = c then (gs ρ1).bind fun ds ρ2 => callR G n (AR.v d :: (ds ++ dd).map AR.v) ρ2 else .stuck
  | _ => .stuck
theorem jr_meth {G : Fn} {n : Nat} {dvs : List V} {dd : List D} {ga : Ev D} {gs : Ev (List D)} (rule : ∀ ta t, PE X o ta → PA X es t → PE X e (tMethG (T.cl c) m (spG X.K T G n) dvs W ta t)) (hdv : ∀ F, Reps X.K T F dd dvs) (hm : m ∉ T.fl c)
    (ho : JE T X W o ga) (ha : JA T X W es gs) : JR T X W e (mMeth G c n dd ga gs) := fun ρ => by
  have p1 := ho ρ
  unfold mMeth
  cases q1 : ga ρ with
  | stuck => exact pe_no
  | ex c ds ρ1 => rw [q1] at p1; exact pe_weak (rule _ _ p1 pa_no) fun σ H Q q => q
  | ok d ρ1 =>
    rw [q1] at p1
    simp only [R.bind_ok]
    cases d with
    | ins c' xs =>
      dsimp only
      by_cases hc : c' = c
      · subst hc
        rw [if_pos rfl]
        have p2 := ha ρ1
        have self : ∀ {F H : Hp} {v : V}, Ex F H → Rep X.K T F (.ins c' xs) v → ∃ a dx fs, v = .ref a ∧ H a = some (.ins (T.cl c') dx fs) ∧ fs.lookup m = none := fun {F H v} e r => by
          obtain ⟨q, dx, vs, rfl, h1, h2, rr⟩ := r
          exact ⟨q, dx, _, rfl, e _ _ h1, zip_none hm⟩
        cases q2 : gs ρ1 with
        | stuck => exact pe_no
        | ex c ds ρ2 =>
          rw [q2] at p2
          refine pe_weak (rule _ _ p1 p2) fun σ H Q ⟨F, Z, L, r, k⟩ => ⟨F, Z, L, r, fun v F1 H1 e1 r1 x1 => ?_⟩
          obtain ⟨q, dx, fs, h1, h2, h3⟩ := self r1.exF x1
          exact ⟨q, dx, fs, h1, h2, h3, F1, Z, L, r1, fun cls dd F2 H2 e2 r2 x2 => k cls dd F2 H2 (e1.trans e2) r2 x2⟩
        | ok ds ρ2 =>
          rw [q2] at p2
          simp only [R.bind_ok]
          have av : ∀ {σ : L2.St} {F1 F2 : Hp} {v : V} {vs : List V}, Ex F1 F2 → Rep X.K T F1 (.ins c' xs) v → Reps X.K T F2 ds vs → ARs X.K T F2 σ (AR.v (.ins c' xs) :: (ds ++ dd).map AR.v) (v :: (vs ++ dvs)) := fun {σ F1 F2 v vs} e2 x1 x2 => by
            refine ⟨v, _, rfl, x1.mono e2, ?_⟩
            have := ARs.vals (K := X.K) (T := T) (F := F2) (σ := σ) (ars := []) (vs := []) rfl (x2.append (hdv F2))
            simpa using this
          cases q3 : callR G n (AR.v (.ins c' xs) :: (ds ++ dd).map AR.v) ρ2 with
          | stuck => exact pe_no
          | ex c ds ρ3 =>
            refine pe_weak (rule _ _ p1 p2) fun σ H Q ⟨F, Z, L, r, k⟩ => ⟨F, Z, L, r, fun v F1 H1 e1 r1 x1 => ?_⟩
            obtain ⟨q, dx, fs, h1, h2, h3⟩ := self r1.exF x1
            exact ⟨q, dx, fs, h1, h2, h3, F1, Z, L, r1, fun vs F2 H2 e2 r2 x2 => call_mid q3 r2 (av e2 x1 x2) fun cls dd F' H' e' r' px => k cls dd F' H' ((e1.trans e2).trans e') r' px⟩
          | ok rr ρ3 =>
            cases rr with
            | ok d =>
              refine pe_weak (rule _ _ p1 p2) fun σ H Q ⟨F, Z, L, r, k⟩ => ⟨F, Z, L, r, fun v F1 H1 e1 r1 x1 => ?_⟩
              obtain ⟨q, dx, fs, h1, h2, h3⟩ := self r1.exF x1
              exact ⟨q, dx, fs, h1, h2, h3, F1, Z, L, r1, fun vs F2 H2 e2 r2 x2 => call_mid q3 r2 (av e2 x1 x2) fun w F' H' e' r' px => k w F' H' ((e1.trans e2).trans e') r' px⟩
            | nw m' =>
              refine pe_weak (rule _ _ p1 p2) fun σ H Q ⟨F, Z, L, r, k⟩ => ⟨F, Z, L, r, fun v F1 H1 e1 r1 x1 => ?_⟩
              obtain ⟨q, dx, fs, h1, h2, h3⟩ := self r1.exF x1
              exact ⟨q, dx, fs, h1, h2, h3, F1, Z, L, r1, fun vs F2 H2 e2 r2 x2 => call_mid q3 r2 (av e2 x1 x2) fun a o F' H' e' hz r' px => k a o F' H' ((e1.trans e2).trans e') hz r' px⟩
            | ex c ds => exact pe_no
      · rw [if_neg hc]; exact pe_no
    | _ => exact pe_no
end
end VS
set_option maxHeartbeats 2000000
namespace VS
open PySem L2 PySem.Spec PyProof.Rows
structure CalM (P : Program) (w : World) (K : PySem.W.Frag) (mg : Str → Option Value) (base : Heap) (T : Txt) (k : Nat) (c : Nat) (m : Str) (G : Fn) (ps : List Str) : Prop where
  ex : ∃ f fd, FnG P w K mg base k f fd ps (spG K T G ps.length) ∧ Meth K (T.cl c) m f ∧ Binds K fd ps []
def permL {α : Type} (idx : List Nat) (xs : List α) : List α := idx.filterMap (xs[·]?)
theorem permL_vals {zs : List V} {ws : List Value} (h : Vals zs ws) : ∀ idx : List Nat, Vals (permL idx zs) (permL idx ws)
  | [] => .nil
  | i :: idx => by
    have ih := permL_vals h idx
    unfold permL at ih ⊢
    rw [List.filterMap_cons, List.filterMap_cons]
    cases q : zs[i]? with
    | none =>
      have q2 : ws[i]? = none := by
        rw [List.getElem?_eq_none_iff] at q ⊢
        rw [← h.length]; exact q
      rw [q2]; exact ih
    | some z =>
      obtain ⟨u, q2, r⟩ := h.get q
      rw [q2]; exact .cons r ih
structure CalK (P : Program) (w : World) (K : PySem.W.Frag) (mg : Str → Option Value) (base : Heap) (T : Txt) (k : Nat) (x : Str) (G : Fn) (ps ks : List Str) (idx : List Nat) : Prop where
  ex : ∃ f fd, FnG P w K mg base k f fd ps (spG K T G ps.length) ∧ mg x = some (.ref f) ∧ PySem.W.keepIn K (.ref f) = true ∧ ∀ (s : Shared) (ws : List Value), K.In s.heap → ws.length = ks.length → BindsTo s fd ⟨[], ks.zip ws⟩ (ps.zip (permL idx ws))
section
variable {T : Txt} {X : Cx} {W : WX} {st : Stmt} {sts : List Stmt} {tg e a b o : Expr} {es : List Expr} {pos p apos : Pos} {K : PySem.W.Frag} {c i k n : Nat} {f m x : Str} {G : Fn} {ps ks : List Str}
theorem jr_met {pl : Sem Bool} {ga : Ev D} {gs : Ev (List D)} (C : ClsF X.K T c) (h : CalM X.prog X.w X.K X.mg X.base T k c m G ps) (hA : X.A.guards = some []) (hr : Room k X.A) (tk : Takes X W) (hm : m ∉ T.fl c) (ho : JE T X W o ga) (ha : JA T X W (e :: es) gs) (hn : ps.length = n := by rfl)
    (hst : starEach (e :: es) X.env = (false, eval e X.env) :: starEach es X.env := by rfl) (hpl : (backTo pos (starEach es X.env)).any (·.1) = false := by rfl)
    (ht : eval (.Call (.Attribute o m apos) (e :: es) [] pos) X.env = (do
      let ov ← eval o X.env
      standAt apos.atName
      let (f, first) ← holding [ov] (getMethod ov m pl)
      callWith pos f first (backTo pos (starEach (e :: es) X.env)) (backToKw pos (keywordEach [] X.env))) := by rfl) : JR T X W (.Call (.Attribute o m apos) (e :: es) [] pos) (mMeth G c n [] ga gs) := by
  subst hn
  obtain ⟨f, fd, hG, hM, hb⟩ := h.ex
  exact jr_meth (fun ta t h1 h2 => pe_methG h1 C.cls hM hG hA hr hb .nil tk h2 hst hpl ht) (fun _ => rfl) hm ho ha
def mMeth0 (G : Fn) (c n : Nat) (ga : Ev D) : Ev Res := fun ρ => (ga ρ).bind fun d ρ1 => match d with
  | .ins c' _ => if c' = c then callR G n [AR.v d] ρ1 else .stuck
  | _ => .stuck
theorem jr_met0 {pl : Sem Bool} {ga : Ev D} (C : ClsF X.K T c) (h : CalM X.prog X.w X.K X.mg X.base T k c m G ps) (hA : X.A.guards = some []) (hr : Room k X.A) (tk : Takes X W) (hm : m ∉ T.fl c) (ho : JE T X W o ga) (hn : ps.length = n := by rfl)
    (ht : eval (.Call (.Attribute o m apos) [] [] pos) X.env = (do
      let ov ← eval o X.env
      standAt apos.atName
      let (f, first) ← holding [ov] (getMethod ov m pl)
      callWith pos f first (backTo pos (starEach [] X.env)) (backToKw pos (keywordEach [] X.env))) := by rfl) : JR T X W (.Call (.Attribute o m apos) [] [] pos) (mMeth0 G c n ga) := fun ρ => by
  subst hn
  obtain ⟨f, fd, hG, hM, hb⟩ := h.ex
  have rule : ∀ ta, PE X o ta → PE X (.Call (.Attribute o m apos) [] [] pos) (tMethG (T.cl c) m (spG X.K T G ps.length) [] W ta tNil) := fun ta h1 => pe_methG0 h1 C.cls hM hG hA hr hb .nil tk ht
  have p1 := ho ρ
  unfold mMeth0
  cases q1 : ga ρ with
  | stuck => exact pe_no
  | ex c ds ρ1 => rw [q1] at p1; exact pe_weak (rule _ p1) fun σ H Q q => q
  | ok d ρ1 =>
    rw [q1] at p1
    simp only [R.bind_ok]
    cases d with
    | ins c' xs =>
      dsimp only
      by_cases hc : c' = c
      · subst hc
        rw [if_pos rfl]
        have self : ∀ {F H : Hp} {v : V}, Ex F H → Rep X.K T F (.ins c' xs) v → ∃ a dx fs, v = .ref a ∧ H a = some (.ins (T.cl c') dx fs) ∧ fs.lookup m = none := fun {F H v} e r => by
          obtain ⟨q, dx, vs, rfl, h1, h2, rr⟩ := r
          exact ⟨q, dx, _, rfl, e _ _ h1, zip_none hm⟩
        have av : ∀ {σ : L2.St} {F1 : Hp} {v : V}, Rep X.K T F1 (.ins c' xs) v → ARs X.K T F1 σ [AR.v (.ins c' xs)] [v] := fun {σ F1 v} x1 => ⟨v, _, rfl, x1, rfl⟩
        cases q3 : callR G ps.length [AR.v (.ins c' xs)] ρ1 with
        | stuck => exact pe_no
        | ex c ds ρ3 =>
          refine pe_weak (rule _ p1) fun σ H Q ⟨F, Z, L, r, k⟩ => ⟨F, Z, L, r, fun v F1 H1 e1 r1 x1 => ?_⟩
          obtain ⟨q, dx, fs, h1, h2, h3⟩ := self r1.exF x1
          exact ⟨q, dx, fs, h1, h2, h3, call_mid q3 r1 (av x1) fun cls dd F' H' e' r' px => k cls dd F' H' (e1.trans e') r' px⟩
        | ok rr ρ3 =>
          cases rr with
          | ok d =>
            refine pe_weak (rule _ p1) fun σ H Q ⟨F, Z, L, r, k⟩ => ⟨F, Z, L, r, fun v F1 H1 e1 r1 x1 => ?_⟩
            obtain ⟨q, dx, fs, h1, h2, h3⟩ := self r1.exF x1
            exact ⟨q, dx, fs, h1, h2, h3, call_mid q3 r1 (av x1) fun w F' H' e' r' px => k w F' H' (e1.trans e') r' px⟩
          | nw m' =>
            refine pe_weak (rule _ p1) fun σ H Q ⟨F, Z, L, r, k⟩ => ⟨F, Z, L, r, fun v F1 H1 e1 r1 x1 => ?_⟩
            obtain ⟨q, dx, fs, h1, h2, h3⟩ := self r1.exF x1
            exact ⟨q, dx, fs, h1, h2, h3, call_mid q3 r1 (av x1) fun a o F' H' e' hz r' px => k a o F' H' (e1.trans e') hz r' px⟩
          | ex c ds => exact pe_no
      · rw [if_neg hc]; exact pe_no
    | _ => exact pe_no
def rdKw (T : Txt) (X : Cx) (W : WX) (kws : List Keyword) (g : Ev (List D)) : Prop := ∀ ρ, PK X kws (rdA X.K T W ρ (g ρ))
theorem pk_weak {kws : List Keyword} {t t' : TA} (h : PK X kws t) (w : ∀ σ H Q, t' σ H Q → t σ H Q) : PK X kws t' := ⟨fun pos pins s σ H Q I q => h.run pos pins s σ H Q I (w σ H Q q)⟩
theorem pk_no {kws : List Keyword} : PK X kws (fun _ _ _ => False) := ⟨fun _ _ _ _ _ _ _ h => h.elim⟩
theorem jk_nil : rdKw T X W [] mNil := fun ρ => pk_weak pk_nil fun σ H Q ⟨F, Z, L, r, k⟩ => k [] F H (Ex.refl F) r rfl
theorem jk_cons {nm : Option Str} {kpos : Pos} {kws : List Keyword} {g : Ev D} {h : Ev (List D)} (h1 : JE T X W e g) (h2 : rdKw T X W kws h) : rdKw T X W (⟨nm, e, kpos⟩ :: kws) (mCons g h) := fun ρ => by
  have p1 := h1 ρ
  unfold mCons
  cases q1 : g ρ with
  | stuck => exact pk_no
  | ex c ds ρ1 => rw [q1] at p1; exact pk_weak (pk_cons p1 pk_no) fun σ H Q q => q
  | ok d ρ1 =>
    rw [q1] at p1
    have p2 := h2 ρ1
    simp only [R.bind_ok]
    cases q2 : h ρ1 with
    | stuck => exact pk_no
    | ex c ds ρ2 =>
      rw [q2] at p2
      exact pk_weak (pk_cons p1 p2) fun σ H Q ⟨F, Z, L, r, k⟩ => ⟨F, Z, L, r, fun v F1 H1 e1 r1 _ => ⟨F1, Z, L, r1, fun cls dd F2 H2 e2 r2 x2 => k cls dd F2 H2 (e1.trans e2) r2 x2⟩⟩
    | ok ds ρ2 =>
      rw [q2] at p2
      exact pk_weak (pk_cons p1 p2) fun σ H Q ⟨F, Z, L, r, k⟩ => ⟨F, Z, L, r, fun v F1 H1 e1 r1 x1 => ⟨F1, Z, L, r1, fun vs F2 H2 e2 r2 x2 => k _ F2 H2 (e1.trans e2) r2 ⟨v, vs, rfl, x1.mono e2, x2⟩⟩⟩
theorem permL_reps {F : Hp} {ds : List D} {vs : List V} (h : Reps K T F ds vs) : ∀ idx : List Nat, Reps K T F (permL idx ds) (permL idx vs)
  | [] => rfl
  | i :: idx => by
    have ih := permL_reps h idx
    unfold permL at ih ⊢
    rw [List.filterMap_cons, List.filterMap_cons]
    cases q : ds[i]? with
    | none =>
      have q2 : vs[i]? = none := by
        rw [List.getElem?_eq_none_iff] at q ⊢
        rw [h.length]; exact q
      rw [q2]; exact ih
    | some z =>
      obtain ⟨u, q2, r⟩ := h.get q
      rw [q2]; exact ⟨_, _, rfl, r, ih⟩
def mResK (G : Fn) (n kn : Nat) (idx : List Nat) (g : Ev (List D)) : Ev Res := fun ρ => (g ρ).bind fun ds ρ1 => if ds.length = kn then callR G n ((permL idx ds).map AR.v) ρ1 else .stuck
def tCallGK (kn : Nat) (idx : List Nat) (sp : Sp) (W : WX) (t : TA) : TE := fun σ H Q => t σ H fun vs H1 => vs.length = kn ∧ sp (permL idx vs) H1 Q (WE W σ)
theorem pe_callGK {fa : Addr} {fd : FuncData} {idx : List Nat} {sp : Sp} {kws : List Keyword} {t : TA} (hG : FnG X.prog X.w X.K X.mg X.base k fa fd ps sp) (hA : X.A.guards = some []) (hr : Room k X.A) (hg : Gl X x) (hm : X.mg x = some (.ref fa)) (hk : PySem.W.keepIn X.K (.ref fa) = true)
    (hb : ∀ (s : Shared) (ws : List Value), X.K.In s.heap → ws.length = ks.length → BindsTo s fd ⟨[], ks.zip ws⟩ (ps.zip (permL idx ws))) (tk : Takes X W) (hkw : PK X kws t)
    (hall : (backToKw pos (keywordEach kws X.env)).all (·.1.isSome) = true) (hks : (backToKw pos (keywordEach kws X.env)).filterMap (·.1) = ks) (hdb : (x == ("__debug__" : Str)) = false)
    (hpl : ((backTo pos (starEach [] X.env)).any (·.1) || (backToKw pos (keywordEach kws X.env)).any (·.1.isNone)) = false) : PE X (.Call (.Name x p) [] kws pos) (tCallGK ks.length idx sp W t) := ⟨fun pins s σ H Q I h => by
  refine wpAny_Call_Name_kw (ld_glob I hg hm ?_ hdb)
  refine PySem.W.callWith_KW0 (h₀ := X.base) I.ok.mod.kin hk hall (thn (hkw.run pos pins s σ H _ I h) ?_) hpl
  rintro ws s1 ⟨vs, H1, I1, r, hl, q⟩
  refine ⟨I1.kIn, ?_⟩
  rw [hks]
  have r2 := permL_vals r idx
  refine wpAny_call (codeAny_mono (hG.run (args := ⟨[], ks.zip ws⟩) hA hr I1.env0 (hb s1 ws I1.kIn (r.length.symm.trans hl)) r2 q) ?_)
  intro z s2 hz
  cases z with
  | error u => exact passAt tk σ pins H1 s1 u s2 I1 hz
  | ok fl =>
    cases fl with
    | ret u => exact I1.after hz
    | next => exact hz.elim
    | brk => exact hz.elim
    | cont => exact hz.elim⟩
theorem jr_defK {idx : List Nat} {kws : List Keyword} {g : Ev (List D)} {kn : Nat} (h : CalK X.prog X.w X.K X.mg X.base T k x G ps ks idx) (hA : X.A.guards = some []) (hr : Room k X.A) (tk : Takes X W) (ha : rdKw T X W kws g) (hn : ps.length = n := by rfl) (hkn : ks.length = kn := by rfl) (hg : Gl X x := by rfl)
    (hall : (backToKw pos (keywordEach kws X.env)).all (·.1.isSome) = true := by rfl) (hks : (backToKw pos (keywordEach kws X.env)).filterMap (·.1) = ks := by rfl) (hdb : (x == ("__debug__" : Str)) = false := by decide)
    (hpl : ((backTo pos (starEach [] X.env)).any (·.1) || (backToKw pos (keywordEach kws X.env)).any (·.1.isNone)) = false := by rfl) : JR T X W (.Call (.Name x p) [] kws pos) (mResK G n kn idx g) := fun ρ => by
  subst hn hkn
  obtain ⟨fa, fd, hG, hm, hk, hb⟩ := h.ex
  have rule : ∀ t, PK X kws t → PE X (.Call (.Name x p) [] kws pos) (tCallGK ks.length idx (spG X.K T G ps.length) W t) := fun t ht => pe_callGK hG hA hr hg hm hk hb tk ht hall hks hdb hpl
  have p1 := ha ρ
  unfold mResK
  cases q1 : g ρ with
  | stuck => exact pe_no
  | ex c ds ρ1 => rw [q1] at p1; exact pe_weak (rule _ p1) fun σ H Q q => q
  | ok ds ρ1 =>
    rw [q1] at p1
    simp only [R.bind_ok]
    by_cases hl : ds.length = ks.length
    · rw [if_pos hl]
      have av : ∀ {σ : L2.St} {F : Hp} {vs : List V}, Reps X.K T F ds vs → ARs X.K T F σ ((permL idx ds).map AR.v) (permL idx vs) := fun {σ F vs} x1 => by
        have := ARs.vals (K := X.K) (T := T) (F := F) (σ := σ) (ars := []) (vs := []) rfl (permL_reps x1 idx)
        simpa using this
      cases q2 : callR G ps.length ((permL idx ds).map AR.v) ρ1 with
      | stuck => exact pe_no
      | ex c ds' ρ2 => exact pe_weak (rule _ p1) fun σ H Q ⟨F, Z, L, r, k⟩ => ⟨F, Z, L, r, fun vs F1 H1 e1 r1 x1 => ⟨x1.length.trans hl, call_mid q2 r1 (av x1) fun cls dd F' H' e r' p => k cls dd F' H' (e1.trans e) r' p⟩⟩
      | ok rr ρ2 =>
        cases rr with
        | ok d => exact pe_weak (rule _ p1) fun σ H Q ⟨F, Z, L, r, k⟩ => ⟨F, Z, L, r, fun vs F1 H1 e1 r1 x1 => ⟨x1.length.trans hl, call_mid q2 r1 (av x1) fun v F' H' e r' p => k v F' H' (e1.trans e) r' p⟩⟩
        | nw m => exact pe_weak (rule _ p1) fun σ H Q ⟨F, Z, L, r, k⟩ => ⟨F, Z, L, r, fun vs F1 H1 e1 r1 x1 => ⟨x1.length.trans hl, call_mid q2 r1 (av x1) fun a o F' H' e hz r' p => k a o F' H' (e1.trans e) hz r' p⟩⟩
        | ex c ds => exact pe_no
    · rw [if_neg hl]; exact pe_no
structure IsiF (K : PySem.W.Frag) (T : Txt) (c : Nat) : Prop where
  no : ∀ n ∈ ["NoneType", "bool", "int", "str", "tuple", "list", "dict"], PySem.W.kitOne K (.type n) (.ref (T.cl c)) = some false
  yes : PySem.W.kitOne K (.ref (T.cl c)) (.ref (T.cl c)) = some true
  ha : PySem.W.findIn K (.ref (T.cl c)) "__class__" = some (some (.builtin "object.__class__"))
  hn : PySem.W.specialIn K (.builtin "object.__class__") "__get__" = some (some (.builtin "getset_descriptor.__get__"))
  htk : PySem.W.takesIn K (.builtin "object.__class__") = some true
  hm : PySem.W.mroIn K (T.cl c) (.type "object") = some true
end
end VS
set_option maxHeartbeats 2000000
namespace VS
open PySem L2 PySem.Spec PyProof.Rows
section
variable {T : Txt} {X : Cx} {W : WX} {e a b : Expr} {es : List Expr} {pos p : Pos} {K : PySem.W.Frag}
def mAddL (i : Nat) (gb : Ev D) : Ev MO := fun ρ => match ρ[i]? with
  | some (some (Sl.own _ _)) => (gb ρ).bind fun y ρ1 => match ρ1[i]? with
    | some (some (Sl.own _ m)) => R.of (addO m.frz y) ρ1
    | _ => .stuck
  | _ => .stuck
theorem jf_addL {i : Nat} {gb : Ev D} (ha : PE X a (tVar i)) (hb : JE T X W b gb) : JF T X W (.BinOp a .Add b pos) (mAddL i gb) := fun ρ => by
  unfold mAddL
  split
  · rename_i l0 m0 q0
    have h2 := hb ρ
    cases q2 : gb ρ with
    | stuck => exact pe_no
    | ex c ds ρ2 =>
      rw [q2] at h2
      refine pe_weak (pe_op op_cat ha h2) fun σ H Q ⟨F, Z, L, r, k⟩ => ?_
      obtain ⟨a0, o0, g1, _⟩ := r.own i l0 m0 q0
      exact ⟨_, g1, F, Z, L, r, fun cls dd F2 H2 e2 r2 x2 => k cls dd F2 H2 e2 r2 x2⟩
    | ok y ρ2 =>
      rw [q2] at h2
      simp only [R.bind_ok]
      split
      · rename_i l m q
        cases q3 : addO m.frz y with
        | none => exact pe_no
        | some m' =>
          refine pe_weak (pe_op op_cat ha h2) fun σ H Q ⟨F, Z, L, r, k⟩ => ?_
          obtain ⟨a0, o0, g1, _⟩ := r.own i l0 m0 q0
          refine ⟨_, g1, F, Z, L, r, fun w F2 H2 e2 r2 p2 => ?_⟩
          obtain ⟨a1, o1, g2, g3, g4, g5, g6⟩ := r2.own i l m q
          have ea : a0 = a1 := by rw [g1] at g2; cases g2; rfl
          subst ea
          cases m with
          | lst zs =>
            cases y <;> simp only [MO.frz, addO, reduceCtorEq] at q3
            rename_i ys
            split at q3
            · rename_i hz
              cases q3
              obtain ⟨vs1, e1, rr1⟩ := g6
              obtain ⟨a2, vs2, rfl, f2, rr2⟩ := p2
              exact ⟨a0, a2, vs1, vs2, rfl, rfl, by rw [g5, e1], r2.exF _ _ f2, by rw [rr1.length, rr2.length]; exact le_line hz, fun p hp => k p _ F2 _ e2 (r2.exZ.none hp) (r2.zNew hp) ⟨_, rfl, rr1.append rr2⟩⟩
            · cases q3
          | dct _ => simp [MO.frz, addO] at q3
          | ins _ _ => simp [MO.frz, addO] at q3
          | dtt _ => simp [MO.frz, addO] at q3
          | box _ _ => simp [MO.frz, addO] at q3
      · exact pe_no
  · exact pe_no
theorem Rel.junk {F Z H : Hp} {L : Nat → Option Addr} {σ : L2.St} {ρ : VEnv} {q : Addr} {o : HO} (r : Rel K T F Z L σ ρ H) (n : H q = none) : Rel K T F Z L σ ρ (upd H q o) := by
  have keep : ∀ {b : Addr} {u : HO}, H b = some u → upd H q o b = some u := fun {b u} z => by rw [upd_ne (ne_of_none z n)]; exact z
  refine ⟨fun b u z => keep (r.exF b u z), fun b u z => keep (r.exZ b u z), r.dis, r.len, r.val, fun i l m z => ?_, r.sep, r.lent, r.bxH (Ex.refl F) fun a u h1 h2 h3 => ⟨h1, h2, keep h3⟩⟩
  obtain ⟨a, u, g1, g2, g3, g4, g5⟩ := r.own i l m z
  exact ⟨a, u, g1, g2, g3, keep g4, g5⟩
section
variable {i j : Nat} {x y : Str} {px py pt pt2 : Pos} {kt k2 : Nat}
theorem js_tupEF {ga : Ev D} {gb : Ev MO} (hc : X.calm = true) (hN : X.N.Nodup) (hi : X.N[i]? = some x) (hj : X.N[j]? = some y) (ha : JE T X W a ga) (hb : JF T X W b gb)
    (hx : Loc X.env.scope x := by first | exact Or.inl rfl | exact Or.inr rfl) (hy : Loc X.env.scope y := by first | exact Or.inl rfl | exact Or.inr rfl) (fx : X.fn x = true ∨ X.env.scope.names.lookup x = some .local := by first | exact .inl rfl | exact .inr rfl) (fy : X.fn y = true ∨ X.env.scope.names.lookup y = some .local := by first | exact .inl rfl | exact .inr rfl)
    (hw : swappedStores [.Tuple [.Name x px, .Name y py] kt pt] (.Tuple [a, b] k2 pt2) X.env = pure none := by rfl) (hsw : swapsWithSole [.Tuple [.Name x px, .Name y py] kt pt] (.Tuple [a, b] k2 pt2) pos.line X.env = pure false := by rfl)
    (h1 : (assignEach [.Tuple [.Name x px, .Name y py] kt pt] X.env).map (·.2) = [assign (.Tuple [.Name x px, .Name y py] kt pt) X.env] := by rfl) (hn : (assignEach [.Name x px, .Name y py] X.env).length = 2 := by rfl) (hst : (assignEach [.Name x px, .Name y py] X.env).findIdx? (·.1) = none := by rfl)
    (g1 : (assignEach [.Name x px, .Name y py] X.env).map (·.2) = assign (.Name x px) X.env :: (assignEach [.Name y py] X.env).map (·.2) := by rfl) (g2 : (assignEach [.Name y py] X.env).map (·.2) = assign (.Name y py) X.env :: (assignEach [] X.env).map (·.2) := by rfl)
    (hs : starEach [a, b] X.env = (false, eval a X.env) :: starEach [b] X.env := by rfl) (hs2 : starEach [b] X.env = (false, eval b X.env) :: starEach [] X.env := by rfl) :
    JS T X W (.Assign [.Tuple [.Name x px, .Name y py] kt pt] (.Tuple [a, b] k2 pt2) pos) (mParEF i j ga gb) := fun ρ => by
  have rule := fun ta tb (h3 : PE X a ta) (h4 : PE X b tb) => ps_asg (pos := pos) (pe_tup (x1 := k2) (pos := pt2) (pa_cons h3 (pa_cons h4 pa_nil hs2) hs)) (pg_tup (k := kt) (pos := pt) hc (pgs_cons (pg_name (pos := px) hN hi hx fx) (pgs_cons (pg_name (pos := py) hN hj hy fy) pgs_nil g2) g1) hn hst) hsw hw h1
  have p1 := ha ρ
  unfold mParEF
  cases q1 : ga ρ with
  | stuck => exact js_never ρ
  | ex c ds ρ1 => rw [q1] at p1; exact ps_weak (rule _ _ p1 pe_no) fun N σ H ⟨F, Z, L, r, k⟩ => ⟨F, Z, L, r, fun cls dd F' H' e r' x => k cls dd σ F' H' e r' x⟩
  | ok d ρ1 =>
    rw [q1] at p1
    have p2 := hb ρ1
    simp only [R.thenS_ok]
    cases q2 : gb ρ1 with
    | stuck => exact js_never ρ
    | ex c ds ρ2 => rw [q2] at p2; exact ps_weak (rule _ _ p1 p2) fun N σ H ⟨F, Z, L, r, k⟩ => ⟨F, Z, L, r, fun v F1 H1 e1 r1 x1 => ⟨F1, Z, L, r1, fun cls dd F' H' e r' x => k cls dd σ F' H' (e1.trans e) r' x⟩⟩
    | ok d2 ρ2 =>
      rw [q2] at p2
      refine ps_weak (rule _ _ p1 p2) fun N σ H ⟨F, Z, L, r, k⟩ => ⟨F, Z, L, r, fun v F1 H1 e1 r1 x1 => ⟨F1, Z, L, r1, fun a o F2 H2 e2 hz r2 x2 => ?_⟩⟩
      obtain ⟨ρ3, q3, k⟩ := setVS_ks k
      obtain ⟨ρ4, q4, k⟩ := setOS_ks k
      refine ⟨by show 2 ≤ sizeLine; decide, fun p hp => ⟨p, _, rfl, SqT.of upd_same, rfl, v, [.ref a], rfl, .ref a, [], rfl, rfl, ?_⟩⟩
      exact k _ F2 _ (e1.trans e2) (((r2.setV q3 (x1.mono e2)).setO hz q4 x2).junk hp)
end
end
end VS
set_option maxHeartbeats 2000000
namespace VS
open PySem L2 PySem.Spec PyProof.Rows
structure ExK (K : PySem.W.Frag) (C : Addr) : Prop where
  cl : (PySem.W.clsIn K C).isSome = true
  ga : PySem.W.findIn K (.ref C) "__getattribute__" = some (some (.builtin "BaseException.__getattribute__"))
  gg : PySem.W.findIn K (.ref C) "__getattr__" = some none
  be : PySem.W.subIn K (.ref C) (.type "BaseException") = some true
  dc : PySem.W.hasDictIn K C = true
  ca : PySem.W.findIn K (.ref C) "__class__" = some (some (.builtin "object.__class__"))
  cg : PySem.W.specialIn K (.builtin "object.__class__") "__get__" = some (some (.builtin "getset_descriptor.__get__"))
  ct : PySem.W.takesIn K (.builtin "object.__class__") = some true
  ob : PySem.W.mroIn K C (.type "object") = some true
inductive TyZ (K : PySem.W.Frag) (H : Hp) : V → Value → Prop where
  | old {x : V} {t : Value} (h : TyX K H x t) : TyZ K H x t
  | exc {a C : Addr} {d : Option Addr} (e : H a = some (exH a C d)) (k : ExK K C) (dd : ∀ b, d = some b → ∃ fs, H b = some (.xd fs)) : TyZ K H (.ref a) (.ref C)
section
variable {X : Cx} {pins : List (Addr × Obj)} {σ : L2.St} {H : Hp} {s : Shared}
theorem exc_at {a C : Addr} {d : Option Addr} (I : Inv X pins σ H s) (e : H a = some (exH a C d)) (dd : ∀ b, d = some b → ∃ fs, H b = some (.xd fs)) : ∃ o od, PySem.W.InstAt s.heap a o C od ∧ (∀ b fs, d = some b → H b = some (.xd fs) → ∃ ob, od = some ob ∧ ∃ mA, s.heap.Ns1 b mA ∧ (∀ f, RelO (fs.lookup f) (mA f)) ∧ s.heap.get? b = some ob) := by
  obtain ⟨⟨o, at_a, z, vs, flds⟩, _⟩ := (show ObjOk X.prog X.w H s.heap a (exH a C d) from I.hok a _ e)
  cases d with
  | none => exact ⟨o, none, ⟨at_a, z.1, by unfold PySem.W.notCls; rw [flds] <;> rfl, by rw [z.2]; trivial⟩, nofun⟩
  | some b =>
    obtain ⟨fs, at_b⟩ := dd b rfl
    obtain ⟨mA, ns, r⟩ := (show ObjOk X.prog X.w H s.heap b (.xd fs) from I.hok b _ at_b)
    obtain ⟨od, ho, hl⟩ := lookIn_ns ns
    refine ⟨o, some od, ⟨at_a, z.1, by unfold PySem.W.notCls; rw [flds] <;> rfl, by rw [z.2]; exact ho⟩, fun b' fs' eb eh => ?_⟩
    cases eb
    rw [at_b] at eh
    cases eh
    exact ⟨od, rfl, mA, ns, r, ho⟩
theorem kit_ofZ {x : V} {u t : Value} (I : Inv X pins σ H s) (rx : RelV x u) (ty : TyZ X.K H x t) : ∃ P : Heap → Prop, PySem.W.KitX X.K u t P ∧ P s.heap ∧ u ≠ .builtin "__main__.__loader__#opaque" := by
  cases ty with
  | old h => exact kit_of I rx h
  | @exc a C d e k dd =>
    cases (show u = Value.ref a from rx)
    obtain ⟨o, od, at_, _⟩ := exc_at I e dd
    exact ⟨_, PySem.W.kitx_exc k.cl k.ga k.gg k.be k.ca k.cg k.ct k.ob, at_, nofun⟩
def rIsiZ (K : PySem.W.Frag) : List V → Hp → VK → Prop := fun xs H Q => ∃ (x c : V) (t u : Value) (b : Bool), xs = [x, c] ∧ ClsV c u ∧ TyZ K H x t ∧ PySem.W.kitOne K t u = some b ∧ Q (.bl b) H
theorem call_isiZ : CallR X (.builtin "isinstance") (rIsiZ X.K) := by
  rintro pins s σ H _ us Q I r ⟨x, c, t, u, b, rfl, cv, ty, kit, then_⟩
  obtain ⟨u1, u2, rfl, r1, r2⟩ := vals2 r
  obtain rfl := cv.eq r2
  obtain ⟨P, Z, p, ne⟩ := kit_ofZ I r1 ty
  exact PySem.W.kia_one Z I.kIn p kit ne fun tk => ⟨.bl b, H, I.tok tk, rfl, then_⟩
def rIsiTZ (K : PySem.W.Frag) : List V → Hp → VK → Prop := fun xs H Q => ∃ (x : V) (tp : Addr) (cs : List V) (t : Value) (us : List Value) (b : Bool), xs = [x, .ref tp] ∧ H tp = some (.tup cs) ∧ Paired ClsV cs us ∧ TyZ K H x t ∧ PySem.W.kitAny K t us = some b ∧ Q (.bl b) H
theorem call_isiTZ : CallR X (.builtin "isinstance") (rIsiTZ X.K) := by
  rintro pins s σ H _ us Q I r ⟨x, tp, cs, t, ws, b, rfl, at_t, cv, ty, kit, then_⟩
  obtain ⟨u1, u2, rfl, r1, r2⟩ := vals2 r
  cases (show u2 = Value.ref tp from r2)
  obtain ⟨P, Z, p, ne⟩ := kit_ofZ I r1 ty
  obtain ⟨_, its, rv, ⟨oc, od, dt, sl⟩, h1, h2, n, h3⟩ := (show ObjOk X.prog X.w H s.heap tp (.tup cs) from I.hok tp _ at_t)
  obtain rfl := ClsV.all cv rv
  replace h2 : oc = .type "tuple" := h2
  replace h3 : dt = .seq _ n := h3
  subst h2 h3
  exact PySem.W.kia_tup Z I.kIn p h1 kit ne fun tk => ⟨.bl b, H, I.tok tk, rfl, then_⟩
end
def kindOf (es : List Nat) : D → Option (String ⊕ Nat)
  | .exc c _ => if c ∈ es then some (.inr c) else none
  | d => (tyD d).map .inl
def kindV (T : Txt) : String ⊕ Nat → Value
  | .inl n => .type n
  | .inr c => .ref (T.cl c)
abbrev Kinds (K : PySem.W.Frag) (T : Txt) (es : List Nat) : Prop := ∀ c ∈ es, ExK K (T.cl c)
theorem ty_kind {K : PySem.W.Frag} {T : Txt} {es : List Nat} (N : Kinds K T es) {F H : Hp} {d : D} {v : V} {t : String ⊕ Nat} (q : kindOf es d = some t) (e : Ex F H) (r : RepB K T F H d v) : TyZ K H v (kindV T t) := by
  cases d with
  | exc c xs =>
    simp only [kindOf] at q
    split at q
    · next hc =>
      cases q
      have r' : Rep K T F (.exc c xs) v := r
      obtain ⟨a, dd, vs, rfl, h1, h2, _⟩ := r'
      exact .exc (e _ _ h1) (N c hc) fun b hb => ⟨_, e _ _ (h2 b hb)⟩
    · cases q
  | _ =>
    simp only [kindOf, tyD, Option.map_some, Option.map_none, Option.some.injEq, reduceCtorEq] at q
    try subst q
    try exact .old (ty_of rfl e r)
structure IsaV (K : PySem.W.Frag) (T : Txt) (c : V) (f : String ⊕ Nat → Option Bool) : Prop where
  ex : ∃ u, ClsV c u ∧ ∀ t b, f t = some b → PySem.W.kitOne K (kindV T t) u = some b
def isaD (es : List Nat) (f : String ⊕ Nat → Option Bool) (d : D) : Option Bool := (kindOf es d).bind f
section
variable {T : Txt} {X : Cx} {W : WX} {a b : Expr} {pos p : Pos}
theorem je_isa {es : List Nat} {cv : V} {f : String ⊕ Nat → Option Bool} {g : Ev D} (N : Kinds X.K T es) (hf : IsaV X.K T cv f) (hm : X.mg "isinstance" = none) (ha : JB T X W a g) (hb : PE X b (tC cv)) (hg : Gl X "isinstance" := by rfl)
    (hs : starEach [a, b] X.env = (false, eval a X.env) :: starEach [b] X.env := by rfl) (hs2 : starEach [b] X.env = (false, eval b X.env) :: starEach [] X.env := by rfl) (hp : (backTo pos (starEach [b] X.env)).any (·.1) = false := by rfl) :
    JE T X W (.Call (.Name "isinstance" p) [a, b] [] pos) (mIsi (isaD es f) g) := fun ρ => by
  have p1 := ha ρ
  have rule : ∀ ta, PE X a ta → PE X (.Call (.Name "isinstance" p) [a, b] [] pos) (tCB (rIsiZ X.K) (tCons ta (tCons (tC cv) tNil))) := fun ta h => pe_callB call_isiZ hg hm (by decide +kernel) (pa_cons h (pa_cons hb pa_nil hs2) hs) (by decide) (by decide) hs hp
  unfold mIsi
  cases q1 : g ρ with
  | stuck => exact pe_no
  | ex c ds ρ1 => rw [q1] at p1; exact pe_weak (rule _ p1) fun σ H Q q => q
  | ok d ρ1 =>
    rw [q1] at p1
    simp only [R.bind_ok]
    cases q2 : isaD es f d with
    | none => exact pe_no
    | some z =>
      obtain ⟨u, cu, fu⟩ := hf.ex
      cases q3 : kindOf es d with
      | none => rw [isaD, q3] at q2; cases q2
      | some t =>
        rw [isaD, q3] at q2
        refine pe_weak (rule _ p1) fun σ H Q ⟨F, Z, L, r, k⟩ => ⟨F, Z, L, r, fun v F1 H1 e1 r1 x1 => ?_⟩
        exact ⟨v, cv, _, u, z, rfl, cu, ty_kind N q3 r1.exF x1, fu t z q2, k _ F1 H1 e1 r1 rfl⟩
def tXfd (K : PySem.W.Frag) (f : Str) (te : TE) : TE := fun σ H Q => te σ H fun x H1 => ∃ a C b fs v, x = .ref a ∧ H1 a = some (exH a C (some b)) ∧ ExK K C ∧ PySem.W.findIn K (.ref C) f = some none ∧ H1 b = some (.xd fs) ∧ fs.lookup f = some v ∧ Q v H1
theorem pe_xfd {e : Expr} {f : Str} {te : TE} (he : PE X e te) (hb : attributeBase e f X.env (eval e X.env) = eval e X.env := by rfl) : PE X (.Attribute e f pos) (tXfd X.K f te) := by
  refine ⟨fun pins s σ H Q I h => attr_of hb (thn (he.run pins s σ H _ I h) ?_)⟩
  rintro _ s1 ⟨_, H1, J, rel, a, C, b, fs, v, rfl, at_a, k, no, at_b, look, then_⟩
  cases rel
  obtain ⟨o, od, inst, more⟩ := exc_at J at_a fun c hc => by cases hc; exact ⟨_, at_b⟩
  obtain ⟨ob, rfl, mA, ns, r, at_ob⟩ := more b fs rfl at_b
  obtain ⟨od', ho, hl⟩ := lookIn_ns ns
  rw [at_ob, Option.some.injEq] at ho
  subst ho
  obtain ⟨u, hu, ru⟩ := RelO.some_of (v := v) (o := mA f) (by rw [← look]; exact r f)
  exact HandSPX.exc_get J.kIn inst k.ga k.gg k.be (PySem.W.findObj_own k.dc no rfl (by rw [hl, hu])) (handed_of ru) ⟨v, H1, J.tok _, ru, then_⟩
def xfdD (cs : List Nat) (i : Nat) : D → Option D
  | .exc c xs => if c ∈ cs then xs[i]? else none
  | _ => none
theorem je_xfd {e : Expr} {f : Str} {g : Ev D} {cs : List Nat} {i : Nat} (N : Kinds X.K T cs) (hc : ∀ c ∈ cs, (T.fl c).Nodup ∧ (T.fl c)[i]? = some f ∧ PySem.W.findIn X.K (.ref (T.cl c)) f = some none) (ha : JE T X W e g) (hb : attributeBase e f X.env (eval e X.env) = eval e X.env := by rfl) :
    JE T X W (.Attribute e f pos) (mCall1 (xfdD cs i) g) := fun ρ => by
  have p1 := ha ρ
  unfold mCall1
  cases q1 : g ρ with
  | stuck => exact pe_no
  | ex c ds ρ1 => rw [q1] at p1; exact pe_weak (pe_xfd p1 hb) fun σ H Q q => q
  | ok d ρ1 =>
    rw [q1] at p1
    simp only [R.bind_ok]
    cases q2 : xfdD cs i d with
    | none => exact pe_no
    | some z =>
      cases d with
      | exc c xs =>
        simp only [xfdD] at q2
        split at q2
        · rename_i hm
          obtain ⟨nd, at_i, no⟩ := hc c hm
          refine pe_weak (pe_xfd p1 hb) fun σ H Q ⟨F, Z, L, r, k⟩ => ⟨F, Z, L, r, fun v F1 H1 e1 r1 x1 => ?_⟩
          have ek := N c hm
          obtain ⟨a, dd, vs, rfl, h1, h2, h3, rr⟩ := x1
          obtain ⟨u, hu, ru⟩ := rr.get q2
          cases dd with
          | none => rw [h3 rfl] at hu; simp at hu
          | some b => exact ⟨a, _, b, _, u, rfl, r1.exF _ _ h1, ek, no, r1.exF _ _ (h2 b rfl), zip_lookup nd at_i hu, k _ F1 H1 e1 r1 ru⟩
        · cases q2
      | _ => simp [xfdD] at q2
end
end VS
set_option maxHeartbeats 2000000
namespace VS
open PySem L2 PySem.Spec PyProof.Rows
def oexB (K : PySem.W.Frag) (C : Addr) : Bool := match K.lookup C with
  | some ⟨.type "type", _, .cls r, sl⟩ =>
    (match r.mro, sl.toList with
    | .ref B :: up, [_, _, _, _, some (.builtin b), _] => decide (B = C) && (decide (b = "ValueError.__new__") && ((!r.hasDel) && (r.hasDict && HandSPX.refsVE up)))
    | _, _ => false)
  | _ => false
theorem oexB_ok {K : PySem.W.Frag} {C : Addr} (h : oexB K C = true) : ∃ nm q N bs bm sn sub ab col dd k0 k1 k2 k3 k5, K.lookup C = some (excClassObj nm q C N bs bm true sn sub ab col dd k0 k1 k2 k3 k5 "ValueError.__new__") ∧ HandSPX.refsVE bm = true := by
  unfold oexB at h
  split at h
  · next dd r sl at_ =>
    split at h
    · next B up w0 w1 w2 w3 b w5 em es =>
      simp only [Bool.and_eq_true, decide_eq_true_eq, Bool.not_eq_true'] at h
      obtain ⟨eB, eb, nd, hd, tail⟩ := h
      rcases r with ⟨nm, bs, mro, ns, qn, dct, sn, sub, ab, col, del⟩
      have e0 : mro = .ref B :: up := em
      have e1 : del = false := nd
      have e2 : dct = true := hd
      have e3 : sl = #[w0, w1, w2, w3, some (.builtin b), w5] := by
        cases sl
        exact congrArg Array.mk es
      subst e0 e1 e2 e3 eB eb
      exact ⟨nm, qn, ns, bs, up, sn, sub, ab, col, dd, w0, w1, w2, w3, w5, at_, tail⟩
    · cases h
  · cases h
def oexAll (K : PySem.W.Frag) (C : Addr) : Bool := oexB K C && (decide (PySem.W.findIn K (.ref C) "__setattr__" = some (some (.builtin "object.__setattr__"))) && (decide (PySem.W.subIn K (.ref C) (.type "BaseException") = some true) && (decide (PySem.W.typeIn K (.ref C) = some (.type "type")) && PySem.W.keepIn K (.ref C))))
theorem oexAll_ok {K : PySem.W.Frag} {C : Addr} (h : oexAll K C = true) : OexC K C := by
  unfold oexAll at h
  simp only [Bool.and_eq_true, decide_eq_true_eq] at h
  exact ⟨oexB_ok h.1, h.2.1, h.2.2.1, h.2.2.2.1, h.2.2.2.2⟩
def upB (K : PySem.W.Frag) (B : Addr) : Bool := PySem.W.readsIn K B (.type "type") && (decide (PySem.W.specialIn K (.ref B) "__getattribute__" = some (some (.builtin "type.__getattribute__"))) && (match PySem.W.findCls K (.ref B) (.type "type") "__init__" with
  | some (.val (.builtin b)) => decide (b = "ValueError.__init__")
  | _ => false))
section
variable {X : Cx} {x : Str} {B : Addr} {e : Expr} {es : List Expr} {ta : TA} {p1 p2 pos : Pos}
theorem pe_upInit {sb : Sem Bool} (known : upB X.K B = true) (hg : Gl X x) (hm : X.mg x = some (.ref B)) (ha : PA X (e :: es) ta)
    (shape : eval (.Call (.Attribute (.Name x p1) "__init__" p2) (e :: es) [] pos) X.env = (do
      let o ← eval (.Name x p1) X.env
      standAt p2.atName
      let (g, more) ← holding [o] (getMethod o "__init__" sb)
      callWith pos g more (backTo pos (starEach (e :: es) X.env)) (backToKw pos (keywordEach [] X.env))) := by rfl)
    (h1 : starEach (e :: es) X.env = (false, eval e X.env) :: starEach es X.env := by rfl) (h2 : (backTo pos (starEach es X.env)).any (·.1) = false := by rfl) (hdb : (x == ("__debug__" : Str)) = false := by decide) :
    PE X (.Call (.Attribute (.Name x p1) "__init__" p2) (e :: es) [] pos) (tVeI X.K ta) := by
  unfold upB at known
  simp only [Bool.and_eq_true, decide_eq_true_eq] at known
  obtain ⟨rd, sg, fd0⟩ := known
  have fd : PySem.W.findCls X.K (.ref B) (.type "type") "__init__" = some (.val (.builtin "ValueError.__init__")) := by
    split at fd0
    · next b eb => rw [eb, of_decide_eq_true fd0]
    · cases fd0
  constructor
  intro pins st σ H Q inv want
  refine PySem.W.methodCall_KW (ld_glob inv hg hm ?_ hdb) shape
  refine PySem.W.method_cls inv.kIn sg (PySem.W.cls_value inv.kIn rd fd (by decide +kernel) ?_)
  show wpAny _ _ (callWith pos (Value.builtin "ValueError.__init__") [] (backTo pos (starEach (e :: es) X.env)) []) _ _ _
  refine PyProof.Rows.callWith_method1 (thn (ha.run pos pins _ σ H _ (inv.tok _) want) ?_) h1 h2
  rintro us st1 ⟨vs, G, inv1, rel, a, C, ws, rfl, short, isC, at_a, next_⟩
  cases rel with
  | @cons _ u _ us' r rs =>
    cases (show u = Value.ref a from r)
    refine oinit_ok isC inv1 at_a ?_ fun st2 inv2 => ⟨.non, G, inv2, rfl, next_⟩
    have := Paired.length rs
    rw [sizeLine_eq]
    omega
end
def spI (C : Addr) (f : Str) : Sp := fun vs H Q _ => ∃ a y, vs = [.ref a, y] ∧ H a = some (exo a C none) ∧ ∀ dx, H dx = none → dx ≠ a → Q .non (upd (upd H dx (exd dx [(f, y)])) a (exo a C (some dx)))
theorem init_rows {K : PySem.W.Frag} {C : Addr} {f t : Str} {vs : List V} {H : Hp} {Q : VK} {E : XK} {N : List Str} (isC : OexC K C) (no : PySem.W.findIn K (.ref C) f = some none) (hN : N.length = 2) (h : spI C f vs H Q E) :
    tSeq (tDrop (tVeI K (tCons (tVar 0) (tCons (tC (.str t)) tNil)))) (tSeq (tOst K f (tVar 0) (tVar 1)) tNext) { nx := fun _ G => Q .non G, rt := Q } (L2.start N vs) H := by
  obtain ⟨a, y, rfl, at_a, go⟩ := h
  obtain ⟨n0, n1, rfl⟩ : ∃ n0 n1, N = [n0, n1] := by
    match N, hN with
    | [n0, n1], _ => exact ⟨n0, n1, rfl⟩
  refine ⟨.ref a, rfl, a, C, [.str t], rfl, by simp, isC, at_a, ?_⟩
  exact ⟨y, rfl, .ref a, rfl, a, C, rfl, isC, no, .inl ⟨at_a, fun dx n ne => go dx n ne⟩⟩
structure CalX (P : Program) (w : World) (K : PySem.W.Frag) (mg : Str → Option Value) (base : Heap) (T : Txt) (k : Nat) (x : Str) (c : Nat) (f : Str) : Prop where
  ex : ∃ g fd ps, FnOk P w K mg base CX0 k g fd ps (spI (T.cl c) f) ∧ mg x = some (.ref (T.cl c)) ∧ OexC K (T.cl c) ∧ PySem.W.findIn K (.ref (T.cl c)) "__init__" = some (some (.ref g)) ∧ PySem.W.typeIn K (.ref g) = some (.type "function") ∧ Binds K fd ps [] ∧ T.fl c = [f]
def mRaise1 (c : Nat) (g : Ev D) : VEnv → RS := fun ρ => match g ρ with
  | .ok d ρ1 => .ex c [d] ρ1
  | .ex c' ds ρ1 => .ex c' ds ρ1
  | .stuck => .stuck
section
variable {T : Txt} {X : Cx} {W : WX} {a : Expr} {x f : Str} {c k : Nat} {p pos pos' : Pos}
theorem js_raise1 {g : Ev D} (h : CalX X.prog X.w X.K X.mg X.base T k x c f) (calm : X.calm = true) (hr : Room (k + 1) X.A) (tk : Takes X W) (ha : JE T X W a g) (hg : Gl X x := by rfl) (hdb : (x == ("__debug__" : Str)) = false := by decide)
    (h1 : starEach [a] X.env = (false, eval a X.env) :: starEach [] X.env := by rfl) (h2 : (backTo pos (starEach [] X.env)).any (·.1) = false := by rfl) : JS T X W (.Raise (some (.Call (.Name x p) [a] [] pos)) none pos') (mRaise1 c g) := fun ρ => by
  obtain ⟨q, fd, ps, hF, hm, isC, at_i, fn_i, hb, fl⟩ := h.ex
  have made : ∀ ta, PE X a ta → PS X (.Raise (some (.Call (.Name x p) [a] [] pos)) none pos') (fun _ σ H => tMkO (T.cl c) (spI (T.cl c) f) [] (tCons ta tNil) σ H fun cls d H' => W cls d σ H') :=
    fun ta h => ps_raise calm tk (pmk_oex isC at_i fn_i hF hr hb .nil pass0 hg hm (pa_cons h pa_nil h1) hdb h1 h2)
  have p1 := ha ρ
  unfold mRaise1
  cases q1 : g ρ with
  | stuck => exact ⟨fun _ _ _ _ _ _ ⟨_, _, _, _, z⟩ => z.elim⟩
  | ex c' ds ρ1 =>
    rw [q1] at p1
    exact ps_weak (made _ p1) fun N σ H ⟨F, Z, L, r, k⟩ => ⟨F, Z, L, r, fun cls dd F' H' e r' x' => k cls dd σ F' H' e r' x'⟩
  | ok d ρ1 =>
    rw [q1] at p1
    refine ps_weak (made _ p1) fun N σ H ⟨F, Z, L, r, kk⟩ => ⟨F, Z, L, r, fun v F1 H1 e1 r1 rp => ⟨by simp, fun b nb => ?_⟩⟩
    refine ⟨b, v, rfl, upd_same, fun dx n ne => ⟨rfl, dx, [(f, v)], upd_same, by rw [upd_ne ne, upd_same], ?_, ?_⟩⟩
    · rw [upd_ne ne] at n; exact n
    · rw [upd_ne ne] at n
      have same : upd (del (upd (upd (upd H1 b (exo b (T.cl c) none)) dx (exd dx [(f, v)])) b (exo b (T.cl c) (some dx))) b) dx (.xd [(f, v)]) = upd H1 dx (.xd [(f, v)]) := by
        funext z
        by_cases h3 : z = dx
        · rw [h3, upd_same, upd_same]
        · rw [upd_ne h3, upd_ne h3]
          by_cases h4 : z = b
          · rw [h4, del_same, nb]
          · rw [del_ne h4, upd_ne h4, upd_ne h3, upd_ne h4]
      rw [same]
      refine kk (.ref (T.cl c)) (some dx) σ _ _ (e1.trans (Ex.new (r1.exF.none n))) (r1.new n) ⟨rfl, [v], fun d' ed => ?_, nofun, .cons (rp.mono (Ex.new (r1.exF.none n))) .nil⟩
      cases ed
      rw [upd_same, fl]; rfl
end
end VS
set_option maxHeartbeats 2000000
namespace VS
open PySem L2 PySem.Spec PyProof.Rows
section
variable {X : Cx} {pins : List (Addr × Obj)} {σ : L2.St} {H : Hp} {st : Shared} {a C : Addr} {oe : Obj} {d : Option Addr}
theorem track (I : Inv X ((a, oe) :: pins) σ H st) (new0 : X.s_0.heap.get? a = none) (other : ∀ p ∈ X.pn ++ pins, p.1 ≠ a) (z : Zc (.ref C) d oe) (rec_ : ∃ vs, oe.data = .fields vs) :
    Inv X pins σ (upd H a (exH a C d)) st := by
  obtain ⟨at_a, none_a, notL, notF, notC⟩ := I.pin (a, oe) (by simp)
  have keep : ∀ {b u}, H b = some u → upd H a (exH a C d) b = some u := fun {b u} q => by rw [upd_ne (ne_of_none q none_a)]; exact q
  have off : ∀ {b}, b ≠ a → H b = none → upd H a (exH a C d) b = none := fun {b} ne q => by rw [upd_ne ne]; exact q
  constructor
  · exact I.ok
  · exact I.os
  · exact I.bare
  · refine ⟨I.base.keep, I.base.slot, fun b o q n x => ?_, I.base.there, fun b xs q => keep (I.base.tups b xs q), fun b o u q => keep (I.base.frzs b o u q), fun b ps q => ?_⟩
    · refine off (fun e => ?_) (I.base.free b o q n x)
      rw [e, new0] at q
      cases q
    · obtain ⟨more, q2⟩ := I.base.tbls b ps q
      exact ⟨more, keep q2⟩
  · exact I.loc
  · exact I.cell
  · exact off (Ne.symm notL) I.free
  · intro y c q
    refine off (fun e => ?_) (I.freeC y c q)
    obtain ⟨v, hv⟩ := I.cell y c q
    obtain ⟨o, e1, e2⟩ := hv
    rw [e, at_a] at e1
    cases e1
    exact notC v e2
  · intro p hp
    obtain ⟨p1, p2, p3⟩ := I.pin p (by
      rcases List.mem_append.mp hp with q | q
      · exact List.mem_append_left _ q
      · exact List.mem_append_right _ (List.mem_cons_of_mem _ q))
    exact ⟨p1, off (other p hp) p2, p3⟩
  · intro b u q
    by_cases e : b = a
    · subst e
      rw [upd_same] at q
      cases q
      exact ⟨⟨oe, at_a, z, rec_⟩, ⟨oe, at_a⟩, fun g1 g2 ⟨o, q1, q2⟩ more => ⟨o, more o q1, q2⟩⟩
    · rw [upd_ne e] at q
      exact (I.hok b u q).stay (fun _ _ _ q => q) (fun _ q => keep q) fun _ _ q => keep q
  · exact I.len
end
end VS
set_option maxHeartbeats 2000000
namespace VS
open PySem L2 PySem.Spec PyProof.Rows
theorem grow_of {K : PySem.W.Frag} {T : Txt} {F H F' H' : Hp} (e : Ex F F') (h1 : Ex F' H') (h2 : ∀ a o, F a = none → H a = some o → H' a = some o) (h3 : ∀ a o u, F a = none → H a = some o → F' a = some u → False) : Grow K T F H F' H' := by
  refine ⟨e, fun Z L σ ρ r => ?_⟩
  have out : ∀ {a o}, Z a = some o → F a = none := fun {a o} q => by
    cases g : F a with
    | none => rfl
    | some u => rw [r.dis a u g] at q; cases q
  refine ⟨h1, fun a o q => h2 a o (out q) (r.exZ a o q), fun a u q => ?_, r.len, fun i d q => ?_, fun i l m q => ?_, r.sep, r.lent, r.bxH e fun a u g1 g2 g3 => ⟨?_, g2, h2 a u g1 g3⟩⟩
  · cases g : Z a with
    | none => rfl
    | some o => exact (h3 a o u (out g) (r.exZ a o g) q).elim
  · obtain ⟨v, g1, g2⟩ := r.val i d q
    exact ⟨v, g1, g2.mono e⟩
  · obtain ⟨a, o, g1, g2, g3, g4, g5⟩ := r.own i l m q
    refine ⟨a, o, g1, ?_, g3, h2 a o g2 g4, g5.mono e⟩
    cases g : F' a with
    | none => rfl
    | some u => exact (h3 a o u g2 g4 g).elim
  · cases g : F' a with
    | none => rfl
    | some u' => exact (h3 a u u' g1 g3 g).elim
noncomputable def rest (F H : Hp) : Hp := fun a => match F a with
  | some _ => none
  | none => H a
theorem spG_pure {K : PySem.W.Frag} {T : Txt} {G : Fn} {ds : List D} {vs : List V} {z : D} {F H : Hp} {Q : VK} {E : XK} (e : Ex F H) (r : Reps K T F ds vs) (h : G (ds.map Arg.v) = some (.ok z, []))
    (k : ∀ u F' H', Grow K T F H F' H' → Rep K T F' z u → Q u H') : spG K T G ds.length vs H Q E := by
  refine ⟨F, rest F H, ds.map Arg.v, .ok z, [], r.length, ?_, h, fun u F' H' e' r' p => k u F' H' (grow_of e' r'.exF (fun a o q1 q2 => r'.exZ a o ?_) fun a o u q1 q2 q3 => ?_) p⟩
  · have own0 : ∀ (i : Nat) (l : Bool) (m : MO), ¬ ((ds.map Arg.v).map slotOf)[i]? = some (some (Sl.own l m)) := fun i l m q => by
      rw [List.map_map, List.getElem?_map] at q
      cases g : ds[i]? with
      | none => rw [g] at q; cases q
      | some d => rw [g] at q; simp [slotOf] at q
    refine ⟨e, fun a o q => ?_, fun a o q => ?_, by simp [r.length], fun i d q => ?_, fun i l m q => (own0 i l m q).elim, fun i j l m l' m' a q => (own0 i l m q).elim, fun i a q => ?_, ⟨fun i k io b ⟨l, c, fs, a, o, h1, _⟩ => (own0 i l _ h1).elim, fun i k io b j l m ⟨l', c, fs, a, o, h1, _⟩ => (own0 i l' _ h1).elim, fun i k io b j k' io' ⟨l', c, fs, a, o, h1, _⟩ => (own0 i l' _ h1).elim⟩⟩
    · unfold rest at q
      split at q
      · cases q
      · exact q
    · unfold rest; rw [q]
    · rw [List.map_map, List.getElem?_map] at q
      cases g : ds[i]? with
      | none => rw [g] at q; cases q
      | some d' =>
        rw [g] at q
        simp [slotOf] at q
        subst q
        obtain ⟨v, g1, g2⟩ := r.get g
        exact ⟨v, by rw [List.getElem?_map, g1]; rfl, g2⟩
    · simp only [lentOf, List.getElem?_map] at q
      cases g : ds[i]? with
      | none => rw [g] at q; cases q
      | some d => rw [g] at q; cases q
  · unfold rest; rw [q1]; exact q2
  · have := r'.dis a u q3
    unfold rest at this
    rw [q1, q2] at this
    cases this
section
variable {T : Txt} {X : Cx} {W : WX} {K : PySem.W.Frag} {k : Nat} {f C : Addr} {fd : FuncData} {ps : List Str} {sp : Sp} {e a b : Expr} {es : List Expr} {pos p : Pos} {c : Nat} {G : Fn}
theorem callG_at {A : Around} {pins : List (Addr × Obj)} {σ : L2.St} {H : Hp} {s : Shared} {Q : VK} {us : List Value} {vs : List V} (G : FnG X.prog X.w X.K X.mg X.base k f fd ps sp) (hA : A.guards = some []) (sb : Sub X k A) (hb : Binds X.K fd ps [])
    (I : Inv X pins σ H s) (r : Vals vs us) (h : sp vs H Q fun _ _ _ => False) : wpAny (model X.prog X.w) A (call (.ref f) us) (EP X pins σ Q) X.xe s := by
  have e0 : Env0 X.prog X.w X.K X.mg X.base A X.stack s H := by
    have e := I.env0
    exact ⟨by rw [sb.fr]; exact e.frames, e.mod, e.bs, e.bsz, e.funs, e.frf, e.hok, e.bare⟩
  have hl : us.length = ps.length := r.length.symm.trans (G.len h)
  have hb' := hb s us I.kIn (by simpa using hl)
  refine wpAny_call (codeAny_mono (G.run (args := ⟨us, []⟩) (us := us) hA sb.room e0 (by simpa using hb') r h) ?_)
  intro z s2 hz
  cases z with
  | error u =>
    obtain ⟨_, _, _, _, _, _, _, _, _, _, _, _, z⟩ := hz
    exact z.elim
  | ok fl =>
    cases fl with
    | ret u => exact I.after hz
    | next => exact hz.elim
    | brk => exact hz.elim
    | cont => exact hz.elim
def rSp (C : Addr) (sp : Sp) (R : V → (V → Prop) → Prop) : List V → Hp → VK → Prop := fun xs H Q => ∃ a dx fs, xs = [.ref a] ∧ H a = some (.ins C dx fs) ∧ sp [.ref a] H (fun v H' => R v fun u => Q u H') fun _ _ _ => False
def RLen (v : V) (q : V → Prop) : Prop := ∃ n : Int, v = .int n ∧ 0 ≤ n ∧ n < 2 ^ 63 ∧ q (.int n)
theorem call_lenI (M : Meth X.K C "__len__" f) (G : FnG X.prog X.w X.K X.mg X.base k f fd ps sp) (hA : X.A.guards = some []) (hr : Room (k + 1) X.A) (hb : Binds X.K fd ps []) : CallR X (.builtin "len") (rSp C sp RLen) := by
  intro pins s σ H xs us Q I rs h
  obtain ⟨a, dx, fs, rfl, ha, h⟩ := h
  obtain rfl := Vals.ref1 rs
  obtain ⟨mA, J, _⟩ := ins_get I.hok ha
  obtain ⟨od, J, _⟩ := J.look
  obtain ⟨m, hF⟩ := I.fr
  refine PySem.W.len_K hF I.ok.mod.kin J M.at_ M.fn (wpAny_mono (callG_at (A := X.A.in1) G hA ⟨hr.in1, rfl⟩ hb I rs h) (fun u s' z => ?_) fun _ _ z => z)
  obtain ⟨v, H', I', rv, n, rfl, h0, h1, q⟩ := z
  obtain ⟨t, rfl⟩ := rv
  exact ⟨⟨h0, h1⟩, .int n, H', I'.tok _, ⟨_, rfl⟩, q⟩
end
end VS
set_option maxHeartbeats 2000000
set_option maxHeartbeats 2000000
namespace VS
open PySem L2 PySem.Spec PyProof.Rows
structure SpF (K : PySem.W.Frag) (T : Txt) (c : Nat) : Prop where
  ne : PySem.W.findIn K (.ref (T.cl c)) "__ne__" = some (some (.builtin "object.__ne__"))
  nb : PySem.W.findIn K (.ref (T.cl c)) "__bool__" = some none
  ob : PySem.W.mroIn K (T.cl c) (.type "object") = some true
def said (G : Fn) (ds : List D) : Option D := match G (ds.map Arg.v) with
  | some (.ok z, []) => some z
  | _ => none
theorem said_eq {G : Fn} {ds : List D} {z : D} (h : said G ds = some z) : G (ds.map Arg.v) = some (.ok z, []) := by
  unfold said at h
  split at h
  · rename_i q; cases h; exact q
  · cases h
def lenI (c : Nat) (G : Fn) (d : D) : Option D := match d with
  | .ins c' xs => if c' = c then (match said G [.ins c' xs] with
    | some (.int n) => if 0 ≤ n ∧ n < 2 ^ 63 then some (.int n) else none
    | _ => none) else none
  | d => lenD d
section
variable {T : Txt} {X : Cx} {W : WX} {K : PySem.W.Frag} {k : Nat} {e a b : Expr} {es : List Expr} {pos p : Pos} {c : Nat} {G : Fn} {ps : List Str}
def CallE (K : PySem.W.Frag) (T : Txt) (r : List V → Hp → VK → Prop) (f : D → Option D) : Prop := ∀ d z, f d = some z → ∀ F H v Q, Ex F H → Rep K T F d v → (∀ u F' H', Grow K T F H F' H' → Rep K T F' z u → Q u H') → r [v] H Q
theorem callE_of {r : List V → Hp → VK → Prop} {f : D → Option D} (h : CallV1 K T r f) : CallE K T r f := fun d z q F H v Q e r k => h d z q F H v Q e (r.b e) k
theorem je_call1E {r : List V → Hp → VK → Prop} {f : D → Option D} {g : Ev D} (rule : ∀ ta, PA X [a] ta → PE X e (tCB r ta)) (hr : CallE X.K T r f) (ha : JE T X W a g) (hs : starEach [a] X.env = (false, eval a X.env) :: starEach [] X.env := by rfl) : JE T X W e (mCall1 f g) := fun ρ => by
  have p1 := ha ρ
  unfold mCall1
  cases q1 : g ρ with
  | stuck => exact pe_no
  | ex c ds ρ1 => rw [q1] at p1; exact pe_weak (rule _ (pa_cons p1 pa_nil hs)) fun σ H Q q => q
  | ok d ρ1 =>
    rw [q1] at p1
    simp only [R.bind_ok]
    cases q2 : f d with
    | none => exact pe_no
    | some z => exact pe_weak (rule _ (pa_cons p1 pa_nil hs)) fun σ H Q ⟨F, Z, L, r, k⟩ => ⟨F, Z, L, r, fun v F1 H1 e1 r1 x1 => hr d z q2 F1 H1 v Q r1.exF x1 fun u F2 H2 g x2 => k u F2 H2 (e1.trans g.1) (g.2 _ _ _ _ r1) x2⟩
theorem rsp_of {R : V → (V → Prop) → Prop} {F H : Hp} {v : V} {Q : VK} {xs : List D} {z z' : D} (e : Ex F H) (r : Rep K T F (.ins c xs) v) (h : said G [.ins c xs] = some z) (conv : ∀ u F' (q : V → Prop), Rep K T F' z u → (∀ u', Rep K T F' z' u' → q u') → R u q)
    (k : ∀ u F' H', Grow K T F H F' H' → Rep K T F' z' u → Q u H') : rSp (T.cl c) (spG K T G 1) R [v] H Q := by
  obtain ⟨a, dx, vs, rfl, h1, h2, h3⟩ := id r
  exact ⟨a, dx, _, rfl, e _ _ h1, spG_pure (ds := [.ins c xs]) e (Reps.one r) (said_eq h) fun u F' H' g p => conv u F' _ p fun u' p' => k u' F' H' g p'⟩
theorem callE_len : CallE K T (fun xs H Q => rLenA K xs H Q ∨ rSp (T.cl c) (spG K T G 1) RLen xs H Q) (lenI c G) := by
  intro d z h F H v Q e r k
  unfold lenI at h
  split at h
  · split at h
    · rename_i c' xs hc
      subst hc
      split at h
      · rename_i n q
        split at h
        · rename_i hn
          cases h
          refine .inr (rsp_of (z := .int n) (z' := .int n) e r q (fun u F' q1 p hq => ?_) k)
          obtain rfl : u = .int n := p
          exact ⟨n, rfl, hn.1, hn.2, hq _ rfl⟩
        · cases h
      · cases h
    · cases h
  · exact .inl (callE_of callv_len d z h F H v Q e r k)
theorem je_lenI {g : Ev D} (M : CalM X.prog X.w X.K X.mg X.base T k c "__len__" G ps) (hA : X.A.guards = some []) (hr : Room (k + 1) X.A) (hm : X.mg "len" = none) (ha : JE T X W a g) (hn : ps.length = 1 := by rfl) (hg : Gl X "len" := by rfl) (hs : starEach [a] X.env = (false, eval a X.env) :: starEach [] X.env := by rfl) :
    JE T X W (.Call (.Name "len" p) [a] [] pos) (mCall1 (lenI c G) g) := by
  obtain ⟨f, fd, hG, hM, hb⟩ := M.ex
  rw [hn] at hG
  exact je_call1E (fun _ h => pe_callB (callr_or call_lenA (call_lenI hM hG hA hr hb)) hg hm (by decide +kernel) h (by decide) (by decide) hs rfl) callE_len ha hs
end
end VS
set_option maxHeartbeats 2000000
namespace VS
open PySem L2 PySem.Spec PyProof.Rows
section
variable {T : Txt} {X : Cx} {W : WX} {K : PySem.W.Frag} {st : Stmt} {e a b : Expr} {es : List Expr} {pos p apos : Pos}
def splitD (x y : D) : Option D := match x, y with
  | .str u, .str v => if (v.length == 0) = false ∧ u.length + 2 ≤ lim then some (.lst ((PySem.Txt.split u v).map D.str)) else none
  | _, _ => none
def isStrR (g : Ev D) : Ev D := fun ρ => (g ρ).bind fun d ρ1 => match d with
  | .str u => .ok (.str u) ρ1
  | _ => .stuck
theorem je_split {ga gb : Ev D} (ha : JE T X W a ga) (hb : JE T X W b gb) (hs : starEach [b] X.env = [(false, eval b X.env)] := by rfl) (hbase : attributeBase a "split" X.env (eval a X.env) = eval a X.env := by rfl) (hline : (apos.endLine == pos.line) = true := by rfl) :
    JE T X W (.Call (.Attribute a "split" apos) [b] [] pos) (mOp splitD (isStrR ga) gb) := fun ρ => by
  have p1 := ha ρ
  unfold mOp isStrR
  cases q1 : ga ρ with
  | stuck => exact pe_no
  | ex c ds ρ1 => rw [q1] at p1; exact pe_weak (pe_split p1 (te := fun _ _ _ => False) pe_no hs hbase hline) fun σ H Q q => q
  | ok x ρ1 =>
    rw [q1] at p1
    simp only [R.bind_ok]
    cases x with
    | str u =>
      simp only [R.bind_ok]
      have p2 := hb ρ1
      cases q2 : gb ρ1 with
      | stuck => exact pe_no
      | ex c ds ρ2 =>
        rw [q2] at p2
        refine pe_weak (pe_split p1 p2 hs hbase hline) fun σ H Q ⟨F, Z, L, r, k⟩ => ⟨F, Z, L, r, fun v F1 H1 e1 r1 x1 => ⟨⟨u, x1⟩, F1, Z, L, r1, fun cls dd F2 H2 e2 r2 x2 => k cls dd F2 H2 (e1.trans e2) r2 x2⟩⟩
      | ok y ρ2 =>
        rw [q2] at p2
        simp only [R.bind_ok]
        cases q3 : splitD (.str u) y with
        | none => exact pe_no
        | some z =>
          refine pe_weak (pe_split p1 p2 hs hbase hline) fun σ H Q ⟨F, Z, L, r, k⟩ => ⟨F, Z, L, r, fun v F1 H1 e1 r1 x1 => ⟨⟨u, x1⟩, F1, Z, L, r1, fun w F2 H2 e2 r2 x2 => ?_⟩⟩
          cases y with
          | str s =>
            simp only [splitD] at q3
            split at q3
            · rename_i hz
              cases q3
              refine ⟨u, s, x1, by rw [show w = _ from x2], hz.1, le_line hz.2, fun p hp => ?_⟩
              exact k (.ref p) _ _ ((e1.trans e2).trans (Ex.new (r2.exF.none hp))) (r2.new hp) ⟨p, _, rfl, upd_same, reps_strs _⟩
            · cases q3
          | _ => simp [splitD] at q3
    | _ => exact pe_no
def intSD (d : D) : Option D := match d with
  | .str u => if u.length ≤ 640 then (PySem.intText? u).map D.int else none
  | d => int1D d
theorem je_intS {g : Ev D} (hm : X.mg "int" = none) (ha : JB T X W a g) (hg : Gl X "int" := by rfl) (hs : starEach [a] X.env = (false, eval a X.env) :: starEach [] X.env := by rfl) : JE T X W (.Call (.Name "int" p) [a] [] pos) (mCall1 intSD g) := by
  refine je_call1 (fun _ h => pe_callTy (callr_or call_int_str call_int1) hg hm (by decide +kernel) h (by decide) (by decide) hs rfl) ?_ ha hs
  intro d z h F H v Q e r k
  by_cases hs : ∃ u, d = .str u
  · obtain ⟨u, rfl⟩ := hs
    simp only [intSD] at h
    split at h
    · rename_i hz
      cases q : PySem.intText? u with
      | none => rw [q] at h; cases h
      | some n =>
        rw [q] at h
        cases h
        obtain rfl : v = .str u := r
        exact .inl ⟨u, n, rfl, q, hz, k _ F H Grow.refl rfl⟩
    · cases h
  · have he : intSD d = int1D d := by
      cases d <;> first | rfl | exact absurd ⟨_, rfl⟩ hs
    rw [he] at h
    exact .inr (callv_int d z h F H v Q e r k)
end
end VS
set_option maxHeartbeats 2000000
namespace VS
open PySem L2 PySem.Spec PyProof.Rows
def IteS (K : PySem.W.Frag) (a : Addr) (k : Nat) : It :=
  ⟨fun i H => ∃ (xs : List V) (x : V), SqL K H a xs ∧ xs[i]? = some x, fun i H v H' => ∃ t x, v = .ref t ∧ H t = none ∧ H' = upd H t (.tup [.int ((k + i : Nat) : Int), x]) ∧ ∀ xs, SqL K H a xs → xs[i]? = some x, fun i H => ∃ xs : List V, SqL K H a xs ∧ xs.length = i⟩
structure EnLs (a e it : Addr) (k i : Nat) (h : Heap) : Prop where
  en : ∃ last, IsEnum h e it ((k + i : Nat) : Int) last
  it : h.IsListIter it a i
section
variable {P : Program} {w : World} {K : PySem.W.Frag} {elts : List Expr} {kk : Nat} {tpos : Pos} {a e it : Addr} {X : Cx} {i k : Nat} {pins : List (Addr × Obj)} {s : Shared} {σ : L2.St} {H : Hp} {E : Value → Shared → Prop}
theorem es_turn (d1 : e ≠ it) (d2 : e ≠ a) (d3 : a ≠ it) (calm : X.calm = true) (I : Inv X pins σ H s) (fp : ∀ b ∈ [e, it], FpOk X pins H b) (st : EnLs a e it k i s.heap) (go : (IteS X.K a k).go i H) :
    wpAny (model X.prog X.w) X.A (pyNext (.ref e)) (fun r s1 => ∃ u, r = some u ∧ wpAny (model X.prog X.w) X.A (letOwnedTupleGo (.Tuple elts kk tpos) (.ref e) u)
      (fun _ s2 => ∃ x H', Inv X pins σ H' s2 ∧ RelV x u ∧ (IteS X.K a k).yld i H x H' ∧ EnLs a e it k (i + 1) s2.heap ∧ ∀ b ∈ [e, it], H' b = none) E s1) E s := by
  obtain ⟨⟨last, is_e⟩, is_it⟩ := st
  obtain ⟨xs, x, sq, at_x⟩ := go
  obtain ⟨its, vals, ls, _⟩ := I.list sq
  obtain ⟨u, at_u, rel⟩ := vals.get at_x
  have le : e < s.heap.objs.size := Heap.lt_size is_e
  have li : it < s.heap.objs.size := let ⟨_, q, _⟩ := is_it; Heap.lt_size q
  have D := Draws.list (prog := X.prog) (w := X.w) (A := X.A.in1) (by simpa using I.ok.hd calm) it a d3 its.toArray
  have more : i < its.toArray.size := by simpa using (List.getElem?_eq_some_iff.mp at_u).1
  refine wpAny_pyNext_enum_itemC D is_e ⟨is_it, ls.isList⟩ more d1 (by simp [d1, d2]) fun y h1 tk at_y out st1 new_ _ keep => ?_
  obtain rfl : y = u := Option.some.inj (Eq.trans (by simpa using at_y.symm) at_u)
  refine ⟨_, rfl, wpAny_letOwnedTupleGo_enum (s := { s with heap := h1, toks := tk + 1 }) out fun h2 is_e2 but => ?_⟩
  have pair : h2.get? s.heap.objs.size = some { cls := .type "tuple", data := .seq #[.int ((k + i : Nat) : Int) tk, y] } := (but.2 _ (Nat.ne_of_gt le)).trans new_
  have I2 : Inv X pins σ (upd H s.heap.objs.size (.tup [.int ((k + i : Nat) : Int), x])) { s with heap := h2, toks := tk + 1 } := by
    refine I.turnedNew (ch := [e, it]) (fun b ob out_ q => ?_) fp (Nat.le_refl _) ⟨by show 2 ≤ sizeLine; decide, [.int ((k + i : Nat) : Int) tk, y], .cons ⟨_, rfl⟩ (.cons rel .nil), ⟨_, pair, rfl, _, rfl⟩⟩
    simp only [List.mem_cons, List.not_mem_nil, or_false, not_or] at out_
    exact (but.2 b out_.1).trans (keep b ob out_.1 out_.2 q)
  refine ⟨.ref s.heap.objs.size, _, I2, rfl, ⟨_, x, rfl, I.hok.fresh (Nat.le_refl _), rfl, fun ys sq2 => by rw [I.list_inj sq2 sq]; exact at_x⟩, ⟨⟨y, ?_⟩, st1.1.at fun ob q => (but.2 it (Ne.symm d1)).trans q⟩, fun b hb => ?_⟩
  · rw [show ((k + (i + 1) : Nat) : Int) = ((k + i : Nat) : Int) + 1 by omega]
    exact is_e2
  · have lb : b < s.heap.objs.size := by
      simp only [List.mem_cons, List.not_mem_nil, or_false] at hb
      rcases hb with z | z <;> rw [z] <;> assumption
    rw [upd_ne (Nat.ne_of_lt lb)]
    exact (fp b hb).1
theorem es_end (d3 : a ≠ it) (calm : X.calm = true) (I : Inv X pins σ H s) (fp : ∀ b ∈ [e, it], FpOk X pins H b) (st : EnLs a e it k i s.heap) (stop : (IteS X.K a k).stop i H) :
    wpAny (model X.prog X.w) X.A (pyNext (.ref e)) (fun r s1 => r = none ∧ Inv X pins σ H s1) E s := by
  obtain ⟨⟨last, is_e⟩, is_it⟩ := st
  obtain ⟨xs, sq, rfl⟩ := stop
  obtain ⟨its, vals, ls, _⟩ := I.list sq
  obtain ⟨p0, p1, _, p3, p4, p5⟩ := fp it (by simp)
  have D := Draws.list (prog := X.prog) (w := X.w) (A := X.A.in1) (by simpa using I.ok.hd calm) it a d3 its.toArray
  refine wpAny_pyNext_enum_endD D is_e ⟨?_, ls.isList⟩ fun h1 but => ⟨rfl, I.turned (t' := s.toks) (fun b ob out_ q => but b ob out_ q) p0 p1 p3 p4 p5⟩
  rw [List.size_toArray, ← vals.length]
  exact is_it
theorem es_turns (d1 : e ≠ it) (d2 : e ≠ a) (d3 : a ≠ it) : Turn P w K (.Tuple elts kk tpos) (IteS K a k) [e, it] e (EnLs a e it k) where
  mem := List.mem_cons_self
  obj := fun i h st b hb => by
    simp only [List.mem_cons, List.not_mem_nil, or_false] at hb
    obtain ⟨⟨last, is_e⟩, o, at_it, _, dat⟩ := st
    rcases hb with rfl | rfl
    · exact ⟨_, is_e, nofun⟩
    · exact ⟨o, at_it, fun u z => by rw [dat] at z; exact nomatch z⟩
  keep := fun i h h' ⟨⟨last, is_e⟩, is_it⟩ same => ⟨⟨last, same e List.mem_cons_self _ is_e⟩, is_it.at fun ob q => same it (by simp) ob q⟩
  item := by rintro X rfl rfl rfl calm i pins s σ H E I fp st go; exact es_turn d1 d2 d3 calm I fp st go
  done := by rintro X rfl rfl rfl calm i pins s σ H E I fp st stop; exact es_end d3 calm I fp st stop
  self := fun A i s Q E ⟨⟨_, is_e⟩, _⟩ q => wpAny_pyIter_enum is_e q
theorem type_by_names {M : Model} {A : Around} {env : Env} {pos : Pos} {T : String} {x : Expr} {rest : List Expr} {kws : List Keyword} {Q : Value → Shared → Prop}
    (h : wpAny M A (spliced (backTo pos (starEach (x :: rest) env))) (fun vs s1 => wpAny M A (evalAll ((backToKw pos (keywordEach kws env)).map (·.2)))
      (fun kvs s2 => wpAny M A (call (.type T) vs (((backToKw pos (keywordEach kws env)).filterMap (·.1)).zip kvs)) Q E s2) E s1) E s)
    (he : backTo pos (starEach (x :: rest) env) = (false, eval x env) :: backTo pos (starEach rest env)) (hplain : (backTo pos (starEach (x :: rest) env)).any (·.1) = false)
    (hall : (backToKw pos (keywordEach kws env)).all (·.1.isSome) = true) (hkw : (backToKw pos (keywordEach kws env)).any (·.1.isNone) = false) :
    wpAny M A (callWith pos (.type T) [] (backTo pos (starEach (x :: rest) env)) (backToKw pos (keywordEach kws env))) Q E s := by
  have args : wpAny M A (evalArgs (.type T) true (backTo pos (starEach (x :: rest) env)) (backToKw pos (keywordEach kws env))) (fun r s1 => wpAny M A (call (.type T) ([] ++ r.pos) r.kw) Q E s1) E s := by
    rw [he] at h ⊢
    exact PyProof.Rows.evalArgs_kwB hall h
  unfold callWith
  apply wpAny_bind
  apply wpAny_holding
  refine wpAny_mono args ?_ fun _ _ z => z
  intro r s1 q
  apply wpAny_bind
  apply wpAny_standAt
  simp only [hplain, hkw, Bool.or_false]
  apply wpAny_bind
  apply wpAny_pure
  apply wpAny_bind
  refine wpAny_mono q ?_ fun _ _ z => z
  intro v s2 q2
  apply wpAny_bind
  apply wpAny_holding
  exact wpAny_point (wpAny_pure q2)
end
section
variable {T : Txt} {X : Cx} {W : WX} {e a b : Expr} {pos p kpos kp : Pos} {K : PySem.W.Frag} {k j : Nat}
def iEnumS (K : PySem.W.Frag) (k : Nat) (ta : TA) : TI := fun σ H R => ta σ H fun vs H1 => ∃ a xs, vs = [.ref a] ∧ SqL K H1 a xs ∧ R (IteS K a k) H1
theorem pi_enumS {ta : TA} {tpos : Pos} {elts : List Expr} {kk : Nat} (hk : k < 2 ^ 63) (hg : Gl X "enumerate") (hm : X.mg "enumerate" = none) (ha : PA X [e] ta) (hs : starEach [e] X.env = [(false, eval e X.env)] := by rfl) :
    PI X (.Tuple elts kk tpos) (.Call (.Name "enumerate" p) [e] [⟨some "start", .Constant (.int k) j kp, kpos⟩] pos) (iEnumS X.K k ta) := by
  refine ⟨fun pins s σ H R I h => wpAny_Call_Name_kw (ld_blt I hg hm boot_enumerate ?_)⟩
  refine type_by_names (thn (ha.run pos pins s σ H _ I h) ?_) (by rw [hs]; rfl) (by rw [hs]; rfl) rfl rfl
  rintro us s1 ⟨_, H1, J1, rel, t, xs, rfl, sq1, then_⟩
  obtain ⟨_, rfl⟩ : ∃ u : Unit, us = [.ref t] := by
    cases rel with
    | cons r rr => cases rr; cases r; exact ⟨(), rfl⟩
  refine thn ((pk_cons (pe_int (i := (k : Int))) pk_nil).run pos pins s1 σ H1 (fun ws H2 => ws = [.int k] ∧ H2 = H1) J1 ⟨rfl, rfl⟩) ?_
  rintro ks s2 ⟨ws, H2, J, rk, rfl, rfl⟩
  obtain ⟨tk, rfl⟩ : ∃ tk, ks = [.int k tk] := by
    cases rk with
    | cons r rr => cases rr; obtain ⟨tk, rfl⟩ := r; exact ⟨tk, rfl⟩
  obtain ⟨its, vals, ls, _⟩ := J.list sq1
  have lt : t < s2.heap.objs.size := let ⟨_, q, _⟩ := ls.isList; Heap.lt_size q
  refine enum_begins_start (begins_list t its.toArray) ls.isList (by omega) (by exact_mod_cast hk) fun h1 is_e at_it _ keep => wpAny_pyIter_enum is_e ?_
  refine ⟨_, [s2.heap.objs.size + 1, s2.heap.objs.size], EnLs t (s2.heap.objs.size + 1) s2.heap.objs.size k, IteS X.K t k, H2, rfl, J.kept (t' := s2.toks) keep, es_turns (Nat.succ_ne_self _) (Nat.ne_of_gt (Nat.lt_succ_of_lt lt)) (Nat.ne_of_lt lt), ⟨⟨_, is_e⟩, ⟨_, at_it, rfl, rfl⟩⟩, fun b hb => ?_, then_⟩
  have ge : s2.heap.objs.size ≤ b := by
    simp only [List.mem_cons, List.not_mem_nil, or_false] at hb
    rcases hb with z | z <;> rw [z]
    · exact Nat.le_succ _
    · exact Nat.le_refl _
  exact J.fpOk ge (J.hok.fresh ge)
theorem itd_enumS {F : Hp} {a : Addr} {vs : List V} {ds : List D} (hs : SqL K F a vs) (r : Reps K T F ds vs) : ItD K T F (IteS K a k) (enumFrom k ds) where
  go := fun i H e hi => by
    rw [enumFrom_length] at hi
    have : i < vs.length := by rw [r.length]; exact hi
    exact ⟨vs, vs[i], e.sqL hs, by simp [this]⟩
  stop := fun H e => ⟨vs, e.sqL hs, by rw [r.length, enumFrom_length]⟩
  yld := fun i d G H x H' e1 e2 hd y => by
    obtain ⟨t, x', rfl, hn, rfl, q⟩ := y
    rw [enumFrom_get] at hd
    cases q1 : ds[i]? with
    | none => rw [q1] at hd; cases hd
    | some d0 =>
      rw [q1] at hd
      cases hd
      obtain ⟨v, h1, h2⟩ := r.get q1
      have hx := q vs ((e1.trans e2).sqL hs)
      rw [h1] at hx
      obtain rfl : v = x' := Option.some.inj hx
      have g := Grow.new (K := K) (T := T) (o := HO.tup [.int ((k + i : Nat) : Int), v]) e2 hn
      exact ⟨_, g, ⟨t, _, rfl, SqX.of upd_same, _, _, rfl, rfl, _, _, rfl, (h2.mono e1).mono g.1, rfl⟩⟩
def mEnumS (k : Nat) (g : Ev D) : Ev (List D) := fun ρ => (g ρ).bind fun d ρ' => match d with
  | .lst xs => .ok (enumFrom k xs) ρ'
  | _ => .stuck
theorem ji_enumS {g : Ev D} {elts : List Expr} {kk : Nat} {tpos : Pos} (hk : k < 2 ^ 63) (hg : Gl X "enumerate") (hm : X.mg "enumerate" = none) (h : JE T X W a g) (hs : starEach [a] X.env = [(false, eval a X.env)] := by rfl) (hs1 : starEach [a] X.env = (false, eval a X.env) :: starEach [] X.env := by rfl) :
    JI T X W (.Tuple elts kk tpos) (.Call (.Name "enumerate" p) [a] [⟨some "start", .Constant (.int k) j kp, kpos⟩] pos) (mEnumS k g) := fun ρ => by
  have p1 := h ρ
  unfold mEnumS
  cases q1 : g ρ with
  | stuck => exact pi_no
  | ex c ds ρ1 => rw [q1] at p1; exact pi_weak (pi_enumS hk hg hm (pa_cons p1 pa_nil hs1) hs) fun σ H Q q => q
  | ok d ρ1 =>
    rw [q1] at p1
    simp only [R.bind_ok]
    cases d with
    | lst xs =>
      refine pi_weak (pi_enumS hk hg hm (pa_cons p1 pa_nil hs1) hs) fun σ H Q ⟨F, Z, L, r, kq⟩ => ⟨F, Z, L, r, fun v F' H' e r' x => ?_⟩
      obtain ⟨a, vs, rfl, h1, rr⟩ := x
      exact ⟨a, vs, rfl, SqL.of (r'.exF _ _ h1), kq _ F' H' e r' (itd_enumS (SqL.of h1) rr)⟩
    | _ => exact pi_no
end
end VS
set_option maxHeartbeats 2000000
namespace VS
open PySem L2 PySem.Spec PyProof.Rows
def noneAt (K : PySem.W.Frag) (a : Addr) : Bool := match K.lookup a with
  | some o => (match o.cls, o.data with
    | .type n, .seq its _ => n == "tuple" && its.isEmpty
    | _, _ => false)
  | none => false
theorem noneAt_ok {K : PySem.W.Frag} {T : Txt} {a : Addr} (h : noneAt K a = true) (F : Hp) : Rep K T F (.fru []) (.ref a) := by
  unfold noneAt at h
  split at h
  · rename_i o ho
    split at h
    · rename_i n its m hc hd
      rw [Bool.and_eq_true] at h
      obtain ⟨h1, h2⟩ := h
      have e : its = #[] := by simpa using h2
      subst e
      refine ⟨a, [], rfl, .inr ⟨o, #[], m, ho, ?_, hd, Nat.zero_le _, .nil⟩, rfl⟩
      rw [hc, beq_iff_eq.mp h1]
    · cases h
  · cases h
end VS
set_option maxHeartbeats 2000000
namespace VS
open PySem L2 PySem.Spec PyProof.Rows
def exkB (K : PySem.W.Frag) (C : Addr) : Bool := (PySem.W.clsIn K C).isSome && (decide (PySem.W.findIn K (.ref C) "__getattribute__" = some (some (.builtin "BaseException.__getattribute__"))) && (decide (PySem.W.findIn K (.ref C) "__getattr__" = some none) && (decide (PySem.W.subIn K (.ref C) (.type "BaseException") = some true) && (PySem.W.hasDictIn K C && (decide (PySem.W.findIn K (.ref C) "__class__" = some (some (.builtin "object.__class__"))) && (decide (PySem.W.specialIn K (.builtin "object.__class__") "__get__" = some (some (.builtin "getset_descriptor.__get__"))) && (decide (PySem.W.takesIn K (.builtin "object.__class__") = some true) && decide (PySem.W.mroIn K C (.type "object") = some true))))))))
theorem exkB_ok {K : PySem.W.Frag} {C : Addr} (h : exkB K C = true) : ExK K C := by
  unfold exkB at h
  simp only [Bool.and_eq_true, decide_eq_true_eq] at h
  obtain ⟨h1, h2, h3, h4, h5, h6, h7, h8, h9⟩ := h
  exact ⟨h1, h2, h3, h4, h5, h6, h7, h8, h9⟩
section
variable {T : Txt} {X : Cx} {W : WX} {a b o e : Expr} {es bs : List Expr} {pos p apos p2 kpos : Pos} {c k n nt : Nat} {G : Fn} {ps : List Str} {m kx : Str}
def isaF (nos : List String) (tbl : List (Nat × Bool)) : String ⊕ Nat → Option Bool
  | .inl t => if t ∈ nos then some false else none
  | .inr c => tbl.lookup c
structure IsaT (K : PySem.W.Frag) (T : Txt) (cs : List V) (f : String ⊕ Nat → Option Bool) : Prop where
  ex : ∃ us, Paired ClsV cs us ∧ ∀ t b, f t = some b → PySem.W.kitAny K (kindV T t) us = some b
theorem lookup_in {c : Nat} {b : Bool} : ∀ {tbl : List (Nat × Bool)}, tbl.lookup c = some b → (c, b) ∈ tbl
  | [], h => by simp at h
  | (k, z) :: tbl, h => by
    rw [List.lookup_cons] at h
    by_cases e : c = k
    · subst e
      simp at h
      simp [h]
    · have : (c == k) = false := by simpa using e
      rw [this] at h
      exact List.mem_cons_of_mem _ (lookup_in h)
theorem isaV_of {K : PySem.W.Frag} {C : Addr} {nos : List String} {tbl : List (Nat × Bool)} (h1 : ∀ t ∈ nos, PySem.W.kitOne K (.type t) (.ref C) = some false) (h2 : ∀ q ∈ tbl, PySem.W.kitOne K (.ref (T.cl q.1)) (.ref C) = some q.2) : IsaV K T (.ref C) (isaF nos tbl) := by
  refine ⟨⟨.ref C, .own C, fun t b h => ?_⟩⟩
  cases t with
  | inl t =>
    simp only [isaF] at h
    split at h
    · next m => cases h; exact h1 t m
    · cases h
  | inr c => exact h2 _ (lookup_in h)
theorem isaT_of {K : PySem.W.Frag} {Cs : List Addr} {nos : List String} {tbl : List (Nat × Bool)} (h1 : ∀ t ∈ nos, PySem.W.kitAny K (.type t) (Cs.map Value.ref) = some false) (h2 : ∀ q ∈ tbl, PySem.W.kitAny K (.ref (T.cl q.1)) (Cs.map Value.ref) = some q.2) : IsaT K T (Cs.map V.ref) (isaF nos tbl) := by
  refine ⟨⟨Cs.map Value.ref, ?_, fun t b h => ?_⟩⟩
  · clear h1 h2
    induction Cs with
    | nil => exact .nil
    | cons C Cs ih => exact .cons (.own C) ih
  · cases t with
    | inl t =>
      simp only [isaF] at h
      split at h
      · next m => cases h; exact h1 t m
      · cases h
    | inr c => exact h2 _ (lookup_in h)
theorem pa_names {cs : List V} (h : PA X bs (fun _ H Q => Q cs H)) (hb : PE X b (tC (.ref k))) (hs : starEach (b :: bs) X.env = (false, eval b X.env) :: starEach bs X.env) : PA X (b :: bs) (fun _ H Q => Q (.ref k :: cs) H) :=
  ⟨fun pos pins s σ H Q I q => (pa_cons hb h hs).run pos pins s σ H Q I q⟩
theorem je_isaT {es : List Nat} {cs : List V} {f : String ⊕ Nat → Option Bool} {g : Ev D} (N : Kinds X.K T es) (hf : IsaT X.K T cs f) (hl : cs.length ≤ 100) (hm : X.mg "isinstance" = none) (ha : JE T X W a g) (hb : PA X bs (fun _ H Q => Q cs H)) (hg : Gl X "isinstance" := by rfl)
    (hs : starEach [a, .Tuple bs nt p2] X.env = (false, eval a X.env) :: starEach [.Tuple bs nt p2] X.env := by rfl) (hs2 : starEach [.Tuple bs nt p2] X.env = (false, eval (.Tuple bs nt p2) X.env) :: starEach [] X.env := by rfl) (hp : (backTo pos (starEach [.Tuple bs nt p2] X.env)).any (·.1) = false := by rfl) :
    JE T X W (.Call (.Name "isinstance" p) [a, .Tuple bs nt p2] [] pos) (mIsi (isaD es f) g) := fun ρ => by
  have p1 := ha ρ
  have rule : ∀ ta, PE X a ta → PE X (.Call (.Name "isinstance" p) [a, .Tuple bs nt p2] [] pos) (tCB (rIsiTZ X.K) (tCons ta (tCons (tTup fun _ H Q => Q cs H) tNil))) := fun ta h => pe_callB call_isiTZ hg hm (by decide +kernel) (pa_cons h (pa_cons (pe_tup hb) pa_nil hs2) hs) (by decide) (by decide) hs hp
  unfold mIsi
  cases q1 : g ρ with
  | stuck => exact pe_no
  | ex c ds ρ1 => rw [q1] at p1; exact pe_weak (rule _ p1) fun σ H Q q => q
  | ok d ρ1 =>
    rw [q1] at p1
    simp only [R.bind_ok]
    cases q2 : isaD es f d with
    | none => exact pe_no
    | some z =>
      obtain ⟨us, cu, fu⟩ := hf.ex
      cases q3 : kindOf es d with
      | none => rw [isaD, q3] at q2; cases q2
      | some t =>
        rw [isaD, q3] at q2
        refine pe_weak (rule _ p1) fun σ H Q ⟨F, Z, L, r, k⟩ => ⟨F, Z, L, r, fun v F1 H1 e1 r1 x1 => ⟨Nat.le_trans hl (by decide), fun tp hn => ?_⟩⟩
        have up : Ex F1 (upd F1 tp (.tup cs)) := Ex.new (r1.exF.none hn)
        have r2 := r1.new (o := HO.tup cs) hn
        exact ⟨v, tp, cs, _, us, z, rfl, upd_same, cu, ty_kind N q3 r2.exF ((x1.mono up).b r2.exF), fu t z q2, k _ _ _ (e1.trans up) r2 rfl⟩
end
end VS
set_option maxHeartbeats 2000000
namespace VS
open PySem L2 PySem.Spec PyProof.Rows
structure CalX0 (K : PySem.W.Frag) (mg : Str → Option Value) (T : Txt) (x : Str) (c : Nat) : Prop where
  ex : mg x = some (.ref (T.cl c)) ∧ PySem.W.excIn K (T.cl c) He.veBase "ValueError.__new__" = true ∧ PySem.W.keepIn K (.ref (T.cl c)) = true ∧ PySem.W.subIn K (.ref (T.cl c)) (.type "BaseException") = some true ∧ PySem.W.typeIn K (.ref (T.cl c)) = some (.type "type")
def mRaise0 (c : Nat) : VEnv → RS := fun ρ => .ex c [] ρ
section
variable {T : Txt} {X : Cx} {W : WX} {a o e : Expr} {x f m : Str} {c k j : Nat} {p p2 pos pos' apos : Pos}
def tFmtN (te : TE) : TE := fun σ H Q => te σ H fun y G => (y = .non ∧ Q (.str "None") G) ∨ ∃ i : Int, y = .int i ∧ i.natAbs.log2 < 1920 ∧ Q (.str (toString i)) G
theorem pe_fmtN {te : TE} (he : PE X e te) : PE X (.FormattedValue e (-1) none pos) (tFmtN te) := by
  constructor
  intro pins st σ H Q I h
  refine wpAny_FormattedValue_plain (thn (he.run pins st σ H _ I h) ?_)
  rintro v s1 ⟨y, G, J, rel, ⟨rfl, q⟩ | ⟨i, rfl, hz, q⟩⟩
  · cases rel
    exact wpAny_formatField_none ⟨.str "None", G, J.tok _, ⟨_, rfl⟩, q⟩
  · obtain ⟨t, rfl⟩ := rel
    exact wpAny_formatField_int hz ⟨.str (toString i), G, J.tok _, ⟨_, rfl⟩, q⟩
def NumV (y : V) : Prop := y = .non ∨ ∃ i : Int, y = .int i ∧ i.natAbs < 1000000000
def spIF (C : Addr) (f : Str) : Sp := fun vs H Q E => (∃ y, vs[1]? = some y ∧ NumV y) ∧ spI C f vs H Q E
theorem num_text {i : Int} (h : i.natAbs < 1000000000) : i.natAbs.log2 < 1920 ∧ (toString i : Str).length ≤ 1000 := by
  have h2 : i.natAbs.log2 < 30 := PySem.Flt.log2_lt_of (by decide) (Nat.lt_of_lt_of_le h (by decide))
  refine ⟨by omega, ?_⟩
  have h1 : i.natAbs < 10 ^ 12 := Nat.lt_of_lt_of_le h (by decide)
  have := PyData.shown_int_le h1
  exact Nat.le_trans this (by decide)
theorem init_rowsF {K : PySem.W.Frag} {C : Addr} {f t u : Str} {vs : List V} {H : Hp} {Q : VK} {E : XK} {N : List Str} (isC : OexC K C) (no : PySem.W.findIn K (.ref C) f = some none) (hN : N.length = 2) (ht : t.length ≤ 1000) (hu : u.length ≤ 1000) (h : spIF C f vs H Q E) :
    tSeq (tDrop (tVeI K (tCons (tVar 0) (tCons (fun σ H Q => tJs [tC (.str t), tFmtN (tVar 1), tC (.str u)] Str.empty σ H fun out G => Q (.str out) G) tNil)))) (tSeq (tOst K f (tVar 0) (tVar 1)) tNext) { nx := fun _ G => Q .non G, rt := Q } (L2.start N vs) H := by
  obtain ⟨⟨y', ey, num⟩, a, y, rfl, at_a, go⟩ := h
  have ey2 : y' = y := by simpa using ey.symm
  rw [ey2] at num
  obtain ⟨n0, n1, rfl⟩ : ∃ n0 n1, N = [n0, n1] := by
    match N, hN with
    | [n0, n1], _ => exact ⟨n0, n1, rfl⟩
  have len : ∀ a b : Str, (a ++ b).length = a.length + b.length := fun a b => by
    show (a.cps ++ b.cps).size = a.cps.size + b.cps.size
    rw [Array.size_append]
  have z0 : (Str.empty : Str).length = 0 := rfl
  have fin : ∀ w : Str, w.length ≤ 1000 → ∃ y1 : Str, V.str t = .str y1 ∧ (Str.empty ++ y1).length ≤ sizeLine ∧ ∃ y2 : Str, V.str w = .str y2 ∧ (Str.empty ++ y1 ++ y2).length ≤ sizeLine ∧ ∃ y3 : Str, V.str u = .str y3 ∧ (Str.empty ++ y1 ++ y2 ++ y3).length ≤ sizeLine := fun w hw => by
    have : sizeLine ≥ 100000 := by decide
    exact ⟨t, rfl, by rw [len, z0]; omega, w, rfl, by rw [len, len, z0]; omega, u, rfl, by rw [len, len, len, z0]; omega⟩
  have rest : ∀ out : Str, tVeI K (fun σ H Q => Q [V.ref a, .str out] H) (L2.start [n0, n1] [.ref a, y]) H fun _ G => tSeq (tOst K f (tVar 0) (tVar 1)) tNext { nx := fun _ G => Q .non G, rt := Q } (L2.start [n0, n1] [.ref a, y]) G := fun out =>
    ⟨a, C, [.str out], rfl, by simp, isC, at_a, y, rfl, .ref a, rfl, a, C, rfl, isC, no, .inl ⟨at_a, fun dx n ne => go dx n ne⟩⟩
  refine ⟨.ref a, rfl, ?_⟩
  rcases num with rfl | ⟨i, rfl, hi⟩
  · obtain ⟨y1, e1, l1, y2, e2, l2, y3, e3, l3⟩ := fin "None" (by decide)
    exact ⟨y1, e1, l1, .non, rfl, .inl ⟨rfl, y2, e2, l2, y3, e3, l3, rest _⟩⟩
  · obtain ⟨hz, hl⟩ := num_text hi
    obtain ⟨y1, e1, l1, y2, e2, l2, y3, e3, l3⟩ := fin (toString i) hl
    exact ⟨y1, e1, l1, .int i, rfl, .inr ⟨i, rfl, hz, y2, e2, l2, y3, e3, l3, rest _⟩⟩
structure CalXF (P : Program) (w : World) (K : PySem.W.Frag) (mg : Str → Option Value) (base : Heap) (T : Txt) (k : Nat) (x : Str) (c : Nat) (f : Str) : Prop where
  ex : ∃ g fd ps, FnOk P w K mg base CX0 k g fd ps (spIF (T.cl c) f) ∧ mg x = some (.ref (T.cl c)) ∧ OexC K (T.cl c) ∧ PySem.W.findIn K (.ref (T.cl c)) "__init__" = some (some (.ref g)) ∧ PySem.W.typeIn K (.ref g) = some (.type "function") ∧ Binds K fd ps [] ∧ T.fl c = [f]
def numD : D → Bool
  | .non => true
  | .int i => decide (i.natAbs < 1000000000)
  | _ => false
def mRaiseF (c : Nat) (g : Ev D) : VEnv → RS := fun ρ => match g ρ with
  | .ok d ρ1 => if numD d = true then .ex c [d] ρ1 else .stuck
  | .ex c' ds ρ1 => .ex c' ds ρ1
  | .stuck => .stuck
theorem js_raiseF {g : Ev D} (h : CalXF X.prog X.w X.K X.mg X.base T k x c f) (calm : X.calm = true) (hr : Room (k + 1) X.A) (tk : Takes X W) (ha : JE T X W a g) (hg : Gl X x := by rfl) (hdb : (x == ("__debug__" : Str)) = false := by decide)
    (h1 : starEach [a] X.env = (false, eval a X.env) :: starEach [] X.env := by rfl) (h2 : (backTo pos (starEach [] X.env)).any (·.1) = false := by rfl) : JS T X W (.Raise (some (.Call (.Name x p) [a] [] pos)) none pos') (mRaiseF c g) := fun ρ => by
  obtain ⟨q, fd, ps, hF, hm, isC, at_i, fn_i, hb, fl⟩ := h.ex
  have made : ∀ ta, PE X a ta → PS X (.Raise (some (.Call (.Name x p) [a] [] pos)) none pos') (fun _ σ H => tMkO (T.cl c) (spIF (T.cl c) f) [] (tCons ta tNil) σ H fun cls d H' => W cls d σ H') :=
    fun ta h => ps_raise calm tk (pmk_oex isC at_i fn_i hF hr hb .nil pass0 hg hm (pa_cons h pa_nil h1) hdb h1 h2)
  have p1 := ha ρ
  unfold mRaiseF
  cases q1 : g ρ with
  | stuck => exact ⟨fun _ _ _ _ _ _ ⟨_, _, _, _, z⟩ => z.elim⟩
  | ex c' ds ρ1 =>
    rw [q1] at p1
    exact ps_weak (made _ p1) fun N σ H ⟨F, Z, L, r, k⟩ => ⟨F, Z, L, r, fun cls dd F' H' e r' x' => k cls dd σ F' H' e r' x'⟩
  | ok d ρ1 =>
    rw [q1] at p1
    dsimp only
    by_cases nd : numD d = true
    · rw [if_pos nd]
      refine ps_weak (made _ p1) fun N σ H ⟨F, Z, L, r, kk⟩ => ⟨F, Z, L, r, fun v F1 H1 e1 r1 rp => ⟨by simp, fun b nb => ⟨⟨v, rfl, ?_⟩, ?_⟩⟩⟩
      · cases d with
        | non => exact .inl rp
        | int i => exact .inr ⟨i, rp, of_decide_eq_true nd⟩
        | _ => cases nd
      · refine ⟨b, v, rfl, upd_same, fun dx n ne => ⟨rfl, dx, [(f, v)], upd_same, by rw [upd_ne ne, upd_same], ?_, ?_⟩⟩
        · rw [upd_ne ne] at n; exact n
        · rw [upd_ne ne] at n
          have same : upd (del (upd (upd (upd H1 b (exo b (T.cl c) none)) dx (exd dx [(f, v)])) b (exo b (T.cl c) (some dx))) b) dx (.xd [(f, v)]) = upd H1 dx (.xd [(f, v)]) := by
            funext z
            by_cases h3 : z = dx
            · rw [h3, upd_same, upd_same]
            · rw [upd_ne h3, upd_ne h3]
              by_cases h4 : z = b
              · rw [h4, del_same, nb]
              · rw [del_ne h4, upd_ne h4, upd_ne h3, upd_ne h4]
          rw [same]
          refine kk (.ref (T.cl c)) (some dx) σ _ _ (e1.trans (Ex.new (r1.exF.none n))) (r1.new n) ⟨rfl, [v], fun d' ed => ?_, nofun, .cons (rp.mono (Ex.new (r1.exF.none n))) .nil⟩
          cases ed
          rw [upd_same, fl]; rfl
    · rw [if_neg nd]
      exact ⟨fun _ _ _ _ _ _ ⟨_, _, _, _, z⟩ => z.elim⟩
theorem isaV_ty {K : PySem.W.Frag} {n : String} {nos : List String} {tbl : List (Nat × Bool)} (h1 : ∀ t ∈ nos, PySem.W.kitOne K (.type t) (.type n) = some false) (h2 : ∀ q ∈ tbl, PySem.W.kitOne K (.ref (T.cl q.1)) (.type n) = some q.2) : IsaV K T (.ty n) (isaF nos tbl) := by
  refine ⟨⟨.type n, .ty n, fun t b h => ?_⟩⟩
  cases t with
  | inl t =>
    simp only [isaF] at h
    split at h
    · next m => cases h; exact h1 t m
    · cases h
  | inr c => exact h2 _ (lookup_in h)
theorem none_twice (l : Addr) (n : Nat) (dd : Option Addr) (sl : Array (Option Value)) (u : Tok) :
    Meets (Builtin.«tuple.__mul__» ⟨[.ref l, .int 2 u], []⟩) (fun _ R s => s.heap.get? l = some { cls := .type "tuple", dict := dd, data := .seq #[] n, slots := sl } ∧ R (.ok (.ret (Value.ref l))) s) := by
  refine .of_wp fun prog w A R s h => ?_
  obtain ⟨hp, g, d, tk, os⟩ := s
  obtain ⟨at_l, h⟩ := h
  have f1 := AutoSeq1.idx_int
  wp_walk using AutoSeq1.wpAny_loadPart' at_l
  exact ⟨_, rfl, h⟩
def rTwice (K : PySem.W.Frag) : R2 := fun x y H Q => ∃ l, x = .ref l ∧ y = .int 2 ∧ SqT K H l [] ∧ Q (.ref l) H
theorem op_twice : OpR X (binaryOp .Mult) (rTwice X.K) := by
  rintro pins st σ H _ _ v u Q I rx ry ⟨l, rfl, rfl, at_l, want⟩
  cases rx
  obtain ⟨t, rfl⟩ := ry
  obtain ⟨its, rel, ⟨⟨cls, dd, data, sl⟩, ho, hc, n, hd⟩, _⟩ := I.tuple at_l
  cases rel
  cases (show cls = .type "tuple" from hc)
  cases (show data = .seq #[] n from hd)
  refine wpAny_binaryOp_repeat_ref (T := "tuple") (U := "int") (by decide) ⟨_, ho, rfl⟩ (fun s' => typeIs_int s' 2 t) noFill_tuple_mul F.fills_int_mul F.slot_int_rmul repeat_tuple F.slot_int_index.lookup ?_
  refine call_meets F.slot_int_rmul (typeIs_int st 2 t) F.entry_int_rmul (F.args_int_rmul_2 _ _) (int_rmul_tuple 2 t l #[] n dd sl) ⟨ho, rfl, ⟨_, ho, rfl⟩, ?_⟩
  exact call_meets F.slot_tuple_mul ⟨_, ho, rfl⟩ F.entry_tuple_mul (F.args_tuple_mul_2 _ _) (none_twice l n dd sl t) ⟨ho, ⟨.ref l, H, I, rfl, want⟩⟩
def mulG (x y : D) : Option D := match x, y with
  | .tup [], .int k => if k = 2 then some (.tup []) else mulE (.tup []) (.int k)
  | x, y => mulE x y
theorem opv_mulG {K : PySem.W.Frag} : OpV K T (fun x y H Q => rMulE K x y H Q ∨ rTwice K x y H Q) mulG := by
  intro x y z h F H v w Q e rx ry k
  unfold mulG at h
  split at h
  · split at h
    · next hk =>
      cases h
      subst hk
      obtain ⟨q, vs, rfl, h1, h2⟩ := id rx
      cases (show vs = [] from h2)
      exact .inr ⟨q, rfl, ry, e.sqT h1, k _ F H .refl rx⟩
    · exact .inl (opv_mulE _ _ z h F H v w Q e rx ry k)
  · exact .inl (opv_mulE _ _ z h F H v w Q e rx ry k)
end
end VS
set_option maxHeartbeats 2000000
set_option maxHeartbeats 1000000
namespace VS
open PySem L2 PySem.Spec PyProof.Rows
open AutoSeq1 (wpAny_loadPart')
def NoWord (t : Sem Fin) (P : Shared → Prop) : Prop := Meets t fun _ R s => P s ∧ R (.ok (.ret .notImplemented)) s
def Own (x : Addr) (s : Shared) : Prop := ∃ C dx, s.heap.get? x = some (PySem.W.instObj C dx)
def Foreign (T : String) (x : Addr) (s : Shared) : Prop := ∃ C dx, s.heap.get? x = some (PySem.W.instObj C dx) ∧ ∀ M : Model, PySem.W.Looks M s.heap (isSubtype (.ref C) (.type T)) false
theorem nw_int_eq (i : Int) (u : Tok) (x : Addr) : NoWord (Builtin.«int.__eq__» ⟨[.int i u, .ref x], []⟩) (Own x) :=
  .of_wp fun prog w A R s h => by
    obtain ⟨hp, g, d, tk, os⟩ := s
    obtain ⟨⟨C, dx, hx⟩, h⟩ := h
    wp_walk using wpAny_loadPart' hx, wpAny_load hx
    exact ⟨_, rfl, h⟩
theorem nw_bool_eq (i : Bool) (x : Addr) : NoWord (Builtin.«int.__eq__» ⟨[.bool i, .ref x], []⟩) (Own x) :=
  .of_wp fun prog w A R s h => by
    obtain ⟨hp, g, d, tk, os⟩ := s
    obtain ⟨⟨C, dx, hx⟩, h⟩ := h
    wp_walk using wpAny_loadPart' hx, wpAny_load hx
    exact ⟨_, rfl, h⟩
theorem nw_str_eq (i : Str) (u : Tok) (x : Addr) : NoWord (Builtin.«str.__eq__» ⟨[.str i u, .ref x], []⟩) (Own x) :=
  .of_wp fun prog w A R s h => by
    obtain ⟨hp, g, d, tk, os⟩ := s
    obtain ⟨⟨C, dx, hx⟩, h⟩ := h
    wp_walk using wpAny_loadPart' hx, wpAny_load hx
    exact ⟨_, rfl, h⟩
theorem nw_non_eq  (x : Addr) : NoWord (Builtin.«NoneType.__eq__» ⟨[.none, .ref x], []⟩) (Own x) :=
  .of_wp fun prog w A R s h => by
    obtain ⟨hp, g, d, tk, os⟩ := s
    obtain ⟨⟨C, dx, hx⟩, h⟩ := h
    wp_walk
    exact ⟨_, rfl, h⟩
theorem nw_lst_eq (l : Addr) (x : Addr) : NoWord (Builtin.«list.__eq__» ⟨[.ref l, .ref x], []⟩) (Foreign "list" x) :=
  .of_wp fun prog w A R s h => by
    obtain ⟨hp, g, d, tk, os⟩ := s
    obtain ⟨⟨C, dx, hx, sub⟩, h⟩ := h
    wp_walk using wpAny_loadPart' hx, (sub _).here
    exact ⟨_, rfl, h⟩
theorem nw_tup_eq (l : Addr) (x : Addr) : NoWord (Builtin.«tuple.__eq__» ⟨[.ref l, .ref x], []⟩) (Foreign "tuple" x) :=
  .of_wp fun prog w A R s h => by
    obtain ⟨hp, g, d, tk, os⟩ := s
    obtain ⟨⟨C, dx, hx, sub⟩, h⟩ := h
    wp_walk using wpAny_loadPart' hx, (sub _).here
    exact ⟨_, rfl, h⟩
theorem nw_dct_eq (l : Addr) (x : Addr) : NoWord (Builtin.«dict.__eq__» ⟨[.ref l, .ref x], []⟩) (Foreign "dict" x) :=
  .of_wp fun prog w A R s h => by
    obtain ⟨hp, g, d, tk, os⟩ := s
    obtain ⟨⟨C, dx, hx, sub⟩, h⟩ := h
    wp_walk using wpAny_loadPart' hx, (sub _).here
    exact ⟨_, rfl, h⟩
theorem nw_int_ne (i : Int) (u : Tok) (x : Addr) : NoWord (Builtin.«int.__ne__» ⟨[.int i u, .ref x], []⟩) (Own x) :=
  .of_wp fun prog w A R s h => by
    obtain ⟨hp, g, d, tk, os⟩ := s
    obtain ⟨⟨C, dx, hx⟩, h⟩ := h
    wp_walk using wpAny_loadPart' hx, wpAny_load hx
    exact ⟨_, rfl, h⟩
theorem nw_bool_ne (i : Bool) (x : Addr) : NoWord (Builtin.«int.__ne__» ⟨[.bool i, .ref x], []⟩) (Own x) :=
  .of_wp fun prog w A R s h => by
    obtain ⟨hp, g, d, tk, os⟩ := s
    obtain ⟨⟨C, dx, hx⟩, h⟩ := h
    wp_walk using wpAny_loadPart' hx, wpAny_load hx
    exact ⟨_, rfl, h⟩
theorem nw_str_ne (i : Str) (u : Tok) (x : Addr) : NoWord (Builtin.«str.__ne__» ⟨[.str i u, .ref x], []⟩) (Own x) :=
  .of_wp fun prog w A R s h => by
    obtain ⟨hp, g, d, tk, os⟩ := s
    obtain ⟨⟨C, dx, hx⟩, h⟩ := h
    wp_walk using wpAny_loadPart' hx, wpAny_load hx
    exact ⟨_, rfl, h⟩
theorem nw_non_ne  (x : Addr) : NoWord (Builtin.«NoneType.__ne__» ⟨[.none, .ref x], []⟩) (Own x) :=
  .of_wp fun prog w A R s h => by
    obtain ⟨hp, g, d, tk, os⟩ := s
    obtain ⟨⟨C, dx, hx⟩, h⟩ := h
    wp_walk
    exact ⟨_, rfl, h⟩
theorem nw_lst_ne (l : Addr) (x : Addr) : NoWord (Builtin.«list.__ne__» ⟨[.ref l, .ref x], []⟩) (Foreign "list" x) :=
  .of_wp fun prog w A R s h => by
    obtain ⟨hp, g, d, tk, os⟩ := s
    obtain ⟨⟨C, dx, hx, sub⟩, h⟩ := h
    wp_walk using wpAny_loadPart' hx, (sub _).here
    exact ⟨_, rfl, h⟩
theorem nw_tup_ne (l : Addr) (x : Addr) : NoWord (Builtin.«tuple.__ne__» ⟨[.ref l, .ref x], []⟩) (Foreign "tuple" x) :=
  .of_wp fun prog w A R s h => by
    obtain ⟨hp, g, d, tk, os⟩ := s
    obtain ⟨⟨C, dx, hx, sub⟩, h⟩ := h
    wp_walk using wpAny_loadPart' hx, (sub _).here
    exact ⟨_, rfl, h⟩
theorem nw_dct_ne (l : Addr) (x : Addr) : NoWord (Builtin.«dict.__ne__» ⟨[.ref l, .ref x], []⟩) (Foreign "dict" x) :=
  .of_wp fun prog w A R s h => by
    obtain ⟨hp, g, d, tk, os⟩ := s
    obtain ⟨⟨C, dx, hx, sub⟩, h⟩ := h
    wp_walk using wpAny_loadPart' hx, (sub _).here
    exact ⟨_, rfl, h⟩
inductive Kd (s : Shared) : String → Value → Prop where
  | non : Kd s "NoneType" .none
  | bl (b : Bool) : Kd s "bool" (.bool b)
  | int (i : Int) (t : Tok) : Kd s "int" (.int i t)
  | str (z : Str) (t : Tok) : Kd s "str" (.str z t)
  | lst {a : Addr} (k : PySem.W.KitAt a "list" s.heap) : Kd s "list" (.ref a)
  | tup {a : Addr} (k : PySem.W.KitAt a "tuple" s.heap) : Kd s "tuple" (.ref a)
  | dct {a : Addr} (k : PySem.W.KitAt a "dict" s.heap) : Kd s "dict" (.ref a)
section
variable {X : Cx} {pins : List (Addr × Obj)} {σ : L2.St} {H : Hp} {s : Shared} {n : String} {u : Value} {x : V}
theorem Kd.type (k : Kd s n u) : s.TypeIs u n := by
  cases k with
  | non => rfl
  | bl b => rfl
  | int i t => exact typeIs_int s i t
  | str z t => exact typeIs_str s z t
  | lst k => exact k
  | tup k => exact k
  | dct k => exact k
theorem Kd.looks (k : Kd s n u) (M : Model) : PySem.W.Looks M s.heap (typeOf u) (.type n) := by
  cases k with
  | non => exact PySem.W.Looks.of_pure rfl
  | bl b => exact PySem.W.Looks.of_pure rfl
  | int i t => exact PySem.W.Looks.of_pure rfl
  | str z t => exact PySem.W.Looks.of_pure rfl
  | lst k => exact PySem.W.kitAt_ty M _ k
  | tup k => exact PySem.W.kitAt_ty M _ k
  | dct k => exact PySem.W.kitAt_ty M _ k
def seven : List String := ["NoneType", "bool", "int", "str", "tuple", "list", "dict"]
theorem Kd.mem (k : Kd s n u) : n ∈ seven := by cases k <;> decide
end
end VS
set_option maxHeartbeats 1000000
namespace VS
open PySem L2 PySem.Spec PyProof.Rows
def like (neg : Bool) : CmpOp := if neg then .NotEq else .Eq
section
variable {prog : Program} {w : World} {A : Around} {E : Value → Shared → Prop} {s : Shared} {K : PySem.W.Frag} {x C f dx : Addr} {ox : Obj} {od : Option Obj} {n : String} {u : Value}
theorem Kd.silent (neg : Bool) (k : Kd s n u) (X : K.In s.heap) (I : PySem.W.InstAt s.heap x (PySem.W.instObj C dx) C od) (sub : ∀ n ∈ seven, PySem.W.subIn K (.ref C) (.type n) = some false) :
    wpAny (model prog w) A (tryCompare u (cmpInfo (like neg)).2.1 (.ref x)) (fun r s' => r = none ∧ s' = s) E s := by
  have own : Own x s := ⟨C, dx, I.at_⟩
  have fo : ∀ n ∈ seven, Foreign n x s := fun n h => ⟨C, dx, I.at_, fun M => PySem.W.looks_subIn X (sub n h)⟩
  cases neg with
  | false =>
    show wpAny (model prog w) A (tryCompare u (cmpInfo .Eq).2.1 (.ref x)) _ E s
    cases k with
    | non => exact wpAny_tryCompare_declines rfl F.slot_NoneType_eq (call_meets F.slot_NoneType_eq rfl F.entry_NoneType_eq (F.args_NoneType_eq_2 _ _) (nw_non_eq x) ⟨own, rfl, rfl, rfl⟩)
    | bl b => exact wpAny_tryCompare_declines rfl F.slot_bool_eq (call_meets F.slot_bool_eq rfl F.entry_int_eq (F.args_int_eq_2 _ _) (nw_bool_eq b x) ⟨own, rfl, rfl, rfl⟩)
    | int i t => exact wpAny_tryCompare_declines (typeIs_int s i t) F.slot_int_eq (call_meets F.slot_int_eq (typeIs_int s i t) F.entry_int_eq (F.args_int_eq_2 _ _) (nw_int_eq i t x) ⟨own, rfl, rfl, rfl⟩)
    | str z t => exact wpAny_tryCompare_declines (typeIs_str s z t) F.slot_str_eq (call_meets F.slot_str_eq (typeIs_str s z t) F.entry_str_eq (F.args_str_eq_2 _ _) (nw_str_eq z t x) ⟨own, rfl, rfl, rfl⟩)
    | @lst a k => exact wpAny_tryCompare_declines k F.slot_list_eq (call_meets F.slot_list_eq k F.entry_list_eq (F.args_list_eq_2 _ _) (nw_lst_eq a x) ⟨fo _ (by decide), rfl, rfl, rfl⟩)
    | @tup a k => exact wpAny_tryCompare_declines k F.slot_tuple_eq (call_meets F.slot_tuple_eq k F.entry_tuple_eq (F.args_tuple_eq_2 _ _) (nw_tup_eq a x) ⟨fo _ (by decide), rfl, rfl, rfl⟩)
    | @dct a k => exact wpAny_tryCompare_declines k F.slot_dict_eq (call_meets F.slot_dict_eq k F.entry_dict_eq (F.args_dict_eq_2 _ _) (nw_dct_eq a x) ⟨fo _ (by decide), rfl, rfl, rfl⟩)
  | true =>
    show wpAny (model prog w) A (tryCompare u (cmpInfo .NotEq).2.1 (.ref x)) _ E s
    cases k with
    | non => exact wpAny_tryCompare_declines rfl F.slot_NoneType_ne (call_meets F.slot_NoneType_ne rfl F.entry_NoneType_ne (F.args_NoneType_ne_2 _ _) (nw_non_ne x) ⟨own, rfl, rfl, rfl⟩)
    | bl b => exact wpAny_tryCompare_declines rfl F.slot_bool_ne (call_meets F.slot_bool_ne rfl F.entry_int_ne (F.args_int_ne_2 _ _) (nw_bool_ne b x) ⟨own, rfl, rfl, rfl⟩)
    | int i t => exact wpAny_tryCompare_declines (typeIs_int s i t) F.slot_int_ne (call_meets F.slot_int_ne (typeIs_int s i t) F.entry_int_ne (F.args_int_ne_2 _ _) (nw_int_ne i t x) ⟨own, rfl, rfl, rfl⟩)
    | str z t => exact wpAny_tryCompare_declines (typeIs_str s z t) F.slot_str_ne (call_meets F.slot_str_ne (typeIs_str s z t) F.entry_str_ne (F.args_str_ne_2 _ _) (nw_str_ne z t x) ⟨own, rfl, rfl, rfl⟩)
    | @lst a k => exact wpAny_tryCompare_declines k F.slot_list_ne (call_meets F.slot_list_ne k F.entry_list_ne (F.args_list_ne_2 _ _) (nw_lst_ne a x) ⟨fo _ (by decide), rfl, rfl, rfl⟩)
    | @tup a k => exact wpAny_tryCompare_declines k F.slot_tuple_ne (call_meets F.slot_tuple_ne k F.entry_tuple_ne (F.args_tuple_ne_2 _ _) (nw_tup_ne a x) ⟨fo _ (by decide), rfl, rfl, rfl⟩)
    | @dct a k => exact wpAny_tryCompare_declines k F.slot_dict_ne (call_meets F.slot_dict_ne k F.entry_dict_ne (F.args_dict_ne_2 _ _) (nw_dct_ne a x) ⟨fo _ (by decide), rfl, rfl, rfl⟩)
theorem back {neg : Bool} {Q : Value → Shared → Prop} (hu : A.units < cLine) (k : Kd s n u) (X : K.In s.heap) (I : PySem.W.InstAt s.heap x (PySem.W.instObj C dx) C od) (sub : ∀ n ∈ seven, PySem.W.subIn K (.ref C) (.type n) = some false)
    (own : wpAny (model prog w) A (tryCompare (.ref x) (cmpInfo (like neg)).2.2 u) (fun r s' => ∃ v, r = some v ∧ Q v s') E s) : wpAny (model prog w) A (richCompare (like neg) u (.ref x)) Q E s := by
  have no := k.silent (prog := prog) (w := w) (A := A) (E := E) neg X I sub
  unfold richCompare
  simp only [k.type.oneThing_none]
  refine wpAny_holding (wpAny_bind (wpAny_cRoomFor hu ?_))
  refine wpAny_bind ((k.looks _).here (wpAny_bind (I.type.here ?_)))
  split
  · refine wpAny_bind ((PySem.W.looks_subIn X (sub n k.mem)).here ?_)
    simp only [Bool.false_eq_true, if_false, Bool.not_false, if_true]
    refine wpAny_bind (m := tryCompare u _ _) (wpAny_mono no ?_ fun _ _ z => z)
    rintro r s2 ⟨rfl, rfl⟩
    refine wpAny_bind (m := tryCompare (.ref x) _ _) (wpAny_mono own ?_ fun _ _ z => z)
    rintro r s2 ⟨v, rfl, q⟩
    exact wpAny_pure q
  · rename_i g
    exact absurd (by simp) g
end
end VS
set_option maxHeartbeats 1000000
set_option maxHeartbeats 1000000
set_option maxHeartbeats 1000000
namespace VS
open PySem L2 PySem.Spec PyProof.Rows
open AutoSeq1 (wpAny_loadPart')
open MeetsSeq MeetsSeq2
theorem Grow.ex {K : PySem.W.Frag} {T : Txt} {F H F' H' : Hp} (e : Ex F H) (g : Grow K T F H F' H') : Ex F' H' := by
  have r : Rel K T F (fun _ => none) (fun _ => none) [] [] H := ⟨e, fun _ _ q => (by cases q), fun _ _ _ => rfl, rfl, fun _ _ q => (by simp at q), fun _ _ _ q => (by simp at q), fun _ _ _ _ _ _ _ q => (by simp at q), fun _ _ q => (by cases q), ⟨fun i k io b ⟨l, c, fs, a, o, h1, _⟩ => (by simp at h1), fun i k io b j l m ⟨l', c, fs, a, o, h1, _⟩ => (by simp at h1), fun i k io b j k' io' ⟨l', c, fs, a, o, h1, _⟩ => (by simp at h1)⟩⟩
  exact (g.2 _ _ _ _ r).exF
end VS
set_option maxHeartbeats 1000000
set_option maxHeartbeats 2000000
namespace VS
open PySem L2 PySem.Spec PyProof.Rows
structure FnN (P : Program) (w : World) (K : PySem.W.Frag) (mg : Str → Option Value) (base : Heap) (k : Nat) (f : Addr) (fd : FuncData) (ps : List Str) (sp : Sp) : Prop where
  len : ∀ {vs H Q E}, sp vs H Q E → vs.length = ps.length
  run : ∀ {A outer s H args us vs Q E}, A.guards = some [] → Room k A → Env0 P w K mg base A outer s H → BindsTo s fd args (ps.zip us) → Vals vs us → sp vs H Q E →
    codeAny (model P w) A (.call (.ref f) args) (CR (L2N.CX P w) outer P w H s Q E) s
theorem fnN_of {P : Program} {w : World} {K : PySem.W.Frag} {mg : Str → Option Value} {base : Heap} {k : Nat} {x qual : Str} {pa : Arguments} {bd : List Stmt} {sc : Scope} {dvs : List V} {kws : List (Str × V)} {f : Addr} {fd : FuncData} {N ps : List Str} {sp : Sp}
    (D0 : FunD K x qual pa bd sc dvs kws f fd) (S : FnScope N ps sc) (len : ∀ {vs H Q E}, sp vs H Q E → vs.length = ps.length)
    (body : ∀ {cdv A outer s H vs Q E}, A.guards = some [] → Room k (A.deeper (envOfC qual sc s.heap.objs.size f cdv)) → sp vs H Q E →
      ∃ t, PSs (cxOf (L2N.CX P w) P w K mg base N qual sc f cdv A outer s H E) bd t ∧ t { nx := fun _ G => Q .non G, rt := Q } (L2.start N vs) H) : FnN P w K mg base (k + 1) f fd ps sp := by
  obtain ⟨oc, od, dV, kV, doc, pm, an, cdv, ct, osl, e, lk, hcd, _, _⟩ := D0.ex
  subst e
  refine ⟨len, ?_⟩
  intro A outer s H args us vs Q E hA hr e0 hb rv hsp
  have inK : K.In s.heap := e0.mod.kin.keeps fun b o z => (e0.bs b o z).1
  have noL : s.heap.NoLimit := e0.mod.nolimit.keeps fun b o z => (e0.bs b o z).1
  have kinds : ∀ y ∈ ps.zip us, sc.names.lookup y.1 = some .local ∨ (sc.names.lookup y.1 = some .cell ∧ ((cellsFrom (s.heap.objs.size + 1) sc.names []).lookup y.1).isSome = true) := by
    rintro ⟨n, u⟩ hy
    cases S.par n (List.of_mem_zip hy).1 with
    | inl z => exact Or.inl z
    | inr z => exact Or.inr ⟨z, PySem.W.cellsFrom_some _ _ _ (Or.inl z)⟩
  refine codeAny_call_function hr.depth (inK _ _ lk) rfl S.co S.gen rfl (PySem.W.codeRec_of inK hcd) (hb _ _ _ _ ?_)
  refine wpAny_newFunctionEnv_cells S.kind kinds ?_
  intro env he s1 ic
  subst he
  refine ⟨noL.keeps ic.toInCall.keep, codeAny_func ?_⟩
  obtain ⟨t, pt, hq⟩ := body (cdv := cdv) (outer := outer) hA (hr.deeper _) hsp
  have J := inv_start (CX := L2N.CX P w) (E := E) S hr.hd e0 (len hsp) rv ic
  have done : ∀ {τ : L2.St} {G : Hp} {v : V} {u : Value} {s2 : Shared}, Inv (cxOf (L2N.CX P w) P w K mg base N qual sc f cdv A outer s H E) [] τ G s2 → RelV v u → Q v G → CE outer P w H s Q u s2 := by
    intro τ G v u s2 j r q
    exact ⟨v, G, j.os, j.bare, j.base, j.hok, r, q⟩
  refine wpAny_mono (pt.run [] s1 (L2.start N vs) H _ J hq) ?_ (fun _ _ z => z)
  intro fl s2 z
  cases fl with
  | ret u => obtain ⟨v, τ, G, j, r, q⟩ := z; exact done j r q
  | next => obtain ⟨τ, G, j, q⟩ := z; exact done (v := .non) (u := .none) j rfl q
  | brk => obtain ⟨_, _, _, q⟩ := z; exact q.elim
  | cont => obtain ⟨_, _, _, q⟩ := z; exact q.elim
theorem fnN_def {T : Txt} {P : Program} {w : World} {K : PySem.W.Frag} {mg : Str → Option Value} {base : Heap} {k n m : Nat} {x qual : Str} {pa : Arguments} {bd : List Stmt} {sc : Scope} {dvs : List V} {kws : List (Str × V)} {f : Addr} {fd : FuncData} {N ps : List Str} {h : VEnv → RS} {G : Fn}
    (D0 : FunD K x qual pa bd sc dvs kws f fd) (S : FnScope N ps sc) (hn : N.length = n) (hm : ps.length = m) (hG : G = runG n h)
    (hb : ∀ {cdv A outer s H E}, A.guards = some [] → Room k (A.deeper (envOfC qual sc s.heap.objs.size f cdv)) → L2N.Takes (cxOf (L2N.CX P w) P w K mg base N qual sc f cdv A outer s H E) (fun cls dd _ H => E cls dd H) →
      PassesOwn (model P w) (cxOf (L2N.CX P w) P w K mg base N qual sc f cdv A outer s H E).A (cxOf (L2N.CX P w) P w K mg base N qual sc f cdv A outer s H E).env (cxOf (L2N.CX P w) P w K mg base N qual sc f cdv A outer s H E).xe →
      JSs T (cxOf (L2N.CX P w) P w K mg base N qual sc f cdv A outer s H E) (fun cls dd _ H => E cls dd H) bd h) :
    FnN P w K mg base (k + 1) f fd ps (spG K T G m) := by
  subst hn hm hG
  refine fnN_of D0 S (fun {vs H Q E} hs => ?_) (fun {cdv A outer s H vs Q E} hA hr hs => ⟨_, pss_all (hb hA hr (L2N.takes_of rfl rfl rfl rfl) (passes_of rfl)), runG_ok (W := fun cls dd _ H => E cls dd H) rfl (fun _ _ _ _ z => z) hs⟩)
  obtain ⟨F, Z, as, r, ms, hl, _⟩ := hs
  exact hl
section
variable {X : Cx} {k : Nat} {f C : Addr} {fd : FuncData} {ps : List Str} {sp : Sp} {dvs : List V} {ds : List Value} {W : WX} {x m : Str} {p pos apos : Pos} {e o : Expr} {es : List Expr} {ta : TE} {t : TA}
theorem callN_run {pins : List (Addr × Obj)} {σ : L2.St} {H : Hp} {s : Shared} {Q : VK} {us : List Value} {vs : List V} (G : FnN X.prog X.w X.K X.mg X.base k f fd ps sp) (hA : X.A.guards = some []) (hr : Room k X.A) (hb : Binds X.K fd ps ds) (hd : Vals dvs ds) (tk : L2N.Takes X W)
    (I : Inv X pins σ H s) (r : Vals vs us) (h : sp (vs ++ dvs) H Q (WE W σ)) : wpAny (model X.prog X.w) X.A (call (.ref f) us) (EP X pins σ Q) X.xe s := by
  have r2 : Vals (vs ++ dvs) (us ++ ds) := r.append hd
  have hl : (us ++ ds).length = ps.length := r2.length.symm.trans (G.len h)
  refine wpAny_call (codeAny_mono (G.run (args := ⟨us, []⟩) hA hr I.env0 (hb s us I.kIn hl) r2 h) ?_)
  intro z s2 hz
  cases z with
  | error u => exact tk u s2 (L2N.XE.of_call I (fun _ _ _ q => q) hz)
  | ok fl =>
    cases fl with
    | ret u => exact I.after hz
    | next => exact hz.elim
    | brk => exact hz.elim
    | cont => exact hz.elim
theorem pe_callN (G : FnN X.prog X.w X.K X.mg X.base k f fd ps sp) (hA : X.A.guards = some []) (hr : Room k X.A) (hg : Gl X x) (hm : X.mg x = some (.ref f)) (hk : PySem.W.keepIn X.K (.ref f) = true) (hb : Binds X.K fd ps ds) (hd : Vals dvs ds) (tk : L2N.Takes X W)
    (ha : PA X (e :: es) t) (hdb : (x == ("__debug__" : Str)) = false) (he : starEach (e :: es) X.env = (false, eval e X.env) :: starEach es X.env) (hpl : (backTo pos (starEach es X.env)).any (·.1) = false) :
    PE X (.Call (.Name x p) (e :: es) [] pos) (tCallG sp dvs W t) := ⟨fun pins s σ H Q I h => by
  refine wpAny_Call_Name_kw (ld_glob I hg hm ?_ hdb)
  refine PySem.W.callWith_K (h₀ := X.base) I.ok.mod.kin hk (thn (ha.run pos pins s σ H _ I h) ?_) he hpl
  rintro us s1 ⟨vs, H1, I1, r, q⟩
  exact ⟨I1.kIn, callN_run G hA hr hb hd tk I1 r q⟩⟩
theorem pe_methN {pl : Sem Bool} (he : PE X o ta) (c : Cls X.K C) (hm : Meth X.K C m f) (G : FnN X.prog X.w X.K X.mg X.base k f fd ps sp) (hA : X.A.guards = some []) (hr : Room k X.A) (hb : Binds X.K fd ps ds) (hd : Vals dvs ds) (tk : L2N.Takes X W) (ha : PA X (e :: es) t)
    (hst : starEach (e :: es) X.env = (false, eval e X.env) :: starEach es X.env) (hpl : (backTo pos (starEach es X.env)).any (·.1) = false)
    (ht : eval (.Call (.Attribute o m apos) (e :: es) [] pos) X.env = (do
      let ov ← eval o X.env
      standAt apos.atName
      let (f, first) ← holding [ov] (getMethod ov m pl)
      callWith pos f first (backTo pos (starEach (e :: es) X.env)) (backToKw pos (keywordEach [] X.env)))) :
    PE X (.Call (.Attribute o m apos) (e :: es) [] pos) (tMethG C m sp dvs W ta t) := ⟨fun pins s σ H Q I h => by
  refine PySem.W.methodCall_KW (pl := pl) (thn (he.run pins s σ H _ I h) ?_) ht
  rintro u s1 ⟨x, H1, I1, rx, a, dx, fs, ex, ea, l, q⟩
  subst ex
  obtain rfl : u = Value.ref a := rx
  refine getmeth_ok I1 ea c hm l ?_
  refine PySem.W.callWith_K (first := [.ref a]) (h₀ := X.base) I.ok.mod.kin hm.kp (thn (ha.run pos pins s1 σ H1 _ I1 q) ?_) hst hpl
  rintro us s2 ⟨vs, H2, I2, r, q2⟩
  exact ⟨I2.kIn, callN_run (us := .ref a :: us) (vs := .ref a :: vs) G hA hr hb hd tk I2 (.cons rfl r) q2⟩⟩
theorem runMakeN {pins : List (Addr × Obj)} {σ : L2.St} {H : Hp} {s : Shared} {Q : VK} {us : List Value} {vs : List V} (M : Mk X.K C f) (G : FnN X.prog X.w X.K X.mg X.base k f fd ps sp) (hA : X.A.guards = some []) (hr : Room (k + 1) X.A) (hb : Binds X.K fd ps ds) (hd : Vals dvs ds) (tk : L2N.Takes X W)
    (I : Inv X pins σ H s) (r : Vals vs us) (h : ∀ a dx, H a = none → H dx = none → dx ≠ a → sp (.ref a :: (vs ++ dvs)) (upd (upd H dx (.own a)) a (.ins C dx [])) (fun v H2 => v = .non ∧ Q (.ref a) H2) (WE W σ)) :
    wpAny (model X.prog X.w) X.A (call (.ref C) us) (EP X pins σ Q) X.xe s := by
  have z := h (s.heap.objs.size + 1) s.heap.objs.size (I.hok.fresh (Nat.le_succ _)) (I.hok.fresh (Nat.le_refl _)) (Nat.ne_of_lt (Nat.lt_succ_self _))
  have J := Inv.made (C := C) I
  have r2 : Vals (V.ref (s.heap.objs.size + 1) :: (vs ++ dvs)) (Value.ref (s.heap.objs.size + 1) :: (us ++ ds)) := .cons rfl (r.append hd)
  have hl : (Value.ref (s.heap.objs.size + 1) :: us ++ ds).length = ps.length := r2.length.symm.trans (G.len z)
  refine wpAny_call (make_map (f := f) I.kIn M.makes M.init (beq_iff_eq.mp M.fn) (codeAny_mono (G.run (args := ⟨Value.ref (s.heap.objs.size + 1) :: us, []⟩) (make_guards hA) (hr.make C us []) (J.env0.make C us []) (hb _ (Value.ref (s.heap.objs.size + 1) :: us) J.kIn hl) r2 z) ?_))
  intro y s2 hy
  cases y with
  | error u => exact tk u s2 (L2N.XE.of_call J (fun _ _ _ q => q) hy)
  | ok fl =>
    cases fl with
    | ret u =>
      obtain ⟨v, H', J2, rv, ev, q3⟩ := J.after hy
      subst ev
      exact ⟨rv, ⟨V.ref (s.heap.objs.size + 1), H', J2, rfl, q3⟩⟩
    | next => exact hy.elim
    | brk => exact hy.elim
    | cont => exact hy.elim
theorem pe_makeN (M : Mk X.K C f) (G : FnN X.prog X.w X.K X.mg X.base k f fd ps sp) (hA : X.A.guards = some []) (hr : Room (k + 1) X.A) (hg : Gl X x) (hm : X.mg x = some (.ref C)) (hb : Binds X.K fd ps ds) (hd : Vals dvs ds) (tk : L2N.Takes X W)
    (ha : PA X (e :: es) t) (hdb : (x == ("__debug__" : Str)) = false) (he : starEach (e :: es) X.env = (false, eval e X.env) :: starEach es X.env) (hpl : (backTo pos (starEach es X.env)).any (·.1) = false) :
    PE X (.Call (.Name x p) (e :: es) [] pos) (tMakeG C sp dvs W t) := ⟨fun pins s σ H Q I h => by
  refine wpAny_Call_Name_kw (ld_glob I hg hm ?_ hdb)
  refine PySem.W.callWith_K (h₀ := X.base) I.ok.mod.kin M.kp (thn (ha.run pos pins s σ H _ I h) ?_) he hpl
  rintro us s1 ⟨vs, H1, I1, r, q⟩
  exact ⟨I1.kIn, runMakeN M G hA hr hb hd tk I1 r q⟩⟩
end
structure CalN (P : Program) (w : World) (K : PySem.W.Frag) (mg : Str → Option Value) (base : Heap) (T : Txt) (k : Nat) (x : Str) (G : Fn) (ps : List Str) : Prop where
  ex : ∃ f fd, FnN P w K mg base k f fd ps (spG K T G ps.length) ∧ mg x = some (.ref f) ∧ PySem.W.keepIn K (.ref f) = true ∧ Binds K fd ps []
structure CalCN (P : Program) (w : World) (K : PySem.W.Frag) (mg : Str → Option Value) (base : Heap) (T : Txt) (k : Nat) (x : Str) (c : Nat) (G : Fn) (ps : List Str) : Prop where
  ex : ∃ f fd, FnN P w K mg base k f fd ps (spG K T G ps.length) ∧ mg x = some (.ref (T.cl c)) ∧ Mk K (T.cl c) f ∧ Binds K fd ps []
structure CalMN (P : Program) (w : World) (K : PySem.W.Frag) (mg : Str → Option Value) (base : Heap) (T : Txt) (k : Nat) (c : Nat) (m : Str) (G : Fn) (ps : List Str) : Prop where
  ex : ∃ f fd, FnN P w K mg base k f fd ps (spG K T G ps.length) ∧ Meth K (T.cl c) m f ∧ Binds K fd ps []
structure CalCDN (P : Program) (w : World) (K : PySem.W.Frag) (mg : Str → Option Value) (base : Heap) (T : Txt) (k : Nat) (x : Str) (c : Nat) (G : Fn) (ps : List Str) (dd : List D) : Prop where
  ex : ∃ f fd ds dvs, FnN P w K mg base k f fd ps (spG K T G ps.length) ∧ mg x = some (.ref (T.cl c)) ∧ Mk K (T.cl c) f ∧ Binds K fd ps ds ∧ Vals dvs ds ∧ ∀ F, Reps K T F dd dvs
section
variable {T : Txt} {X : Cx} {W : WX} {e o : Expr} {es : List Expr} {pos p apos : Pos} {c k n : Nat} {x m : Str} {G : Fn} {ps : List Str} {dd : List D}
theorem jr_defN {g : Ev (List AR)} (c : CalN X.prog X.w X.K X.mg X.base T k x G ps) (hA : X.A.guards = some []) (hr : Room k X.A) (tk : L2N.Takes X W) (ha : JC T X W (e :: es) g) (hn : ps.length = n := by rfl) (hg : Gl X x := by rfl)
    (hdb : (x == ("__debug__" : Str)) = false := by decide) (he : starEach (e :: es) X.env = (false, eval e X.env) :: starEach es X.env := by rfl) (hpl : (backTo pos (starEach es X.env)).any (·.1) = false := by rfl) : JR T X W (.Call (.Name x p) (e :: es) [] pos) (mRes G n [] g) := by
  subst hn
  obtain ⟨f, fd, hG, hm, hk, hb⟩ := c.ex
  exact jr_call (fun t h => pe_callN hG hA hr hg hm hk hb .nil tk h hdb he hpl) (fun _ => rfl) ha
theorem jr_clsN {g : Ev (List D)} (h : CalCN X.prog X.w X.K X.mg X.base T k x c G ps) (hA : X.A.guards = some []) (hr : Room (k + 1) X.A) (tk : L2N.Takes X W) (ha : JA T X W (e :: es) g) (hn : ps.length = n := by rfl) (hg : Gl X x := by rfl)
    (hdb : (x == ("__debug__" : Str)) = false := by decide) (he : starEach (e :: es) X.env = (false, eval e X.env) :: starEach es X.env := by rfl) (hpl : (backTo pos (starEach es X.env)).any (·.1) = false := by rfl) : JR T X W (.Call (.Name x p) (e :: es) [] pos) (mMake G c n [] g) := by
  subst hn
  obtain ⟨f, fd, hG, hm, hM, hb⟩ := h.ex
  exact jr_make (fun t h => pe_makeN hM hG hA hr hg hm hb .nil tk h hdb he hpl) (fun _ => rfl) ha
theorem jr_clsDN {g : Ev (List D)} (h : CalCDN X.prog X.w X.K X.mg X.base T k x c G ps dd) (hA : X.A.guards = some []) (hr : Room (k + 1) X.A) (tk : L2N.Takes X W) (ha : JA T X W (e :: es) g) (hn : ps.length = n := by rfl) (hg : Gl X x := by rfl)
    (hdb : (x == ("__debug__" : Str)) = false := by decide) (he : starEach (e :: es) X.env = (false, eval e X.env) :: starEach es X.env := by rfl) (hpl : (backTo pos (starEach es X.env)).any (·.1) = false := by rfl) : JR T X W (.Call (.Name x p) (e :: es) [] pos) (mMake G c n dd g) := by
  subst hn
  obtain ⟨f, fd, ds, dvs, hG, hm, hM, hb, hd, hr2⟩ := h.ex
  exact jr_make (fun t h => pe_makeN hM hG hA hr hg hm hb hd tk h hdb he hpl) hr2 ha
theorem jr_metN {pl : Sem Bool} {ga : Ev D} {gs : Ev (List D)} (C : ClsF X.K T c) (h : CalMN X.prog X.w X.K X.mg X.base T k c m G ps) (hA : X.A.guards = some []) (hr : Room k X.A) (tk : L2N.Takes X W) (hm : m ∉ T.fl c) (ho : JE T X W o ga) (ha : JA T X W (e :: es) gs) (hn : ps.length = n := by rfl)
    (hst : starEach (e :: es) X.env = (false, eval e X.env) :: starEach es X.env := by rfl) (hpl : (backTo pos (starEach es X.env)).any (·.1) = false := by rfl)
    (ht : eval (.Call (.Attribute o m apos) (e :: es) [] pos) X.env = (do
      let ov ← eval o X.env
      standAt apos.atName
      let (f, first) ← holding [ov] (getMethod ov m pl)
      callWith pos f first (backTo pos (starEach (e :: es) X.env)) (backToKw pos (keywordEach [] X.env))) := by rfl) : JR T X W (.Call (.Attribute o m apos) (e :: es) [] pos) (mMeth G c n [] ga gs) := by
  subst hn
  obtain ⟨f, fd, hG, hM, hb⟩ := h.ex
  exact jr_meth (fun ta t h1 h2 => pe_methN h1 C.cls hM hG hA hr hb .nil tk h2 hst hpl ht) (fun _ => rfl) hm ho ha
def mCalm (g : Ev Res) : Ev Res := fun ρ => match g ρ with
  | .ex _ _ _ => .stuck
  | r => r
theorem jr_calm {g : Ev Res} (h : JR T X W0 e g) : JR T X W e (mCalm g) := fun ρ => by
  have p := h ρ
  unfold mCalm
  cases q : g ρ with
  | ex c ds ρ1 => exact pe_no
  | stuck => exact pe_no
  | ok r ρ1 =>
    rw [q] at p
    cases r with
    | ok d => exact p
    | nw m => exact p
    | ex c ds => exact p
end
end VS
namespace VS
open PySem L2 PySem.Spec PyProof.Rows
section
variable {T : Txt} {X : Cx} {W : WX} {a o e : Expr} {es : List Expr} {x f m : Str} {c k j : Nat} {p p2 pos pos' apos : Pos} {ta : TA}
theorem js_raise0N (h : CalX0 X.K X.mg T x c) (calm : X.calm = true) (tk : L2N.Takes X W) (hg : Gl X x := by rfl) (hdb : (x == ("__debug__" : Str)) = false := by decide) :
    JS T X W (.Raise (some (.Call (.Name x p) [.Constant (.str m) j p2] [] pos)) none pos') (mRaise0 c) := fun ρ => by
  obtain ⟨h1, h2, h3, h4, h5⟩ := h.ex
  exact ps_weak (L2N.ps_raise calm tk (L2N.pmk_own F.excBase_ValueError h2 h1 h3 (raises_own h4 h5) hg hdb)) fun N σ H ⟨F, Z, L, r, k⟩ => k (.ref (T.cl c)) none σ F H (Ex.refl F) r ⟨rfl, [], nofun, fun _ => rfl, rfl⟩
theorem pmkN_oex {CX : CXT} {C g : Addr} {fd : FuncData} {ps : List Str} {sp : Sp} (isC : OexC X.K C) (at_i : PySem.W.findIn X.K (.ref C) "__init__" = some (some (.ref g))) (fn_i : PySem.W.typeIn X.K (.ref g) = some (.type "function"))
    (hF : FnOk X.prog X.w X.K X.mg X.base CX k g fd ps sp) (hr : Room (k + 1) X.A) (hb : Binds X.K fd ps []) (pass : Passes CX X fun _ _ _ => False) (hg : Gl X x) (hm : X.mg x = some (.ref C)) (ha : PA X (e :: es) ta)
    (hdb : (x == ("__debug__" : Str)) = false := by decide) (h1 : starEach (e :: es) X.env = (false, eval e X.env) :: starEach es X.env := by rfl) (h2 : (backTo pos (starEach es X.env)).any (·.1) = false := by rfl) :
    L2N.PMk X (.Call (.Name x p) (e :: es) [] pos) (tMkO C sp [] ta) := by
  intro pins st σ H Q inv want
  obtain ⟨nm, qn, ns, bs, up, sn, sub, ab, col, dd, w0, w1, w2, w3, w5, at_C, tail⟩ := isC.cls
  refine wpAny_Call_Name_kw (ld_glob inv hg hm ?_ hdb)
  refine PySem.W.callWith_K (h₀ := X.base) inv.ok.mod.kin isC.kC (thn (ha.run pos pins st σ H _ inv want) ?_) h1 h2
  rintro us ⟨hp, gs, dr, tok, sys⟩ ⟨vs, G, J, rel, short, give⟩
  refine ⟨J.kIn, ?_⟩
  have above : hp.objs.size ≤ hp.objs.size + 1 := Nat.le_add_right _ 1
  have new : G (hp.objs.size + 1) = none := J.hok.fresh above
  have asks := give _ new
  rw [List.append_nil] at asks
  let hq := (hp.push (PySem.W.kdv_tup us)).push (PySem.HandSPX.excO C hp.objs.size)
  have stays : ∀ b u, hp.get? b = some u → hq.get? b = some u := fun b u z => Heap.get?_push_of_some _ (Heap.get?_push_of_some _ z)
  have lies : hq.get? (hp.objs.size + 1) = some (PySem.HandSPX.excO C hp.objs.size) := by
    show ((hp.push (PySem.W.kdv_tup us)).push (PySem.HandSPX.excO C hp.objs.size)).get? (hp.objs.size + 1) = _
    heap_get
  have J2 : Inv X pins σ (upd G (hp.objs.size + 1) (exo (hp.objs.size + 1) C none)) ⟨hq, gs, dr, tok, sys⟩ := J.laid (t' := tok) (a := hp.objs.size + 1) (o := exo (hp.objs.size + 1) C none) (h' := hq) stays above (exo_ok lies)
  have rel2 : Vals (V.ref (hp.objs.size + 1) :: vs) (Value.ref (hp.objs.size + 1) :: us) := .cons rfl rel
  have many : (Value.ref (hp.objs.size + 1) :: us ++ []).length = ps.length := by
    rw [List.append_nil, ← rel2.length]
    exact hF.len _ _ _ _ asks
  have few : us.length ≤ sizeLine := by
    have := Paired.length rel
    rw [sizeLine_eq]
    omega
  have bound := hb _ (Value.ref (hp.objs.size + 1) :: us) J2.kIn many
  rw [List.append_nil] at bound
  refine wpAny_call (PySem.HandSPX.call_own F.excBase_ValueError (fun Y => PySem.HandSPX.refsVE_contains Y up tail) (J.kIn _ _ at_C) (PySem.W.looks_findIn J.kIn at_i) (fun self => PySem.W.bind_fn J.kIn self fn_i) few (codeAny_mono (hF.run _ X.stack _ _ ⟨Value.ref (hp.objs.size + 1) :: us, []⟩ (Value.ref (hp.objs.size + 1) :: us) _ _ (fun _ _ _ => False) (hr.make C us []) (J2.env0.make C us []) bound rel2 asks) ?_))
  intro z st2 hz
  cases z with
  | error u => exact pass pins σ _ _ u st2 J2 hz
  | ok fl =>
    cases fl with
    | next => exact hz.elim
    | brk => exact hz.elim
    | cont => exact hz.elim
    | ret u =>
      obtain ⟨h3, g3, d3, t3, o3⟩ := st2
      obtain ⟨v, G2, e1, bare, un, ok2, rv, rfl, d, fs, at_a, at_d, new_d, last⟩ := hz
      obtain ⟨t0, hh, K3, keep, gone, here, free⟩ := mk_end0 (d2 := d3) (t2 := t3) J above stays un ok2 e1 bare at_a at_d new_d
      exact ⟨rv, _, _, _, ⟨hh, g3, d3, t3, o3⟩, _, .ref C, some d, rfl, K3, keep, gone, here, ⟨rfl, rfl, fun ws hw => by cases hw; rfl⟩, rfl, rfl, free, rfl, bare, raises_own isC.exC isC.tyC, last⟩
theorem raise_mid {K : PySem.W.Frag} {F Z : Hp} {L : Nat → Option Addr} {σ : L2.St} {ρ : VEnv} {H1 : Hp} {d : D} {v : V} {P : XK} (fl : T.fl c = [f]) (nd : numD d = true) (r1 : Rel K T F Z L σ ρ H1) (rp : Rep K T F d v)
    (kk : ∀ cls dd F' H', Ex F F' → Rel K T F' Z L σ ρ H' → ExR K T F' cls dd c [d] → P cls dd H') : [v].length ≤ 1000 ∧ ∀ b, H1 b = none → spIF (T.cl c) f (V.ref b :: ([v] ++ [])) (upd H1 b (exo b (T.cl c) none)) (fun u H2 => u = .non ∧ ∃ dx fs, H2 b = some (exo b (T.cl c) (some dx)) ∧ H2 dx = some (exd dx fs) ∧ H1 dx = none ∧ P (.ref (T.cl c)) (some dx) (upd (del H2 b) dx (.xd fs))) fun _ _ _ => False := by
  refine ⟨by simp, fun b nb => ⟨⟨v, rfl, ?_⟩, ?_⟩⟩
  · cases d with
    | non => exact .inl rp
    | int i => exact .inr ⟨i, rp, of_decide_eq_true nd⟩
    | _ => cases nd
  · refine ⟨b, v, rfl, upd_same, fun dx n ne => ⟨rfl, dx, [(f, v)], upd_same, by rw [upd_ne ne, upd_same], ?_, ?_⟩⟩
    · rw [upd_ne ne] at n; exact n
    · rw [upd_ne ne] at n
      have same : upd (del (upd (upd (upd H1 b (exo b (T.cl c) none)) dx (exd dx [(f, v)])) b (exo b (T.cl c) (some dx))) b) dx (.xd [(f, v)]) = upd H1 dx (.xd [(f, v)]) := by
        funext z
        by_cases h3 : z = dx
        · rw [h3, upd_same, upd_same]
        · rw [upd_ne h3, upd_ne h3]
          by_cases h4 : z = b
          · rw [h4, del_same, nb]
          · rw [del_ne h4, upd_ne h4, upd_ne h3, upd_ne h4]
      rw [same]
      refine kk (.ref (T.cl c)) (some dx) _ _ (Ex.new (r1.exF.none n)) (r1.new n) ⟨rfl, [v], fun d' ed => ?_, nofun, .cons (rp.mono (Ex.new (r1.exF.none n))) .nil⟩
      cases ed
      rw [upd_same, fl]; rfl
theorem js_raiseFN {g : Ev D} (h : CalXF X.prog X.w X.K X.mg X.base T k x c f) (calm : X.calm = true) (hr : Room (k + 1) X.A) (tk : L2N.Takes X W) (ha : JE T X W a g) (hg : Gl X x := by rfl) (hdb : (x == ("__debug__" : Str)) = false := by decide)
    (h1 : starEach [a] X.env = (false, eval a X.env) :: starEach [] X.env := by rfl) (h2 : (backTo pos (starEach [] X.env)).any (·.1) = false := by rfl) : JS T X W (.Raise (some (.Call (.Name x p) [a] [] pos)) none pos') (mRaiseF c g) := fun ρ => by
  obtain ⟨q, fd, ps, hF, hm, isC, at_i, fn_i, hb, fl⟩ := h.ex
  have made : ∀ ta, PE X a ta → PS X (.Raise (some (.Call (.Name x p) [a] [] pos)) none pos') (fun _ σ H => tMkO (T.cl c) (spIF (T.cl c) f) [] (tCons ta tNil) σ H fun cls d H' => W cls d σ H') :=
    fun ta h => L2N.ps_raise calm tk (pmkN_oex isC at_i fn_i hF hr hb pass0 hg hm (pa_cons h pa_nil h1) hdb h1 h2)
  have p1 := ha ρ
  unfold mRaiseF
  cases q1 : g ρ with
  | stuck => exact ⟨fun _ _ _ _ _ _ ⟨_, _, _, _, z⟩ => z.elim⟩
  | ex c' ds ρ1 =>
    rw [q1] at p1
    exact ps_weak (made _ p1) fun N σ H ⟨F, Z, L, r, k⟩ => ⟨F, Z, L, r, fun cls dd F' H' e r' x' => k cls dd σ F' H' e r' x'⟩
  | ok d ρ1 =>
    rw [q1] at p1
    dsimp only
    by_cases nd : numD d = true
    · rw [if_pos nd]
      exact ps_weak (made _ p1) fun N σ H ⟨F, Z, L, r, kk⟩ => ⟨F, Z, L, r, fun v F1 H1 e1 r1 rp => raise_mid fl nd r1 rp fun cls dd F' H' e' r' x' => kk cls dd σ F' H' (e1.trans e') r' x'⟩
    · rw [if_neg nd]
      exact ⟨fun _ _ _ _ _ _ ⟨_, _, _, _, z⟩ => z.elim⟩
end
end VS
set_option maxHeartbeats 2000000
namespace VS
open PySem L2 PySem.Spec PyProof.Rows
structure CalXH (P : Program) (w : World) (K : PySem.W.Frag) (mg : Str → Option Value) (base : Heap) (T : Txt) (k : Nat) (x : Str) (c : Nat) (f : Str) : Prop where
  ex : ∃ g fd ps, L2H.FnH P w K mg base CX0 k g fd ps (spIF (T.cl c) f) ∧ mg x = some (.ref (T.cl c)) ∧ OexC K (T.cl c) ∧ PySem.W.findIn K (.ref (T.cl c)) "__init__" = some (some (.ref g)) ∧ PySem.W.typeIn K (.ref g) = some (.type "function") ∧ Binds K fd ps [] ∧ T.fl c = [f]
theorem fnH_of {CX : CXT} {P : Program} {w : World} {K : PySem.W.Frag} {mg : Str → Option Value} {base : Heap} {k : Nat} {x qual : Str} {pa : Arguments} {bd : List Stmt} {sc : Scope} {dvs : List V} {kws : List (Str × V)} {f : Addr} {fd : FuncData} {N ps : List Str} {sp : Sp}
    (D0 : FunD K x qual pa bd sc dvs kws f fd) (S : FnScope N ps sc) (len : ∀ vs H Q E, sp vs H Q E → vs.length = ps.length)
    (body : ∀ (cdv : Value) (A : Around) (outer : List Env) (s : Shared) (H : Hp) (vs : List V) (Q : VK) (E : XK) (p : Addr × Obj), L2H.Hot1 A p → sp vs H Q E →
      ∃ t, PSs (L2H.cxH CX P w K mg base N qual sc f cdv A outer s H E p) bd t ∧ t { nx := fun _ G => Q .non G, rt := Q } (L2.start N vs) H) : L2H.FnH P w K mg base CX (k + 1) f fd ps sp := by
  obtain ⟨oc, od, dV, kV, doc, pm, an, cdv, ct, osl, e, lk, hcd, _, _⟩ := D0.ex
  subst e
  exact L2H.fn_ofH lk hcd S len fun A outer s H vs Q E p hot _ h => body cdv A outer s H vs Q E p hot h
def mTryR (hit : List Nat) (c : Nat) (h : VEnv → RS) (g : Ev D) : VEnv → RS := fun ρ => match h ρ with
  | .ex c0 _ ρ1 => if c0 ∈ hit then (match g ρ1 with
    | .ok d ρ2 => if numD d = true then .ex c [d] ρ2 else .stuck
    | _ => .stuck) else .stuck
  | r => r
section
variable {T : Txt} {X : Cx} {W : WX} {a : Expr} {x y f : Str} {c k j : Nat} {C0 : Value} {p np pos pos' pos2 pos3 cpos : Pos} {hit : List Nat} {body : List Stmt} {h : VEnv → RS} {g : Ev D}
theorem js_tryR (hs : X.stack = X.env :: X.outer) (hf : X.env.frame = some X.env.locals) (hc : Names X x C0) (hx : ∀ c ∈ hit, PySem.W.exmOne X.K (.ref (T.cl c)) C0 = some true)
    (hpa : ∀ hd : Option Value, PassesOwnAt (model X.prog X.w) (X.A.mark hd) X.A X.env X.xe) (tk : L2.Takes X W) (R : CalXH X.prog X.w X.K X.mg X.base T k y c f) (hr : Room (k + 1) X.A)
    (hb : ∀ (W : WX) (pn : List (Addr × Obj)) (xe : Value → Shared → Prop), L2N.Takes (X.tr pn xe) W → PassesOwn (model X.prog X.w) X.A X.env xe → JSs T (X.tr pn xe) W body h)
    (ha : ∀ (b : Addr) (pn : List (Addr × Obj)), JE T (L2H.suiteX X b pn) W0 a g)
    (hg : Gl X y := by rfl) (hdb : (y == ("__debug__" : Str)) = false := by decide) (h1 : starEach [a] X.env = (false, eval a X.env) :: starEach [] X.env := by rfl) (h2 : (backTo pos2 (starEach [] X.env)).any (·.1) = false := by rfl) :
    JS T X W (.Try body [.ExceptHandler (some (.Name x np)) none [.Raise (some (.Call (.Name y p) [a] [] pos2)) (some (.Constant .none j cpos)) pos3] pos'] [] [] pos) (mTryR hit c h g) := fun ρ => by
  obtain ⟨q, fd, ps, hF, hm, isC, at_i, fn_i, hbi, fl⟩ := R.ex
  let tS : VEnv → Addr → Value → Option Addr → TS := fun ρ1 _ _ _ N σ H => tMkO (T.cl c) (spIF (T.cl c) f) [] (tCons (rdE X.K T W0 ρ1 (g ρ1)) tNil) σ H fun cls d H' => W cls d σ H'
  have rule : ∀ ρ1, PS X (.Try body [.ExceptHandler (some (.Name x np)) none [.Raise (some (.Call (.Name y p) [a] [] pos2)) (some (.Constant .none j cpos)) pos3] pos'] [] [] pos) fun N σ H => rdS X.K T (wOnly X.K C0 (tS ρ1) W N) ρ (h ρ) N σ H := fun ρ1 =>
    L2H.ps_try_onlyX (tb := fun W => rdS X.K T W ρ (h ρ)) hs hf hc hpa tk (fun W' pn xe t _ po => hb W' pn xe t po ρ) fun b oe cls d pn _ _ tkS hot =>
      pss_cons (L2H.ps_raiseHN hot tkS (L2H.pmk5_oexH (X := L2H.suiteX X b ((b, oe) :: pn)) isC at_i fn_i hF (L2H.roomH_mark hr _) hot hbi pass0 hg hm (pa_cons (ha b ((b, oe) :: pn) ρ1) pa_nil h1) hdb h1 h2)) pss_nil
  cases e : h ρ with
  | ex c0 ds ρ1 =>
    refine ps_weak (rule ρ1) fun N σ H q0 => ?_
    unfold mTryR at q0
    rw [e] at q0 ⊢
    dsimp only at q0
    split at q0
    · next hc0 =>
      cases e2 : g ρ1 with
      | ok d ρ2 =>
        rw [e2] at q0
        dsimp only at q0
        split at q0
        · next nd =>
          obtain ⟨F, Z, L, r, kk⟩ := q0
          refine ⟨F, Z, L, r, fun cls dd τ F1 H1 e1 r1 xr => ?_⟩
          obtain ⟨rfl, _⟩ := xr
          refine ⟨true, hx c0 hc0, fun _ b nb => ?_, nofun⟩
          show tMkO _ _ _ (tCons (rdE X.K T W0 ρ1 (g ρ1)) tNil) _ _ _
          rw [e2]
          exact ⟨F1, Z, L, r1, fun v F2 H2 e2 r2 rp => raise_mid fl nd r2 rp fun cls dd F' H' e' r' x' => kk cls dd τ F' H' ((e1.trans e2).trans e') r' x'⟩
        · obtain ⟨_, _, _, _, z⟩ := q0; exact z.elim
      | ex _ _ _ => rw [e2] at q0; obtain ⟨_, _, _, _, z⟩ := q0; exact z.elim
      | stuck => rw [e2] at q0; obtain ⟨_, _, _, _, z⟩ := q0; exact z.elim
    · obtain ⟨_, _, _, _, z⟩ := q0; exact z.elim
  | _ =>
    refine ps_weak (rule ρ) fun N σ H q0 => ?_
    unfold mTryR at q0
    rw [e] at q0 ⊢
    exact q0
end
end VS
set_option maxHeartbeats 2000000
namespace VS
open PySem L2 PySem.Spec PyProof.Rows
def Tests (X : Cx) (t : Expr) (cls : Value) : Prop :=
  ∀ (a : Addr) (pn : List (Addr × Obj)) (σ : L2.St) (H : Hp) (st : Shared) (Q E : Value → Shared → Prop), Inv (X.suite a pn) [] σ H st → PySem.W.Looks (model X.prog X.w) st.heap (typeOf (.ref a)) cls →
    (∀ h' c, (∀ b o, st.heap.get? b = some o → h'.get? b = some o) → PySem.W.Looks (model X.prog X.w) h' (excMatches (.ref a) c) true → Q c { st with heap := h' }) → wpAny (model X.prog X.w) (X.A.mark (some (.ref a))) (eval t X.env) Q E st
section
variable {X : Cx} {x x1 x2 : Str} {c c1 c2 cls : Value} {np p1 p2 tp : Pos} {kk : Nat}
theorem named (hc : Names X x c) {a : Addr} {pn : List (Addr × Obj)} {σ : L2.St} {H : Hp} {st : Shared} {Q E : Value → Shared → Prop} (I : Inv (X.suite a pn) [] σ H st) (q : Q c st) : wpAny (model X.prog X.w) (X.A.mark (some (.ref a))) (eval (.Name x np) X.env) Q E st := by
  obtain ⟨g, dbg, m | ⟨m, bt, nn⟩⟩ := hc
  · exact ld_glob (X := X.suite a pn) I g m q dbg
  · exact ld_blt (X := X.suite a pn) I g m bt q nn dbg
theorem tests_two (n1 : Names X x1 c1) (n2 : Names X x2 c2) (he : PySem.W.exmAny X.K cls [c1, c2] = some true) : Tests X (.Tuple [.Name x1 p1, .Name x2 p2] kk tp) cls := fun a pn σ H st Q E I ty q => by
  refine wpAny_Tuple (wpAny_items_cons (named n1 I (wpAny_items_cons (named n2 I (wpAny_items_nil ⟨by size_fits, ?_⟩)))))
  have keep : ∀ b o, st.heap.get? b = some o → (st.heap.push { cls := .type "tuple", data := .seq [c1, c2].toArray }).get? b = some o := fun b o z => Heap.get?_push_of_some _ z
  exact q _ _ keep (PySem.W.exm_tup2 (I.kIn.keeps keep) (ty.keeps keep) (Heap.get?_push_size st.heap rfl) he)
end
def wRows (i : Nat) (X : Cx) (t : Expr) (ts : TS) (N : Ends) : WX := fun cls d σ H =>
  Tests X t cls ∧ ∃ C, cls = .ref C ∧ ∀ a, H a = none → ts { nx := fun τ G => N.nx (τ.set i none) G, rt := N.rt, bk := fun τ G => N.bk (τ.set i none) G, ct := fun τ G => N.ct (τ.set i none) G } (σ.set i (some (.ref a))) (upd H a (exH a C d))
theorem fly_on {B h h' : Heap} {l : List Env} {a : Addr} {Z : Obj → Prop} (fly : HandSPX.FlyingZ B l a Z h) (k : ∀ b o, h.get? b = some o → h'.get? b = some o) : HandSPX.FlyingZ B l a Z h' := by
  obtain ⟨stays, none_, frames, oe, vs, T, oT, ts, e1, e2, e3, e4, e5, e6, e7, e8, e9⟩ := fly
  exact ⟨fun b o z => k b o (stays b o z), none_, Heap.FunFrames.of_keeps (fun b o z _ => ⟨o, k b o z, rfl⟩) frames, oe, vs, T, oT, ts, k _ _ e1, e2, e3, e4, e5, e6, k _ _ e7, e8, e9⟩
section
variable {X : Cx} {n : Str} {t : Expr} {i : Nat} {body suite : List Stmt} {s0 : Stmt} {pos pos' : Pos} {tb : WX → TS} {ts : TS}
theorem ps_rows (hex : X.ex = []) (hs : X.stack = X.env :: X.outer) (hf : X.env.frame = some X.env.locals) (hN : X.N.Nodup) (hi : X.N[i]? = some n) (hln : X.env.kindOf n = some .local)
    (hb : ∀ (W : WX) (pn : List (Addr × Obj)) (xe : Value → Shared → Prop), Takes (X.tr pn xe) W → PassesOwn (model X.prog X.w) X.A X.env xe → PSs (X.tr pn xe) body (tb W))
    (hsu : ∀ (a : Addr) (pn : List (Addr × Obj)), PSs (X.suite a pn) (s0 :: suite) ts) :
    PS X (.Try body [.ExceptHandler (some t) (some n) (s0 :: suite) pos'] [] [] pos) (fun N σ H => tb (wRows i X t ts N) N σ H) := by
  constructor
  intro pins st σ H N I want
  have good := I.ok
  have fr : X.A.frames = some (X.env :: X.outer) := good.frames.trans (congrArg some hs)
  refine wpAny_Try_except ?_
  refine wpAny_mono ((hb (wRows i X t ts N) (X.pn ++ pins) _ ?caught PassesOwn.looking).run [] st σ H N (I.toTry _) want) ?plain fun _ _ h => h
  case plain =>
    intro f s1 h
    cases f with
    | next => obtain ⟨τ, G, J, q⟩ := h; exact wpAny_execs_nil ⟨τ, G, J.ofTry good, q⟩
    | ret u => obtain ⟨v, τ, G, J, r, q⟩ := h; exact ⟨v, τ, G, J.ofTry good, r, q⟩
    | brk => obtain ⟨τ, G, J, q⟩ := h; exact ⟨τ, G, J.ofTry good, q⟩
    | cont => obtain ⟨τ, G, J, q⟩ := h; exact ⟨τ, G, J.ofTry good, q⟩
  case caught =>
    rintro _ s1 ⟨a, B, s2, pins2, τ, G, cls, d, rfl, J0, ground, up, sky, none_a, eos, bare, hit, C, rfl, go⟩
    have J := J0.ofTry good
    rw [show (X.tr (X.pn ++ pins) _).stack = X.env :: X.outer from hs] at sky
    refine Sky.land Zc.steady fr hf sky fun h3 fly up3 => ?_
    obtain ⟨o3, f3, at3, z3, dat3⟩ := fly.there
    have outF : a ∉ frs (X.env :: X.outer) := fun m => by
      obtain ⟨_, o, q, no⟩ := fly.2.2.1.mem m
      rw [at3] at q
      cases q
      exact no _ dat3
    have notL : a ≠ X.env.locals := fun e => outF (List.mem_filterMap.mpr ⟨X.env, by simp, by rw [hf, e]⟩)
    have notF : a ∉ X.fs := fun m => by
      obtain ⟨v, m1, m2⟩ := List.mem_filterMap.mp m
      exact outF (List.mem_filterMap.mpr ⟨v, List.mem_cons_of_mem _ m1, m2⟩)
    have gone2 : s2.heap.get? a = none := by
      cases q : s2.heap.get? a with
      | none => rfl
      | some o =>
        have := ground a o q (by rw [show frs (X.tr (X.pn ++ pins) _).stack = frs (X.env :: X.outer) from congrArg frs hs]; exact outF)
        rw [fly.2.1] at this
        cases this
    have new0 : X.s_0.heap.get? a = none := by
      cases q : X.s_0.heap.get? a with
      | none => rfl
      | some o =>
        obtain ⟨o', q2⟩ := J.base.there a o q (by rw [hex]; simp)
        rw [gone2] at q2
        cases q2
    have other : ∀ p ∈ X.pn ++ pins, p.1 ≠ a := fun p hp e => by
      have := (J.pin p hp).1
      rw [e, gone2] at this
      cases this
    have J3 : Inv X pins τ G { s1 with heap := h3 } := J.landed ground fly.1 (up.trans up3) eos bare
    have S3 := J3.suite at3 dat3 none_a notL notF
    have type3 : PySem.W.Looks (model X.prog X.w) h3 (typeOf (.ref a)) (.ref C) := fun A Q E s k q => wpAny_typeOf_ref (k _ _ at3) (by rw [z3.1]; exact q)
    refine PySem.W.exc_clause_as (hit a _ τ G _ _ _ S3 type3 fun h4 c keep fits => ⟨true, fits, ?_⟩)
    rw [if_pos rfl]
    have fly4 := fly_on fly (show ∀ b o, h3.get? b = some o → h4.get? b = some o from keep)
    refine HandSPX.lands_againZ fly4 fun h5 fly5 up5 => ?_
    obtain ⟨o5, f5, at5, z5, dat5⟩ := fly5.there
    have J5 : Inv X pins τ G { s1 with heap := h5 } := J.landed ground fly5.1 (((up.trans up3).trans (Heap.UpToSlots.of_keeps keep)).trans up5) eos bare
    refine store_ok (X := X.suite a ((a, o5) :: (X.pn ++ pins))) (v := .ref a) (J5.suite at5 dat5 none_a notL notF) hN hi (.inl hln) rfl (fun s6 S6 => ?_) (.inr hln)
    have S7 : Inv (X.suite a (X.pn ++ pins)) [(a, o5)] (τ.set i (some (.ref a))) G s6 := ⟨good.suite a _, S6.os, S6.bare, S6.base, S6.loc, S6.cell, S6.free, S6.freeC, fun p hp => S6.pin p (by
      rcases List.mem_append.mp hp with q | q
      · exact List.mem_append_left _ (List.mem_cons_of_mem _ q)
      · rw [show p = (a, o5) by simpa using q]; exact List.mem_append_left _ List.mem_cons_self), S6.hok, S6.len⟩
    have S8 := track (X := X.suite a (X.pn ++ pins)) (pins := []) S7 new0 (fun p hp => other p (by simpa using hp)) z5 ⟨_, dat5⟩
    have back : ∀ {υ : L2.St} {G' : Hp} {s : Shared}, Inv (X.suite a (X.pn ++ pins)) [] υ G' s → Inv X pins υ G' s := fun K => ⟨good, K.os, K.bare, K.base, K.loc, K.cell, K.free, K.freeC, fun p hp => K.pin p (List.mem_append_left _ hp), K.hok, K.len⟩
    refine wpAny_mono ((hsu a (X.pn ++ pins)).run [] s6 _ _ _ S8 (go a none_a)) ?_ fun _ _ z => z.elim
    intro f s7 r7
    cases f with
    | ret u =>
      obtain ⟨v, υ, G7, K7, rv, q⟩ := r7
      exact gone_ok (back K7) hN hi hln fun s8 P8 => ⟨v, _, _, P8, rv, q⟩
    | next =>
      obtain ⟨υ, G7, K7, q⟩ := r7
      exact gone_ok (back K7) hN hi hln fun s8 P8 => ⟨_, _, P8, q⟩
    | brk =>
      obtain ⟨υ, G7, K7, q⟩ := r7
      exact gone_ok (back K7) hN hi hln fun s8 P8 => ⟨_, _, P8, q⟩
    | cont =>
      obtain ⟨υ, G7, K7, q⟩ := r7
      exact gone_ok (back K7) hN hi hln fun s8 P8 => ⟨_, _, P8, q⟩
end
def clearE (i : Nat) (ρ : VEnv) : Option VEnv := match ρ[i]? with
  | some (some (Sl.own _ _)) => none
  | _ => some (ρ.set i none)
def mRows (hit : List Nat) (i : Nat) (h k : VEnv → RS) : VEnv → RS := fun ρ => match h ρ with
  | .ex c ds ρ1 => if c ∈ hit then (match setV i (.exc c ds) ρ1 with
    | some ρ2 => (match k ρ2 with
      | .rt d ρ3 => .rt d ρ3
      | .nx ρ3 => (match clearE i ρ3 with
        | some ρ4 => .nx ρ4
        | none => .stuck)
      | _ => .stuck)
    | none => .stuck) else .stuck
  | r => r
theorem clear_rel {K : PySem.W.Frag} {T : Txt} {F Z H : Hp} {L : Nat → Option Addr} {σ : L2.St} {ρ ρ' : VEnv} {i : Nat} (r : Rel K T F Z L σ ρ H) (h : clearE i ρ = some ρ') : Rel K T F Z L (σ.set i none) ρ' H := by
  unfold clearE at h
  split at h
  · cases h
  · next no =>
    cases h
    have hL : ∀ b, L i ≠ some b := fun b e => by
      obtain ⟨_, m, z⟩ := r.lent i b e
      exact no true m z
    refine (r.drop (i := i) fun m e => no true m e).sig (vs := [i]) (fun b hb => List.getElem?_set_ne (by simpa using Ne.symm (by simpa using hb))) (by simp) (fun b hb s e => ?_) fun b hb => ?_
    · obtain rfl : b = i := by simpa using hb
      by_cases hlt : b < ρ.length
      · rw [List.getElem?_set_self hlt] at e; cases e
      · rw [List.getElem?_eq_none (by simpa using hlt)] at e; cases e
    · obtain rfl : b = i := by simpa using hb
      cases q3 : L b with
      | none => rfl
      | some z => exact absurd q3 (hL z)
section
variable {T : Txt} {X : Cx} {W : WX} {n : Str} {t : Expr} {i : Nat} {body suite : List Stmt} {s0 : Stmt} {pos pos' : Pos} {h k : VEnv → RS} {hit : List Nat}
theorem js_rows (hex : X.ex = []) (hs : X.stack = X.env :: X.outer) (hf : X.env.frame = some X.env.locals) (hN : X.N.Nodup) (hi : X.N[i]? = some n) (hln : X.env.kindOf n = some .local) (hx : ∀ c ∈ hit, Tests X t (.ref (T.cl c)))
    (hb : ∀ (W : WX) (pn : List (Addr × Obj)) (xe : Value → Shared → Prop), Takes (X.tr pn xe) W → PassesOwn (model X.prog X.w) X.A X.env xe → JSs T (X.tr pn xe) W body h)
    (hsu : ∀ (a : Addr) (pn : List (Addr × Obj)), JSs T (X.suite a pn) W0 (s0 :: suite) k) :
    JS T X W (.Try body [.ExceptHandler (some t) (some n) (s0 :: suite) pos'] [] [] pos) (mRows hit i h k) := fun ρ => by
  refine ps_weak (ps_rows (tb := fun W => rdS X.K T W ρ (h ρ)) hex hs hf hN hi hln (fun W pn xe t p => hb W pn xe t p ρ) fun a pn => pss_all (t := fun ρ2 => rdS X.K T W0 ρ2 (k ρ2)) fun ρ2 => hsu a pn ρ2) fun N σ H q => ?_
  unfold mRows at q
  cases g : h ρ with
  | ex c ds ρ1 =>
    rw [g] at q
    obtain ⟨F, Z, L, r, kk⟩ := q
    dsimp only at kk
    split at kk
    · next hc2 =>
      split at kk
      · next ρ2 q2 =>
        refine ⟨F, Z, L, r, fun cls dd τ F1 H1 e1 r1 xr => ?_⟩
        obtain ⟨rfl, vs, d1, d2, rp⟩ := xr
        refine ⟨hx c hc2, T.cl c, rfl, fun a na => ⟨ρ2, ?_⟩⟩
        have up1 : Ex F1 (upd F1 a (exH a (T.cl c) dd)) := Ex.new (r1.exF.none na)
        have r2 := (r1.new (o := exH a (T.cl c) dd) na).setV (v := .ref a) q2 ⟨a, dd, vs, rfl, upd_same, fun d ed => up1 _ _ (d1 d ed), d2, rp.mono up1⟩
        refine ⟨_, Z, L, r2, ?_⟩
        split at kk
        · next d ρ3 q3 =>
          rw [q3]
          exact fun v υ F' H' e' r' p' => kk v _ F' H' ((e1.trans up1).trans e') r' p'
        · next ρ3 q3 =>
          rw [q3]
          split at kk
          · next ρ4 q4 => exact fun υ F' H' e' r' => kk _ F' H' ((e1.trans up1).trans e') (clear_rel r' q4)
          · exact kk.elim
        · exact kk.elim
      · exact kk.elim
    · exact kk.elim
  | _ => rw [g] at q; exact q
end
end VS
set_option maxHeartbeats 2000000
set_option maxHeartbeats 2000000
namespace VS
open PySem L2 PySem.Spec PyProof.Rows
section
variable {K : PySem.W.Frag} {T : Txt} {F Z H : Hp} {L : Nat → Option Addr} {σ : L2.St} {ρ : VEnv} {i : Nat} {a : Addr} {o : HO} {m : MO}
theorem Rel.unhold (r0 : Rel K T F (upd Z a o) L σ ρ H) (hL : L i = none) (hs : σ[i]? = some (some (.ref a))) (hZ : Z a = none) (x : RepO K T F m o) : Rel K T F Z L σ (ρ.set i (some (Sl.own false m))) H := by
  have r := r0.dropL (i := i) hL
  have here : i < ρ.length := by rw [r0.len]; exact (List.getElem?_eq_some_iff.mp hs).1
  have at_a : H a = some o := r.exZ a o upd_same
  have noF : F a = none := by
    cases q : F a with
    | none => rfl
    | some u => have := r.dis a u q; rw [upd_same] at this; cases this
  have z0 : ∀ {b}, upd Z a o b = none → b ≠ a ∧ Z b = none := fun {b} q => by
    have e : b ≠ a := fun e => by rw [e, upd_same] at q; cases q
    rw [upd_ne e] at q
    exact ⟨e, q⟩
  have ne : ∀ {j : Nat} {s : Sl}, (ρ.set i (some (Sl.own false m)))[j]? = some (some s) → (j = i ∧ s = Sl.own false m) ∨ (j ≠ i ∧ (ρ.set i none)[j]? = some (some s)) := fun {j s} q => by
    by_cases e : j = i
    · subst e; rw [List.getElem?_set_self here] at q; cases q; exact .inl ⟨rfl, rfl⟩
    · rw [List.getElem?_set_ne (Ne.symm e)] at q ⊢; exact .inr ⟨e, q⟩
  have inn : ∀ {j k : Nat} {io : IO} {b : Addr}, Inn σ (ρ.set i (some (Sl.own false m))) H j k io b → Inn σ (ρ.set i none) H j k io b := fun {j k io b} ⟨l, c', fs, a', o', h1, h2, h3, h4, h5⟩ => by
    rcases ne h1 with ⟨_, q⟩ | ⟨_, q⟩
    · cases q; exact x.elim
    · exact ⟨l, c', fs, a', o', q, h2, h3, h4, h5⟩
  constructor
  · exact r.exF
  · exact fun b u q => r.exZ b u (by rw [upd_ne (ne_of_none q hZ)]; exact q)
  · exact fun b u q => (z0 (r.dis b u q)).2
  · simp [r0.len]
  · intro j d q
    rcases ne q with ⟨_, e⟩ | ⟨_, q1⟩
    · cases e
    · exact r.val j d q1
  · intro j l m' q
    rcases ne q with ⟨e1, e2⟩ | ⟨_, q1⟩
    · subst e1; cases e2; exact ⟨a, o, hs, noF, hZ, at_a, x.s⟩
    · obtain ⟨b, u, g1, g2, g3, g4, g5⟩ := r.own j l m' q1
      exact ⟨b, u, g1, g2, (z0 g3).2, g4, g5⟩
  · intro j k l m1 l' m2 b q1 q2 q3 q4
    rcases ne q1 with ⟨e1, _⟩ | ⟨_, p1⟩ <;> rcases ne q2 with ⟨e2, _⟩ | ⟨_, p2⟩
    · rw [e1, e2]
    · subst e1
      obtain ⟨b', u, g1, _, g3, _⟩ := r.own k l' m2 p2
      rw [hs] at q3; rw [g1] at q4
      cases q3; cases q4
      exact absurd rfl (z0 g3).1
    · subst e2
      obtain ⟨b', u, g1, _, g3, _⟩ := r.own j l m1 p1
      rw [hs] at q4; rw [g1] at q3
      cases q3; cases q4
      exact absurd rfl (z0 g3).1
    · exact r.sep j k _ _ _ _ b p1 p2 q3 q4
  · intro j b q
    obtain ⟨h1, m', h2⟩ := r.lent j b q
    have e : j ≠ i := fun z => by subst z; rw [hL] at q; cases q
    rw [List.getElem?_set_ne (Ne.symm e)] at h2
    exact ⟨h1, m', by rw [List.getElem?_set_ne (Ne.symm e)]; exact h2⟩
  · refine r.bx.gen (Ex.refl F) (fun j k io b h => inn h) (fun j k io b h h1 h2 o' h3 => ⟨h1, (z0 h2).2, h3⟩) fun j k io b j' l m' h q1 q2 => ?_
    rcases ne q1 with ⟨e1, _⟩ | ⟨_, q⟩
    · subst e1
      rw [hs] at q2; cases q2
      have := (r.bx.nest j k io a (inn h)).2.1
      exact absurd rfl (z0 this).1
    · exact ⟨j', l, m', q, q2⟩
theorem upd_swap {Z : Hp} {a b : Addr} {u w : HO} (h : a ≠ b) : upd (upd Z a u) b w = upd (upd Z b w) a u := by
  funext z
  by_cases e : z = b
  · subst e; rw [upd_same, upd_ne (Ne.symm h), upd_same]
  · rw [upd_ne e]
    by_cases e2 : z = a
    · subst e2; rw [upd_same, upd_same]
    · rw [upd_ne e2, upd_ne e2, upd_ne e]
end
def mLcS (i : Nat) (vs : List Nat) (t : D → VEnv → Option VEnv) (tt : Ev Bool) (te : Ev D) : Ev D := fun ρ => match ρ[i]? with
  | some (some (Sl.own false (.lst xs))) => if cleared (ρ.set i none) vs = true then (lcGo vs t tt te xs [] (wipeE (ρ.set i none) vs)).bind fun zs ρe => .ok (.lst zs) ((restoreE (ρ.set i none) ρe vs).set i (some (Sl.own false (.lst xs)))) else .stuck
  | _ => .stuck
section
variable {T : Txt} {X : Cx} {W : WX} {tg elt e a b c : Expr} {iter : Expr} {ifs : List Expr} {pos p : Pos} {K : PySem.W.Frag}
theorem lc_coreO {i : Nat} {vs ws : List Nat} {t : D → VEnv → Option VEnv} {tt : Ev Bool} {te : Ev D} (hws : ∀ i ∈ ws, i ∈ vs) {ρ ρe : VEnv} {σ : L2.St} {H : Hp} {Q : VK} {xs zs : List D} (hi : ρ[i]? = some (some (Sl.own false (.lst xs)))) (hcl : cleared (ρ.set i none) vs = true)
    (hz : lcGo vs t tt te xs [] (wipeE (ρ.set i none) vs) = .ok zs ρe) {F Z : Hp} {L : Nat → Option Addr} (r : Rel K T F Z L σ ρ H)
    (k : ∀ D0 acc F' H', Ex F F' → Z D0 = none → Rel K T F' (upd Z D0 (.lst acc)) L σ ((restoreE (ρ.set i none) ρe vs).set i (some (Sl.own false (.lst xs)))) H' → Reps K T F' zs acc → Q (.ref D0) H') :
    tLc (iList K (tVar i)) (rdG K T ws t) (fun σ H Q => ∃ ρ, rdT K T W0 ρ (tt ρ) σ H Q) (fun σ H Q => ∃ ρ, rdE K T W0 ρ (te ρ) σ H Q) vs σ H Q := by
  obtain ⟨b, ob, g1, gF, gZ, gH, us, rfl, gr⟩ := r.own i false _ hi
  have hLi : L i = none := by
    cases q : L i with
    | none => rfl
    | some z => obtain ⟨_, m', h2⟩ := r.lent i z q; rw [hi] at h2; cases h2
  refine ⟨_, g1, b, rfl, ⟨us, SqL.of gH⟩, fun D0 hD => ?_⟩
  have rh := r.hold hi g1 gF gZ gH
  have apart : b ≠ D0 := fun z => by rw [z, hD] at gH; cases gH
  have hZD : Z D0 = none := r.exZ.none hD
  have hLn : ∀ i ∈ vs, L i = none := fun j hj => by
    cases q : L j with
    | none => rfl
    | some z => obtain ⟨_, m, h2⟩ := rh.lent j z q; exact absurd h2 (cleared_in hcl hj _ _)
  have r2 : Rel K T F (upd (upd Z b (.lst us)) D0 (.lst [])) L (wipe σ vs) (wipeE (ρ.set i none) vs) (upd H D0 (.lst [])) := ((rh.zNew hD).wipeE hLn).sig (fun i hi => wipe_out hi) (wipe_length σ vs) (fun i hi => wipeE_in hi) hLn
  have lies : ∀ {F' : Hp} {acc : List V} {ρi : VEnv} {H' : Hp}, Rel K T F' (upd (upd Z b (.lst us)) D0 (.lst acc)) L (wipe σ vs) ρi H' → H' b = some (.lst us) := fun r' => r'.exZ b _ (by rw [upd_ne apart, upd_same])
  refine ⟨fun i m H => m = xs.length - i ∧ i ≤ xs.length ∧ ∃ ρi F' acc ys, Ex F F' ∧ Rel K T F' (upd (upd Z b (.lst us)) D0 (.lst acc)) L (wipe σ vs) ρi H ∧ Reps K T F' ys acc ∧ (∀ i ∈ vs, ∀ s, ρi[i]? ≠ some (some s)) ∧ lcGo vs t tt te (xs.drop i) ys ρi = .ok zs ρe,
    ⟨_, rfl, Nat.zero_le _, _, F, [], [], Ex.refl F, r2, rfl, fun i hi => wipeE_in hi, hz⟩, ?_⟩
  rintro j m H2 ⟨rfl, hj, ρi, F', acc, ys, e2, r3, ra, hn, hgo⟩
  have atB := lies r3
  have lenU : us.length = xs.length := gr.length
  by_cases hlt : j < xs.length
  · refine .inr ⟨⟨us, us[j]'(by omega), SqL.of atB, by simp [lenU, hlt]⟩, _, fun H' h => ⟨xs.length - (j + 1), by omega, rfl, hlt, h⟩, fun x H' y => ?_⟩
    have hd : xs[j]? = some xs[j] := by simp [hlt]
    obtain ⟨rfl, q⟩ := y
    obtain ⟨v, h1, h2⟩ := gr.get hd
    have hx := q us (SqL.of atB)
    rw [h1] at hx; cases hx
    have px := h2.mono e2
    rw [List.drop_eq_getElem_cons hlt] at hgo
    simp only [lcGo] at hgo
    cases q2 : t xs[j] ρi with
    | none => rw [q2] at hgo; cases hgo
    | some ρ2 =>
      rw [q2] at hgo
      dsimp only at hgo
      refine ⟨xs[j], ρi, ρ2, F', upd (upd Z b (.lst us)) D0 (.lst acc), L, q2, r3, px, fun σ5 F5 H5 s5 l5 e5 r5 => ⟨?_, ρ2, ?_⟩⟩
      · have s6 : ∀ i : Nat, i ∉ vs → σ5[i]? = σ[i]? := fun i hi => by rw [s5 i (fun z => hi (hws i z)), wipe_out hi]
        exact wipe_eq s6 (l5.trans (wipe_length σ vs))
      · have s6 : ∀ i : Nat, i ∉ vs → (wipe σ vs)[i]? = σ5[i]? := fun i hi => (s5 i (fun z => hi (hws i z))).symm
        have l6 : (wipe σ vs).length = σ5.length := l5.symm
        cases q3 : tt ρ2 with
        | stuck => rw [q3] at hgo; cases hgo
        | ex c ds ρ3 => rw [q3] at hgo; cases hgo
        | ok t3 ρ3 =>
          rw [q3] at hgo
          cases t3 with
          | false =>
            dsimp only at hgo
            refine ⟨F5, _, L, r5, fun F6 H6 e6 r6 => iteF ⟨_, F6, acc, ys, (e2.trans e5).trans e6, ?_, (ra.mono e5).mono e6, fun i hi => wipeE_in hi, hgo⟩⟩
            exact (r6.wipeE hLn).sig s6 l6 (fun i hi => wipeE_in hi) hLn
          | true =>
            dsimp only at hgo
            refine ⟨F5, _, L, r5, fun F6 H6 e6 r6 => iteT ⟨ρ3, ?_⟩⟩
            cases q4 : te ρ3 with
            | stuck => rw [q4] at hgo; cases hgo
            | ex c ds ρ4 => rw [q4] at hgo; cases hgo
            | ok y4 ρ4 =>
              rw [q4] at hgo
              dsimp only at hgo
              split at hgo
              · rename_i hlen
                refine ⟨F6, _, L, r6, fun v F7 H7 e7 r7 p7 => ⟨acc, r7.exZ _ _ upd_same, ?_, ?_⟩⟩
                · rw [ra.length]; exact lt_line hlen
                · refine ⟨_, F7, acc ++ [v], ys ++ [y4], ((e2.trans e5).trans e6).trans e7, ?_, (((ra.mono e5).mono e6).mono e7).append (Reps.one p7), fun i hi => wipeE_in hi, hgo⟩
                  exact ((r7.zSet).wipeE hLn).sig s6 l6 (fun i hi => wipeE_in hi) hLn
              · cases hgo
  · have e : j = xs.length := by omega
    subst e
    rw [List.drop_length] at hgo
    simp only [lcGo] at hgo
    cases hgo
    refine .inl ⟨⟨us, SqL.of atB, by omega⟩, k D0 acc F' H2 e2 hZD ?_ ra⟩
    have r4 := rh.restore e2 hLn (r3.sig (fun i hi => (wipe_out hi).symm) (wipe_length σ vs).symm hn hLn)
    rw [upd_swap apart] at r4
    exact r4.unhold hLi g1 (by rw [upd_ne apart]; exact gZ) ⟨us, rfl, gr.mono e2⟩
theorem je_lcO {i : Nat} {vs ws : List Nat} {t : D → VEnv → Option VEnv} {tt : Ev Bool} {te : Ev D} {scope : Scope} {own : List (Str × Nat)} (hc : X.calm = true) (hN : X.N.Nodup) (hi : PE X iter (tVar i)) (ok : BlkOk X.N X.env.scope scope own) (hv : own.map (·.2) = vs)
    (hg : ∀ (s : Shared) (H : Hp) (C : Addr) (cl : List (Str × Addr)) (fp : List Addr), JG T (X.blk s H scope (compEnvC scope cl C X.env) fp) tg ws t)
    (ht : ∀ (s : Shared) (H : Hp) (C : Addr) (cl : List (Str × Addr)) (fp : List Addr), JTs T (X.blk s H scope (compEnvC scope cl C X.env) fp) W0 ifs tt)
    (he : ∀ (s : Shared) (H : Hp) (C : Addr) (cl : List (Str × Addr)) (fp : List Addr), JE T (X.blk s H scope (compEnvC scope cl C X.env) fp) W0 elt te) (hws : ∀ i ∈ ws, i ∈ vs)
    (hf : ∀ x, foldedSetIterable iter X.env x = pure x := by intro _; rfl) : JE T X W (.ListComp elt [⟨tg, iter, ifs, 0⟩] scope pos) (mLcS i vs t tt te) := fun ρ => by
  subst hv
  have rule := pe_lc (pos := pos) (g := rdG X.K T ws t) (tt := fun σ H Q => ∃ ρ, rdT X.K T W0 ρ (tt ρ) σ H Q) (te := fun σ H Q => ∃ ρ, rdE X.K T W0 ρ (te ρ) σ H Q) hc hN (pi_list hi) ok (fun s H C cl fp => hg s H C cl fp)
    (fun s H C cl fp => ⟨fun pins s' σ' H' Q' I ⟨ρ', q⟩ => (ht s H C cl fp ρ').run pins s' σ' H' Q' I q⟩) (fun s H C cl fp => ⟨fun pins s' σ' H' Q' I ⟨ρ', q⟩ => (he s H C cl fp ρ').run pins s' σ' H' Q' I q⟩) hf
  unfold mLcS
  split
  · rename_i xs q0
    split
    · rename_i hcl
      cases q5 : lcGo (own.map (·.2)) t tt te xs [] (wipeE (ρ.set i none) (own.map (·.2))) with
      | stuck => exact pe_no
      | ex c ds ρ1 => exact absurd q5 lcGo_ok
      | ok zs ρe =>
        simp only [R.bind_ok]
        refine pe_weak rule fun σ H Q q => ?_
        obtain ⟨F, Z, L, r, k⟩ := q
        exact lc_coreO hws q0 hcl q5 r fun D0 acc F' H' e hz r' ra => k _ _ H' (e.trans (Ex.new (by
          cases q : F' D0 with
          | none => rfl
          | some u => have := r'.dis D0 u q; rw [upd_same] at this; cases this))) (r'.zF hz) ⟨D0, acc, rfl, upd_same, ra.mono (Ex.new (r'.zDrop hz).2.1)⟩
    · exact pe_no
  · exact pe_no
end
end VS
set_option maxHeartbeats 2000000
set_option maxHeartbeats 2000000
set_option maxHeartbeats 2000000
set_option maxHeartbeats 2000000
set_option maxHeartbeats 2000000
set_option maxHeartbeats 2000000
namespace VS
open PySem L2 PySem.Spec PyProof.Rows
section
variable {K : PySem.W.Frag} {T : Txt} {F Z H : Hp} {L : Nat → Option Addr} {σ : L2.St} {ρ : VEnv} {i : Nat} {a : Addr} {o : HO} {m : MO}
theorem Rel.letgo {d : D} (r : Rel K T F Z L σ ρ H) (hi : ρ[i]? = some (some (Sl.own false m))) (hs : σ[i]? = some (some (.ref a))) (hF : F a = none) (hZ : Z a = none) (hH : H a = some o) (hd : Rep K T (upd F a o) d (.ref a)) : Rel K T (upd F a o) Z L σ (ρ.set i (some (Sl.val d))) H := by
  have here : i < ρ.length := (List.getElem?_eq_some_iff.mp hi).1
  have split : ∀ {j : Nat} {s : Sl}, (ρ.set i (some (Sl.val d)))[j]? = some (some s) → (j = i ∧ s = Sl.val d) ∨ (j ≠ i ∧ ρ[j]? = some (some s)) := fun {j s} q => by
    by_cases e : j = i
    · subst e; rw [List.getElem?_set_self here] at q; cases q; exact .inl ⟨rfl, rfl⟩
    · rw [List.getElem?_set_ne (Ne.symm e)] at q; exact .inr ⟨e, q⟩
  have inn : ∀ {j k : Nat} {io : IO} {b : Addr}, Inn σ (ρ.set i (some (Sl.val d))) H j k io b → Inn σ ρ H j k io b := fun {j k io b} ⟨l, c', fs, a', o', h1, h2, h3, h4, h5⟩ => by
    rcases split h1 with ⟨_, q⟩ | ⟨_, q⟩
    · cases q
    · exact ⟨l, c', fs, a', o', q, h2, h3, h4, h5⟩
  constructor
  · intro b u q
    by_cases e : b = a
    · subst e; rw [upd_same] at q; cases q; exact hH
    · rw [upd_ne e] at q; exact r.exF b u q
  · exact r.exZ
  · intro b u q
    by_cases e : b = a
    · subst e; exact hZ
    · rw [upd_ne e] at q; exact r.dis b u q
  · simp [r.len]
  · intro j d' q
    rcases split q with ⟨rfl, e⟩ | ⟨_, q1⟩
    · cases e; exact ⟨_, hs, hd⟩
    · obtain ⟨v, h1, h2⟩ := r.val j d' q1
      exact ⟨v, h1, h2.mono (Ex.new hF)⟩
  · intro j l m' q
    rcases split q with ⟨_, e⟩ | ⟨e, q1⟩
    · cases e
    · obtain ⟨b, u, g1, g2, g3, g4, g5⟩ := r.own j l m' q1
      have apart : b ≠ a := fun z => by subst z; exact e (r.sep j i _ _ _ _ b q1 hi g1 hs)
      exact ⟨b, u, g1, by rw [upd_ne apart]; exact g2, g3, g4, g5.mono (Ex.new hF)⟩
  · intro j k l m1 l' m2 b q1 q2 q3 q4
    rcases split q1 with ⟨_, e⟩ | ⟨_, p1⟩
    · cases e
    · rcases split q2 with ⟨_, e⟩ | ⟨_, p2⟩
      · cases e
      · exact r.sep j k _ _ _ _ b p1 p2 q3 q4
  · intro j b q
    obtain ⟨h1, m', h2⟩ := r.lent j b q
    have e : j ≠ i := fun z => by subst z; rw [hi] at h2; cases h2
    exact ⟨h1, m', by rw [List.getElem?_set_ne (Ne.symm e)]; exact h2⟩
  · refine r.bx.gen (Ex.new hF) (fun j k io b h => inn h) (fun j k io b h h1 h2 o' h3 => ?_) fun j k io b j' l m' h q1 q2 => ?_
    · have apart : b ≠ a := fun z => by subst z; exact r.bx.nsep j k io b i _ _ (inn h) hi hs
      exact ⟨by rw [upd_ne apart]; exact h1, h2, h3⟩
    · rcases split q1 with ⟨_, q⟩ | ⟨_, q⟩
      · cases q
      · exact ⟨j', l, m', q, q2⟩
end
end VS
set_option maxHeartbeats 2000000
set_option maxHeartbeats 2000000
namespace VS
open PySem L2 PySem.Spec PyProof.Rows
def mGo (i : Nat) : Ev D := fun ρ => match ρ[i]? with
  | some (some (Sl.own false m)) => .ok m.frz (ρ.set i (some (Sl.val m.frz)))
  | some (some (Sl.val d)) => .ok d ρ
  | _ => .stuck
section
variable {T : Txt} {X : Cx} {W : WX} {e a b : Expr} {i : Nat} {pos : Pos}
theorem je_go (hi : PE X e (tVar i)) : JE T X W e (mGo i) := fun ρ => by
  unfold mGo
  split
  · rename_i m q0
    refine pe_weak hi fun σ H Q ⟨F, Z, L, r, k⟩ => ?_
    obtain ⟨b, ob, g1, gF, gZ, gH, g5⟩ := r.own i false _ q0
    exact ⟨_, g1, k _ _ _ (Ex.new gF) (r.letgo q0 g1 gF gZ gH (g5.frz gF)) (g5.frz gF)⟩
  · rename_i d q0
    refine pe_weak hi fun σ H Q ⟨F, Z, L, r, k⟩ => ?_
    obtain ⟨v, g1, g2⟩ := r.val i d q0
    exact ⟨v, g1, k v F H (Ex.refl F) r g2⟩
  · exact pe_no
end
def mParFF (i j : Nat) (ga gb : Ev MO) : VEnv → RS := fun ρ => (ga ρ).thenM fun x ρ1 => (gb ρ1).thenM fun y ρ2 => setOS i x ρ2 fun ρ3 => setOS j y ρ3 .nx
theorem updz {Z : Hp} {a b : Addr} {o u : HO} (h : upd Z a o b = none) : b ≠ a ∧ Z b = none := by
  have e : b ≠ a := fun e => by rw [e, upd_same] at h; cases h
  rw [upd_ne e] at h
  exact ⟨e, h⟩
section
variable {T : Txt} {X : Cx} {W : WX} {a b : Expr} {pos : Pos} {i j : Nat} {x y : Str} {px py pt pt2 : Pos} {kt k2 : Nat}
theorem js_parFF {ga gb : Ev MO} (hc : X.calm = true) (hN : X.N.Nodup) (hi : X.N[i]? = some x) (hj : X.N[j]? = some y) (hij : i ≠ j) (hx : X.env.scope.names.lookup x = some .local) (hy : X.env.scope.names.lookup y = some .local)
    (ha : JF T X W a ga) (hb : JF T X W b gb) (hw : swappedStores [.Tuple [.Name x px, .Name y py] kt pt] (.Tuple [a, b] k2 pt2) X.env = pure (some [x, y]))
    (hs : starEach [a, b] X.env = (false, eval a X.env) :: starEach [b] X.env := by rfl) (hs2 : starEach [b] X.env = (false, eval b X.env) :: starEach [] X.env := by rfl) :
    JS T X W (.Assign [.Tuple [.Name x px, .Name y py] kt pt] (.Tuple [a, b] k2 pt2) pos) (mParFF i j ga gb) := fun ρ => by
  have rule : ∀ ta tb, PE X a ta → PE X b tb → PS X (.Assign [.Tuple [.Name x px, .Name y py] kt pt] (.Tuple [a, b] k2 pt2) pos) (tPar i j (tCons ta (tCons tb tNil))) :=
    fun ta tb h1 h2 => ps_par hc hN hi hj hij hx hy (pa_cons h1 (pa_cons h2 pa_nil hs2) hs) hw
  have p1 := ha ρ
  unfold mParFF
  cases q1 : ga ρ with
  | stuck => exact js_never ρ
  | ex c ds ρ1 => rw [q1] at p1; exact ps_weak (rule _ _ p1 pe_no) fun N σ H ⟨F, Z, L, r, k⟩ => ⟨F, Z, L, r, fun cls dd F' H' e r' x => k cls dd σ F' H' e r' x⟩
  | ok d ρ1 =>
    rw [q1] at p1
    have p2 := hb ρ1
    show PS X _ (rdS X.K T W ρ ((gb ρ1).thenM fun y ρ2 => setOS i d ρ2 fun ρ3 => setOS j y ρ3 .nx))
    cases q2 : gb ρ1 with
    | stuck => exact js_never ρ
    | ex c ds ρ2 =>
      rw [q2] at p2
      exact ps_weak (rule _ _ p1 p2) fun N σ H ⟨F, Z, L, r, k⟩ => ⟨F, Z, L, r, fun a1 o1 F1 H1 e1 z1 r1 x1 => ⟨F1, upd Z a1 o1, L, r1, fun cls dd F' H' e r' x => k cls dd σ F' H' (e1.trans e) (r'.zDrop z1).1 x⟩⟩
    | ok d2 ρ2 =>
      rw [q2] at p2
      refine ps_weak (rule _ _ p1 p2) fun N σ H ⟨F, Z, L, r, k⟩ => ⟨F, Z, L, r, fun a1 o1 F1 H1 e1 z1 r1 x1 => ⟨F1, upd Z a1 o1, L, r1, fun a2 o2 F2 H2 e2 z2 r2 x2 => ?_⟩⟩
      obtain ⟨ne, z3⟩ := updz (u := o1) z2
      obtain ⟨ρ3, q3, k⟩ := setOS_ks k
      obtain ⟨ρ4, q4, k⟩ := setOS_ks k
      rw [upd_swap (Ne.symm ne)] at r2
      have r3 := r2.setO (by rw [upd_ne (Ne.symm ne)]; exact z1) q3 (x1.mono e2)
      exact ⟨.ref a1, .ref a2, rfl, k _ F2 H2 (e1.trans e2) (r3.setO z3 q4 x2)⟩
end
end VS
set_option maxHeartbeats 2000000
set_option maxHeartbeats 2000000
set_option maxHeartbeats 2000000
set_option maxHeartbeats 2000000
namespace VS
open PySem L2 PySem.Spec PyProof.Rows
abbrev rowP (r : List Str) : PyData := .tuple (r.map PyData.str)
end VS
set_option maxHeartbeats 2000000
set_option maxHeartbeats 2000000
set_option maxHeartbeats 2000000
set_option maxHeartbeats 2000000
set_option maxHeartbeats 2000000
namespace VS
open PySem L2 PySem.Spec PyProof.Rows
def IO.frz : IO → D
  | .lst xs => .lst xs
  | .dct kvs => .dct kvs
  | .dtt kvs => .dtt kvs
section
variable {K : PySem.W.Frag} {T : Txt} {F F' Z H : Hp} {L : Nat → Option Addr} {σ : L2.St} {ρ : VEnv} {i k c : Nat} {l : Bool} {a : Addr} {o : HO} {fs : List (D ⊕ IO)} {vs : List V}
theorem RepFs.length : ∀ {fs : List (D ⊕ IO)} {vs : List V}, RepFs K T F fs vs → vs.length = fs.length
  | [], _, h => by rw [show _ = ([] : List V) from h]; rfl
  | .inl d :: fs, _, ⟨v, ws, e1, h, r⟩ => by rw [e1]; simp [RepFs.length r]
  | .inr io :: fs, _, ⟨b, ws, e1, r⟩ => by rw [e1]; simp [RepFs.length r]
theorem RepFs.getL : ∀ {fs : List (D ⊕ IO)} {vs : List V} {k : Nat} {d : D}, RepFs K T F fs vs → fs[k]? = some (.inl d) → ∃ v, vs[k]? = some v ∧ Rep K T F d v
  | [], _, k, d, _, h => by simp at h
  | .inl x :: fs, _, 0, d, ⟨v, ws, e1, h, r⟩, q => by simp at q; subst q; exact ⟨v, by rw [e1]; rfl, h⟩
  | .inr io :: fs, _, 0, d, ⟨b, ws, e1, r⟩, q => by simp at q
  | .inl x :: fs, _, k + 1, d, ⟨v, ws, e1, h, r⟩, q => by
    obtain ⟨u, h1, h2⟩ := RepFs.getL (k := k) (d := d) r (by simpa using q)
    exact ⟨u, by rw [e1]; simpa using h1, h2⟩
  | .inr io :: fs, _, k + 1, d, ⟨b, ws, e1, r⟩, q => by
    obtain ⟨u, h1, h2⟩ := RepFs.getL (k := k) (d := d) r (by simpa using q)
    exact ⟨u, by rw [e1]; simpa using h1, h2⟩
theorem RepFs.getR : ∀ {fs : List (D ⊕ IO)} {vs : List V} {k : Nat} {io : IO}, RepFs K T F fs vs → fs[k]? = some (.inr io) → ∃ b, vs[k]? = some (.ref b)
  | [], _, k, d, _, h => by simp at h
  | .inl x :: fs, _, 0, d, ⟨v, ws, e1, h, r⟩, q => by simp at q
  | .inr io :: fs, _, 0, d, ⟨b, ws, e1, r⟩, q => ⟨b, by rw [e1]; rfl⟩
  | .inl x :: fs, _, k + 1, d, ⟨v, ws, e1, h, r⟩, q => by
    obtain ⟨u, h1⟩ := RepFs.getR (k := k) (io := d) r (by simpa using q)
    exact ⟨u, by rw [e1]; simpa using h1⟩
  | .inr io :: fs, _, k + 1, d, ⟨b, ws, e1, r⟩, q => by
    obtain ⟨u, h1⟩ := RepFs.getR (k := k) (io := d) r (by simpa using q)
    exact ⟨u, by rw [e1]; simpa using h1⟩
theorem RepFs.of : ∀ {ds : List D} {vs : List V}, Reps K T F ds vs → RepFs K T F (ds.map .inl) vs
  | [], _, h => h
  | _ :: _, _, ⟨v, ws, e1, h, r⟩ => ⟨v, ws, e1, h, RepFs.of r⟩
theorem field_zip {C dx : Addr} {ns : List Str} (h : vs.length ≤ ns.length) : fieldAt (.ins C dx (ns.zip vs)) k = vs[k]? := by
  show ((ns.zip vs)[k]?).map (·.2) = _
  by_cases hk : k < vs.length
  · have hk2 : k < ns.length := by omega
    rw [List.getElem?_eq_getElem (l := ns.zip vs) (i := k) (by rw [List.length_zip]; omega), List.getElem?_eq_getElem hk]
    simp
  · rw [List.getElem?_eq_none (l := vs) (by omega), List.getElem?_eq_none (l := ns.zip vs) (by rw [List.length_zip]; omega)]; rfl
theorem Rel.box (r : Rel K T F Z L σ ρ H) (hi : ρ[i]? = some (some (Sl.own l (.box c fs)))) : ∃ a dx vs, σ[i]? = some (some (.ref a)) ∧ F a = none ∧ Z a = none ∧ H a = some (.ins (T.cl c) dx ((T.fl c).zip vs)) ∧ vs.length ≤ (T.fl c).length ∧ RepFs K T F fs vs ∧
    ∀ k io, fs[k]? = some (.inr io) → ∃ b, vs[k]? = some (.ref b) ∧ Inn σ ρ H i k io b := by
  obtain ⟨a, o, h1, h2, h3, h4, dx, vs, e, h5, h6⟩ := r.own i l _ hi
  subst e
  refine ⟨a, dx, vs, h1, h2, h3, h4, h5, h6, fun k io hk => ?_⟩
  obtain ⟨b, hb⟩ := h6.getR hk
  exact ⟨b, hb, l, c, fs, a, _, hi, hk, h1, h4, by rw [field_zip h5]; exact hb⟩
end
end VS
set_option maxHeartbeats 2000000
set_option maxHeartbeats 2000000
set_option maxHeartbeats 2000000
set_option maxHeartbeats 2000000
set_option maxHeartbeats 2000000
set_option maxHeartbeats 2000000
set_option maxHeartbeats 2000000
set_option maxHeartbeats 2000000
set_option maxHeartbeats 2000000
set_option maxHeartbeats 2000000
set_option maxHeartbeats 2000000
set_option maxHeartbeats 2000000
set_option maxHeartbeats 2000000
set_option maxHeartbeats 2000000
namespace VS
open PySem L2 PySem.Spec PyProof.Rows
def gx : Nat → Nat
  | 0 => 0
  | n + 1 => 5 * gx n + 1
theorem gx_pow : ∀ n, 5 ^ n = 4 * gx n + 1
  | 0 => rfl
  | n + 1 => by rw [Nat.pow_succ, gx_pow n, gx]; omega
theorem gx_add (a : Nat) : ∀ b, gx (a + b) = 5 ^ b * gx a + gx b
  | 0 => by simp [gx]
  | b + 1 => by
    rw [← Nat.add_assoc, gx, gx_add a b, gx, Nat.pow_succ, Nat.mul_add, Nat.mul_comm (5 ^ b) 5, Nat.mul_assoc]
    omega
theorem gx_two : ∀ k, ∃ q, gx (2 ^ k) = 2 ^ k * (2 * q + 1)
  | 0 => ⟨0, by simp [gx]⟩
  | k + 1 => by
    obtain ⟨q, e⟩ := gx_two k
    refine ⟨q + gx (2 ^ k) * (2 * q + 1), ?_⟩
    rw [Nat.pow_succ, Nat.mul_two, gx_add, gx_pow]
    generalize gx (2 ^ k) = G at *
    generalize 2 ^ k = B at *
    subst e
    grind
theorem gx_full : ∀ k j, j < 2 ^ k → ∃ b, b < 2 ^ k ∧ gx b % 2 ^ k = j
  | 0, j, lt => ⟨0, by simp, by simp at lt; subst lt; rfl⟩
  | k + 1, j, lt => by
    have pos : 0 < 2 ^ k := Nat.pow_pos (by decide)
    obtain ⟨b, hb, e⟩ := gx_full k (j % 2 ^ k) (Nat.mod_lt _ pos)
    obtain ⟨q, hq⟩ := gx_two k
    have two : 2 ^ (k + 1) = 2 * 2 ^ k := by rw [Nat.pow_succ, Nat.mul_comm]
    have more : gx (b + 2 ^ k) = gx b + 2 ^ k + (2 * 2 ^ k) * (q + 2 * gx b * (2 * q + 1)) := by
      rw [gx_add, gx_pow, hq]
      generalize 2 ^ k = B
      generalize gx b = Y
      grind
    rw [two] at lt ⊢
    generalize 2 ^ k = B at *
    by_cases c : gx b % (2 * B) = j
    · exact ⟨b, by omega, c⟩
    · refine ⟨b + B, by omega, ?_⟩
      rw [more, Nat.add_mul_mod_self_left]
      have r1 : gx b % (2 * B) % B = j % B := by rw [Nat.mod_mod_of_dvd _ ⟨2, Nat.mul_comm 2 B⟩, e]
      have r2 : gx b % (2 * B) < 2 * B := Nat.mod_lt _ (by omega)
      have r3 : (gx b + B) % (2 * B) = (gx b % (2 * B) + B) % (2 * B) := by simp [Nat.add_mod]
      rw [r3]
      generalize gx b % (2 * B) = r at *
      by_cases c1 : r < B
      · rw [Nat.mod_eq_of_lt c1] at r1
        by_cases c2 : j < B
        · rw [Nat.mod_eq_of_lt c2] at r1; exact absurd r1 c
        · rw [Nat.mod_eq_sub_mod (by omega), Nat.mod_eq_of_lt (show j - B < B by omega)] at r1
          rw [Nat.mod_eq_of_lt (by omega)]; omega
      · rw [Nat.mod_eq_sub_mod (by omega), Nat.mod_eq_of_lt (show r - B < B by omega)] at r1
        by_cases c2 : j < B
        · rw [Nat.mod_eq_of_lt c2] at r1
          rw [Nat.mod_eq_sub_mod (by omega), Nat.mod_eq_of_lt (by omega)]; omega
        · rw [Nat.mod_eq_sub_mod (by omega), Nat.mod_eq_of_lt (show j - B < B by omega)] at r1
          exact absurd (by omega) c
theorem lcg_gx (m : Nat) : ∀ n, lcgN m n = gx n % (m + 1)
  | 0 => by simp [lcgN, gx]
  | n + 1 => by
    show (lcgN m n * 5 + 1) % (m + 1) = _
    rw [lcg_gx m n, gx, Nat.mul_comm]
    simp [Nat.add_mod, Nat.mul_mod]
def Msk (m : Nat) : Prop := m = 7 ∨ m = 31 ∨ m = 127 ∨ m = 511 ∨ m = 2047 ∨ m = 8191
theorem Msk.pow {m : Nat} (M : Msk m) : ∃ k, m + 1 = 2 ^ k := by
  rcases M with rfl | rfl | rfl | rfl | rfl | rfl
  · exact ⟨3, rfl⟩
  · exact ⟨5, rfl⟩
  · exact ⟨7, rfl⟩
  · exact ⟨9, rfl⟩
  · exact ⟨11, rfl⟩
  · exact ⟨13, rfl⟩
theorem Msk.most {m : Nat} (M : Msk m) : m ≤ 8191 ∧ 7 ≤ m ∧ m % 2 = 1 := by
  rcases M with rfl | rfl | rfl | rfl | rfl | rfl <;> decide
theorem Msk.round {m : Nat} (M : Msk m) {i j : Nat} (hi : i ≤ m) (hj : j ≤ m) : ∃ n, n ≤ m ∧ lcgI m i n = j := by
  obtain ⟨k, e⟩ := M.pow
  obtain ⟨a, ha, ea⟩ := gx_full k i (by omega)
  obtain ⟨b, hb, eb⟩ := gx_full k j (by omega)
  rw [← e] at ea eb ha hb
  rw [← lcg_gx] at ea eb
  subst ea
  by_cases c : a ≤ b
  · refine ⟨b - a, by omega, ?_⟩
    rw [lcgN_add, Nat.add_sub_cancel' c, eb]
  · refine ⟨m + 1 - a + b, by omega, ?_⟩
    obtain ⟨q, hq⟩ := gx_two k
    rw [lcgN_add, show a + (m + 1 - a + b) = m + 1 + b by omega, lcg_gx, gx_add, e, hq, ← eb, lcg_gx, e, Nat.mul_left_comm, Nat.mul_add_mod_self_left]
theorem Msk.run {m : Nat} (M : Msk m) (h : Int) {j : Nat} (hj : j ≤ m) : ∃ n, n ≤ m + 12 ∧ runI m (SetTable.bits h) n = j := by
  obtain ⟨n, few, at_j⟩ := M.round (runI_le m (SetTable.bits h) 12) hj
  exact ⟨12 + n, by omega, (runI_tail (bits_lt h) n).trans at_j⟩
theorem Msk.way {m : Nat} (M : Msk m) (h : Int) {j : Nat} (hj : j ≤ m) : ∃ k, k < 10 * SetTable.turns m ∧ way m h k = j := by
  obtain ⟨n, few, at_j⟩ := M.run h hj
  obtain ⟨k, hk, e⟩ := run_nth m (SetTable.bits h) n
  refine ⟨k, by unfold SetTable.turns; omega, ?_⟩
  have := congrArg SetTable.Probe.j e
  exact this.trans at_j
theorem way_in (m : Nat) (h : Int) (k : Nat) : way m h k ≤ m := by
  have low : SetTable.bits h % (m + 1) ≤ m := Nat.le_of_lt_succ (Nat.mod_lt _ (Nat.succ_pos _))
  have ends := runEnd_bd low
  have := nth_in (m := m) k (runAt m (SetTable.bits h % (m + 1)) (SetTable.bits h)) (by
    show SetTable.bits h % (m + 1) + (SetTable.runEnd m _ - SetTable.bits h % (m + 1)) ≤ m
    omega)
  exact Nat.le_trans (Nat.le_add_right _ _) this
theorem zip_ins {α β : Type} (a : α) (b : β) : ∀ (p : Nat) (xs : List α) (ys : List β), xs.length = ys.length → (xs.take p ++ a :: xs.drop p).zip (ys.take p ++ b :: ys.drop p) = (xs.zip ys).take p ++ (a, b) :: (xs.zip ys).drop p
  | 0, xs, ys, _ => by simp
  | p + 1, [], [], _ => by simp
  | p + 1, x :: xs, y :: ys, e => by
    have := zip_ins a b p xs ys (by simpa using e)
    simpa using this
  | p + 1, [], y :: ys, e => by cases e
  | p + 1, x :: xs, [], e => by cases e
def Come (t : SetTable) (h : Int) (j : Nat) : Prop := ∃ c, way t.mask h c = j ∧ ∀ b, b < c → way t.mask h b ∈ t.place.toList
structure TabG (t : SetTable) (hs : List Int) : Prop where
  up : Ris t.place.toList
  clean : t.dummies = #[]
  many : t.place.toList.length = hs.length
  msk : Msk t.mask
  inn : ∀ x ∈ t.place.toList, x ≤ t.mask
  come : ∀ p ∈ t.place.toList.zip hs, Come t p.2 p.1
theorem TabG.gap {t : SetTable} {hs : List Int} (T : TabG t hs) (room : hs.length ≤ t.mask) (h : Int) : ∃ K, K < 10 * SetTable.turns t.mask ∧ way t.mask h K ∉ t.place.toList ∧ ∀ b, b < K → way t.mask h b ∈ t.place.toList := by
  obtain ⟨j, lt, out⟩ := st_missing t.place.toList (t.mask + 1) (by rw [T.many]; omega)
  obtain ⟨k, few, at_j⟩ := T.msk.way h (Nat.le_of_lt_succ lt)
  obtain ⟨K, le, no, least⟩ := st_least (p := fun c => way t.mask h c ∉ t.place.toList) k (by show way t.mask h k ∉ _; rw [at_j]; exact out)
  exact ⟨K, by omega, no, fun b hb => Classical.not_not.mp (least b hb)⟩
theorem Come.before {t : SetTable} {h : Int} {j K : Nat} (C : Come t h j) (mem : j ∈ t.place.toList) (free : way t.mask h K ∉ t.place.toList) : ∃ c, c < K ∧ way t.mask h c = j := by
  obtain ⟨c, e, all⟩ := C
  refine ⟨c, ?_, e⟩
  rcases Nat.lt_or_ge c K with lt | ge
  · exact lt
  · by_cases eq : c = K
    · subst eq; rw [e] at free; exact absurd mem free
    · exact absurd (all K (by omega)) free
theorem TabG.more {t : SetTable} {hs : List Int} (T : TabG t hs) {h : Int} {K j : Nat} (ej : way t.mask h K = j) (free : j ∉ t.place.toList) (full : ∀ b, b < K → way t.mask h b ∈ t.place.toList) :
    SetTable.below t.place j ≤ hs.length ∧ TabG (t.put j).1 (hs.take (SetTable.below t.place j) ++ h :: hs.drop (SetTable.below t.place j)) ∧ (t.put j).1.fill = hs.length + 1 := by
  have pl := put_place t j
  have cut : SetTable.below t.place j ≤ t.place.toList.length := by rw [Array.length_toList]; exact (below_cut T.up j).1
  have cut2 := cut
  rw [T.many] at cut2
  have sub : ∀ x, x ∈ t.place.toList → x ∈ (t.put j).1.place.toList := fun x hx => by rw [pl]; exact mem_ins.mpr (.inr hx)
  refine ⟨cut2, ⟨ris_insert T.up fun e => free (List.mem_of_getElem? (by rw [Array.getElem?_toList]; exact e)), put_dm T.clean j, ?_, T.msk, fun x hx => ?_, fun p hp => ?_⟩, ?_⟩
  · rw [pl, len_ins _ cut, len_ins _ cut2, T.many]
  · rw [pl] at hx
    rcases mem_ins.mp hx with rfl | hx
    · rw [← ej]; exact way_in _ _ _
    · exact T.inn x hx
  · rw [pl, zip_ins _ _ _ _ _ T.many] at hp
    rcases mem_ins.mp hp with rfl | hp
    · exact ⟨K, ej, fun b hb => sub _ (full b hb)⟩
    · obtain ⟨c, e, all⟩ := T.come p hp
      exact ⟨c, e, fun b hb => sub _ (all b hb)⟩
  · have n1 : (t.put j).1.place.size = hs.length + 1 := by rw [← Array.length_toList, pl, len_ins _ cut, T.many]
    unfold SetTable.fill
    rw [n1, put_dm T.clean j]
    rfl
theorem Msk.free {m : Nat} (M : Msk m) (owner : Array (Option Nat)) (h : Int) {j : Nat} (hj : j ≤ m) (empty : oAt owner j = none) :
    ∃ K, SetTable.layClean.free m owner (SetTable.turns m) (SetTable.bits h % (m + 1)) (SetTable.bits h) = some (L2.way m h K) ∧ oAt owner (L2.way m h K) = none ∧ ∀ b, b < K → oAt owner (L2.way m h b) ≠ none := by
  obtain ⟨n, few, at_j⟩ := M.run h hj
  let c := off m (SetTable.bits h % (m + 1)) (SetTable.bits h) n
  have at_c : L2.way m h c = j := by
    have e := nth_off m n (SetTable.bits h % (m + 1)) (SetTable.bits h)
    rw [itL_run] at e
    exact (congrArg SetTable.Probe.j e).trans at_j
  obtain ⟨K, le, no, least⟩ := st_least (p := fun b => oAt owner (L2.way m h b) = none) c (by show oAt owner (L2.way m h c) = none; rw [at_c]; exact empty)
  refine ⟨K, free_spec m owner _ n _ _ K (by unfold SetTable.turns; omega) le (fun b hb => ?_) ?_, no, least⟩
  · have := least b hb
    revert this
    show oAt owner (L2.way m h b) ≠ none → (oAt owner (L2.way m h b)).isNone = false
    cases oAt owner (L2.way m h b) <;> simp
  · show (oAt owner (L2.way m h K)).isNone = true
    rw [show oAt owner (L2.way m h K) = none from no]
    rfl
end VS
set_option maxHeartbeats 4000000
namespace VS
open PySem L2 PySem.Spec PyProof.Rows
structure TupS (P : Program) (w : World) (h : Heap) (S : Addr) (L : List (Addr × List Int)) (es : Array (Int × Value)) (ep : Nat) (t : SetTable) : Prop where
  obj : ∃ u, h.get? S = some u ∧ u.ExactSet ∧ u.data = .set es ep t
  rows : es.toList = L2.rowsOf P w L
  tab : TabG t (L.map fun q => thash P w q.2)
  uni : (L.map (·.2)).Nodup
  tups : ∀ q ∈ L, IsT P w h q.2 q.1
  pl : t.plain = true
  ledq : w.params.followText "set-order" = true ∨ t.led = true
  wide : L.length * 5 < t.mask * 3
section
variable {P : Program} {w : World} {A : Around} {E : Value → Shared → Prop} {s : Shared} {S : Addr} {L : List (Addr × List Int)} {es : Array (Int × Value)} {ep : Nat} {t : SetTable}
theorem rows_size (e : es.toList = L2.rowsOf P w L) : es.size = L.length := by
  rw [← Array.length_toList, e, L2.rowsOf, List.length_map]
theorem rows_at (e : es.toList = L2.rowsOf P w L) {i : Nat} {q : Addr × List Int} (hq : L[i]? = some q) : es[i]? = some (thash P w q.2, Value.ref q.1) := by
  rw [← Array.getElem?_toList, e, L2.rowsOf, List.getElem?_map, hq]
  rfl
theorem TabG.fits {hs : List Int} (T : TabG t hs) (room : hs.length ≤ t.mask) (n : Nat) (e : n = hs.length) : t.fits n = true := by
  have many := T.many
  rw [Array.length_toList] at many
  unfold SetTable.fits SetTable.fill
  rw [T.clean]
  simp only [Bool.and_eq_true, beq_iff_eq, decide_eq_true_eq]
  refine ⟨by omega, ?_⟩
  show t.place.size + 0 ≤ t.mask
  omega
theorem TupS.fit (R : TupS P w s.heap S L es ep t) : t.fits es.size = true := by
  have := R.wide
  have := R.tab.msk.most
  exact R.tab.fits (by rw [List.length_map]; omega) _ (by rw [List.length_map, rows_size R.rows])
theorem Msk.noway {m : Nat} (M : Msk m) (h : t.mask = m) : ¬ t.gaveWay = true := by
  unfold SetTable.gaveWay
  rw [h, M.most.2.2]
  decide
theorem nth_calm (m : Nat) : ∀ (n : Nat) (p : SetTable.Probe), p.dummy = none → (nth m p n).dummy = none
  | 0, _, h => h
  | n + 1, p, h => nth_calm m n _ (by unfold adv; split <;> exact h)
abbrev begin_ (m : Nat) (h : Int) : SetTable.Probe := runAt m (SetTable.bits h % (m + 1)) (SetTable.bits h)
theorem TupS.look (R : TupS P w s.heap S L es ep t) {x : Addr} {k : List Int} (hx : IsT P w s.heap k x) (cheap : A.units < cLine) {K : Nat} (bound : K < 10 * SetTable.turns t.mask) (gap : way t.mask (thash P w k) K ∉ t.place.toList)
    (taken : ∀ b, b < K → way t.mask (thash P w k) b ∈ t.place.toList) {Q : SetFound → Shared → Prop} (yes : k ∈ L.map (·.2) → Q (.there none) s) (no : k ∉ L.map (·.2) → Q (.free (way t.mask (thash P w k) K) false) s) (f : Nat) :
    ∀ (c : Nat) (from_ : Option SetTable.Probe), from_.getD (t.probeStart (thash P w k)) = nth t.mask (begin_ t.mask (thash P w k)) c → c ≤ K → K < f + c →
      (∀ (i : Nat) (q : Addr × List Int), L[i]? = some q → q.2 = k → ∃ d, c ≤ d ∧ d < K ∧ t.place.toList[i]? = some (way t.mask (thash P w k) d)) → wpAny (model P w) A (setSearchFrom S (.ref x) (thash P w k) true f from_) Q E s := by
  induction f with
  | zero => intro c from_ _ le lt _; omega
  | succ f ih =>
    intro c from_ e le lt later
    generalize eh : thash P w k = hv at *
    obtain ⟨u, at_S, exact_, dat⟩ := R.obj
    rw [setSearchFrom_succ]
    refine wpAny_bind (wpAny_setState_of at_S dat R.fit ?_)
    dsimp only
    refine wp_if_neg (R.tab.msk.noway rfl) ?_
    try refine wpAny_bind (wpAny_pure ?_)
    have go_on : ∀ b, nth t.mask (nth t.mask (begin_ t.mask hv) c) b = nth t.mask (begin_ t.mask hv) (c + b) := fun b => (nth_add t.mask c _ b).symm
    have slot_of : ∀ b, (nth t.mask (nth t.mask (begin_ t.mask hv) c) b).j = way t.mask hv (c + b) := fun b => by rw [go_on]
    have hash_of : ∀ (i : Nat) (q : Addr × List Int), L[i]? = some q → ((es[i]?).map (·.1)).getD 0 = thash P w q.2 := fun i q hq => by rw [rows_at R.rows hq]; rfl
    have ends : c + (K - c) = K := by omega
    have word := go_spec t R.tab.up R.tab.clean (fun i => ((es[i]?).map (·.1)).getD 0) hv (10 * SetTable.turns t.mask) (K - c) (nth t.mask (begin_ t.mask hv) c) (nth_calm _ _ _ rfl) (by omega)
      (fun b hb => by rw [slot_of]; exact taken _ (by omega)) (by rw [slot_of, ends]; exact gap)
    rcases word with ⟨b, i, hb, at_i, same, before, probe⟩ | ⟨never, probe⟩
    · have probe2 : t.probe (fun i => ((es[i]?).map (·.1)).getD 0) hv (from_.getD (t.probeStart hv)) = some (.candidate (way t.mask hv (c + b)) i (nth t.mask (begin_ t.mask hv) (c + (b + 1)))) := by
        rw [e, ← slot_of, ← go_on]
        exact probe
      rw [probe2]
      dsimp only
      rw [slot_of] at at_i
      have lt_i : i < L.length := by
        have := (List.getElem?_eq_some_iff.mp at_i).1
        rw [R.tab.many, List.length_map] at this
        exact this
      obtain ⟨q, hq⟩ : ∃ q, L[i]? = some q := ⟨_, List.getElem?_eq_getElem lt_i⟩
      have mem_q : q ∈ L := List.mem_of_getElem? hq
      have row_q := rows_at R.rows hq
      have slot_q := slot_live R.tab.up at_i
      have after : wpAny (model P w) A (searchRest S (.ref x) hv true f es t (way t.mask hv (c + b)) i (nth t.mask (begin_ t.mask hv) (c + (b + 1)))) Q E s := by
        unfold searchRest
        rw [row_q]
        dsimp only
        refine wpAny_bind (wpAny_holding (wpAny_eqBool_tuple cheap (R.tups q mem_q) hx ?_))
        refine wpAny_bind (wpAny_setState_of at_S dat R.fit ?_)
        dsimp only
        by_cases eq : q.2 = k
        · refine wp_if_pos (by simp [eq]) (wpAny_pure (yes (List.mem_map.mpr ⟨q, mem_q, eq⟩)))
        · refine wp_if_neg (by simp [eq]) ?_
          try refine wpAny_bind (wpAny_pure ?_)
          rw [sameMem]
          dsimp only
          simp only [if_true, slot_q, row_q]
          refine wpAny_bind ?_
          refine wpAny_isSame_ref_self (wpAny_bind ?_)
          refine wpAny_pure ?_
          simp only [if_true]
          refine wp_if_neg (by simp [eq]) ?_
          refine ih (c + (b + 1)) _ rfl (by omega) (by omega) fun i2 q2 h2 k2 => ?_
          obtain ⟨d, le_d, lt_d, at_d⟩ := later i2 q2 h2 k2
          refine ⟨d, ?_, lt_d, at_d⟩
          have d1 : ¬ d < c + b := fun small => before (d - c) i2 (by omega) (by rw [slot_of, show c + (d - c) = d by omega]; exact at_d) (by rw [hash_of i2 q2 h2, k2, eh])
          have d2 : d ≠ c + b := by
            rintro rfl
            have := slot_live R.tab.up at_d
            rw [slot_q] at this
            cases this
            rw [hq] at h2
            cases h2
            exact eq k2
          omega
      by_cases led : t.led = true
      · refine wp_if_neg (by simp [led]) ?_
        try refine wpAny_bind (wpAny_pure ?_)
        exact after
      · refine wp_if_pos (by simp [led]) ?_
        refine wpAny_bind (seen_tup hx (fun v hv2 => ?_) ?_)
        · obtain ⟨z, hz, ez⟩ := List.mem_map.mp hv2
          have hz2 : z ∈ es.toList := by
            have : z ∈ es ∧ z.1 = hv := by simpa using hz
            simpa using this.1
          rw [R.rows] at hz2
          obtain ⟨q2, hq2, e2⟩ := List.mem_map.mp hz2
          exact ⟨q2.2, q2.1, by rw [← ez, ← e2], R.tups q2 hq2⟩
        · refine wp_if_neg (by decide) ?_
          try refine wpAny_bind (wpAny_pure ?_)
          exact after
    · have probe2 : t.probe (fun i => ((es[i]?).map (·.1)).getD 0) hv (from_.getD (t.probeStart hv)) = some (.empty (way t.mask hv K) none) := by
        have := slot_of (K - c)
        rw [ends] at this
        rw [e, ← this]
        exact probe
      rw [probe2]
      dsimp only
      refine wpAny_pure (no fun mem => ?_)
      obtain ⟨q, hq, eq⟩ := List.mem_map.mp mem
      obtain ⟨i, lt_i, ei⟩ := List.getElem_of_mem hq
      have at_q : L[i]? = some q := by rw [List.getElem?_eq_getElem lt_i, ei]
      obtain ⟨d, le_d, lt_d, at_d⟩ := later i q at_q eq
      exact never (d - c) i (by omega) (by rw [slot_of, show c + (d - c) = d by omega]; exact at_d) (by rw [hash_of i q at_q, eq, eh])
theorem TupS.find (R : TupS P w s.heap S L es ep t) {x : Addr} {k : List Int} (hx : IsT P w s.heap k x) (cheap : A.units < cLine) {Q : SetFound → Shared → Prop} (yes : k ∈ L.map (·.2) → Q (.there none) s)
    (no : ∀ K, k ∉ L.map (·.2) → way t.mask (thash P w k) K ∉ t.place.toList → (∀ b, b < K → way t.mask (thash P w k) b ∈ t.place.toList) → Q (.free (way t.mask (thash P w k) K) false) s) :
    wpAny (model P w) A (setSearch S (.ref x) (thash P w k) true) Q E s := by
  have big := R.tab.msk.most
  have wide := R.wide
  obtain ⟨K, few, gap, taken⟩ := R.tab.gap (by rw [List.length_map]; omega) (thash P w k)
  have lt : K < 100000 := by unfold SetTable.turns at few; omega
  refine R.look hx cheap few gap taken yes (fun out => no K out gap taken) 100000 0 none rfl (Nat.zero_le _) (by omega) fun i q hq eq => ?_
  have lt_i : i < t.place.toList.length := by rw [R.tab.many, List.length_map]; exact (List.getElem?_eq_some_iff.mp hq).1
  have at_i := List.getElem?_eq_getElem lt_i
  have pair : (t.place.toList[i], thash P w q.2) ∈ t.place.toList.zip (L.map fun q => thash P w q.2) := List.mem_of_getElem? (i := i) (by rw [List.getElem?_zip_eq_some]; exact ⟨at_i, by rw [List.getElem?_map, hq]; rfl⟩)
  have come := R.tab.come _ pair
  rw [eq] at come
  obtain ⟨d, lt_d, e⟩ := come.before (List.getElem_mem lt_i) gap
  exact ⟨d, Nat.zero_le _, lt_d, by rw [at_i, e]⟩
end
end VS
set_option maxHeartbeats 4000000
namespace VS
open PySem L2 PySem.Spec PyProof.Rows
section
variable {P : Program} {w : World} {A : Around} {E : Value → Shared → Prop} {s : Shared} {S : Addr}
theorem TupS.on {h h2 : Heap} {L : List (Addr × List Int)} {es : Array (Int × Value)} {ep : Nat} {t : SetTable} (R : TupS P w h S L es ep t) (same : ∀ o, h.get? S = some o → h2.get? S = some o) (tups : ∀ q ∈ L, IsT P w h2 q.2 q.1) : TupS P w h2 S L es ep t :=
  let ⟨u, at_S, more⟩ := R.obj
  ⟨⟨u, same u at_S, more⟩, R.rows, R.tab, R.uni, tups, R.pl, R.ledq, R.wide⟩
end
end VS
set_option maxHeartbeats 4000000
set_option maxHeartbeats 2000000
set_option maxHeartbeats 2000000
namespace VS
open PySem L2 PySem.Spec PyProof.Rows
section
variable {T : Txt} {X : Cx} {W : WX} {st : Stmt} {sts : List Stmt} {tg e a b c : Expr} {es : List Expr} {pos p : Pos} {K : PySem.W.Frag}
theorem mul_zero_meets (l : Addr) (items : Array Value) (n : Nat) (dd : Option Addr) (sl : Array (Option Value)) (u : Tok) (hi : items.isEmpty = false) :
    Meets (Builtin.«tuple.__mul__» ⟨[.ref l, .int 0 u], []⟩) (fun _ R s => s.heap.get? l = some { cls := .type "tuple", dict := dd, data := .seq items n, slots := sl } ∧
      R (.ok (.ret (Value.ref s.heap.objs.size))) { s with heap := s.heap.push { cls := Value.type "tuple", data := Data.seq #[] }, toks := s.toks }) :=
  .of_wp fun prog w A R s h => by
    obtain ⟨hp, g, d, tk, os⟩ := s
    obtain ⟨hl, h⟩ := h
    have f1 := AutoSeq1.idx_int
    have c1 : (items.isEmpty || (0 : Int) == 1) = false := by rw [hi]; rfl
    have c2 : (decide ((0 : Int) ≤ 0) || items.isEmpty) = true := by rfl
    wp_walk using AutoSeq1.wpAny_loadPart' hl
    repeat (first
      | (refine wpAny_ite_false (decide_eq_false (by rw [c1]; exact Bool.false_ne_true)) ?_; wp_walk using AutoSeq1.wpAny_loadPart' hl)
      | (refine wpAny_ite_true (decide_eq_true (by rw [c2])) ?_; wp_walk using AutoSeq1.wpAny_loadPart' hl))
    exact ⟨_, rfl, h⟩
def rRep0 (K : PySem.W.Frag) : R2 := fun x y H Q => ∃ l xs, x = .ref l ∧ y = .int 0 ∧ SqT K H l xs ∧ xs ≠ [] ∧ ∀ p, H p = none → Q (.ref p) (upd H p (.tup []))
theorem op_rep0 : OpR X (binaryOp .Mult) (rRep0 X.K) := by
  intro pins s σ H x y v u Q I rx ry h
  obtain ⟨l, xs, rfl, rfl, hT, hne, q⟩ := h
  cases rx
  obtain ⟨t, rfl⟩ := ry
  obtain ⟨its, r, ⟨⟨cls, dd, data, sl⟩, ho, hc, n, hd⟩, hs⟩ := I.tuple hT
  simp only at hc hd
  subst hc hd
  have hle : its.length = xs.length := r.length.symm
  have hi : its.toArray.isEmpty = false := by
    cases its with
    | nil => exact absurd (List.eq_nil_of_length_eq_zero hle.symm) hne
    | cons a b => rfl
  refine wpAny_binaryOp_repeat_ref (T := "tuple") (U := "int") (by decide) ⟨_, ho, rfl⟩ (fun s' => typeIs_int s' 0 t) noFill_tuple_mul F.fills_int_mul F.slot_int_rmul repeat_tuple F.slot_int_index.lookup ?_
  refine call_meets F.slot_int_rmul (typeIs_int s 0 t) F.entry_int_rmul (F.args_int_rmul_2 _ _) (int_rmul_tuple 0 t l its.toArray n dd sl) ⟨ho, rfl, ⟨_, ho, rfl⟩, ?_⟩
  refine call_meets F.slot_tuple_mul ⟨_, ho, rfl⟩ F.entry_tuple_mul (F.args_tuple_mul_2 _ _) (mul_zero_meets l its.toArray n dd sl t hi) ⟨ho, ?_⟩
  refine ⟨.ref s.heap.objs.size, _, I.laid (t' := s.toks) (o := .tup []) (fun b ob q => Heap.get?_push_of_some _ q) (Nat.le_refl _) ?_, rfl, q _ (I.hok.fresh (Nat.le_refl _))⟩
  exact ⟨Nat.zero_le _, [], .nil, IsTup.new _ _⟩
def mulH (x y : D) : Option D := match x, y with
  | .tup (d :: ds), .int k => if k = 0 then some (.tup []) else mulG (.tup (d :: ds)) (.int k)
  | x, y => mulG x y
theorem opv_mulH {K : PySem.W.Frag} : OpV K T (fun x y H Q => (rMulE K x y H Q ∨ rTwice K x y H Q) ∨ rRep0 K x y H Q) mulH := by
  intro x y z h F H v w Q e rx ry k
  unfold mulH at h
  split at h
  · rename_i d ds j
    split at h
    · next hk =>
      cases h
      subst hk
      obtain ⟨a, vs, rfl, ha, ra⟩ := id rx
      obtain rfl : w = _ := ry
      refine .inr ⟨a, vs, rfl, rfl, e.sqT ha, fun n => ?_, fun p hp => ?_⟩
      · have := ra.eq_nil.mp n; cases this
      · have g := Grow.new (K := K) (T := T) (o := HO.tup []) e hp
        exact k _ _ _ g ⟨p, _, rfl, SqX.of upd_same, rfl⟩
    · exact .inl (opv_mulG _ _ z h F H v w Q e rx ry k)
  · exact .inl (opv_mulG _ _ z h F H v w Q e rx ry k)
end
end VS
set_option maxHeartbeats 2000000
set_option maxHeartbeats 2000000
set_option maxHeartbeats 2000000
set_option maxHeartbeats 2000000
set_option maxHeartbeats 2000000
set_option maxHeartbeats 2000000
set_option maxHeartbeats 2000000
set_option maxHeartbeats 2000000
namespace VS
open PySem L2 PySem.Spec PyProof.Rows
def addU (x y : D) : Option D := match x, y with
  | .fru [], .tup ys => if ys.length ≤ lim then some (.tup ys) else none
  | x, y => addD x y
section
variable {T : Txt} {X : Cx} {K : PySem.W.Frag} {W : WX} {a b : Expr} {pos : Pos}
theorem opv_addU : OpV K T (rAddA K) addU := by
  intro x y z h F H v w Q e rx ry k
  unfold addU at h
  split at h
  · next ys =>
    split at h
    · next q =>
      cases h
      obtain ⟨p, vs, rfl, hp, rp⟩ := rx
      obtain ⟨b, ws, rfl, hb, rb⟩ := ry
      have nil : vs = [] := rp.eq_nil.mpr rfl
      subst nil
      refine .inr (.inr (.inl ⟨p, b, [], ws, rfl, rfl, e.sqT hp, e.sqT hb, ?_, fun _ => ?_, fun n => absurd rfl n, fun n => absurd rfl n⟩))
      · rw [rb.length]
        simpa using le_line q
      · exact k _ F H .refl ⟨b, ws, rfl, hb, rb⟩
    · cases h
  · exact opv_add x y z h F H v w Q e rx ry k
theorem je_addU {ga gb : Ev D} (ha : JE T X W a ga) (hb : JE T X W b gb) : JE T X W (.BinOp a .Add b pos) (mOp addU ga gb) := je_op2 (fun _ _ h1 h2 => pe_op op_addA h1 h2) opv_addU ha hb
end
end VS
set_option maxHeartbeats 2000000
namespace VS
open PySem L2 PySem.Spec PyProof.Rows
section
variable {T : Txt} {X : Cx} {W : WX} {e a b c f o : Expr} {es : List Expr} {st : Stmt} {pos p apos : Pos} {K : PySem.W.Frag}
theorem pet_weak {t t' : TE} (h : PET X e t) (w : ∀ σ H Q, t' σ H Q → t σ H Q) : PET X e t' := fun pins s σ H Q h0 I q => h pins s σ H Q h0 I (w σ H Q q)
theorem pet_no : PET X e (fun _ _ _ => False) := fun _ _ _ _ _ _ _ h => h.elim
theorem pat_weak {t t' : TA} (h : PAT X es t) (w : ∀ σ H Q, t' σ H Q → t σ H Q) : PAT X es t' := fun pos pins s σ H Q h0 I q => h pos pins s σ H Q h0 I (w σ H Q q)
theorem pat_no : PAT X es (fun _ _ _ => False) := fun _ _ _ _ _ _ _ _ h => h.elim
def PTT (X : Cx) (e : Expr) (t : TT) : Prop := ∀ (pins : List (Addr × Obj)) (s : Shared) (σ : L2.St) (H : Hp) (Q : Bool → Hp → Prop), 1 ≤ s.toks → Inv X pins σ H s → t σ H Q → wpAny (model X.prog X.w) X.A (isTrue e X.env (eval e X.env)) (TP X pins σ Q) X.xe s
def PWT (X : Cx) (e : Expr) (t : TT) : Prop := ∀ (whole : Sem Value) (pins : List (Addr × Obj)) (s : Shared) (σ : L2.St) (H : Hp) (Q : Bool → Hp → Prop), 1 ≤ s.toks → Inv X pins σ H s → t σ H Q → wpAny (model X.prog X.w) X.A (isTrue e X.env whole) (TP X pins σ Q) X.xe s
theorem ptt_weak {t t' : TT} (h : PTT X e t) (w : ∀ σ H Q, t' σ H Q → t σ H Q) : PTT X e t' := fun pins s σ H Q h0 I q => h pins s σ H Q h0 I (w σ H Q q)
theorem pwt_weak {t t' : TT} (h : PWT X e t) (w : ∀ σ H Q, t' σ H Q → t σ H Q) : PWT X e t' := fun wh pins s σ H Q h0 I q => h wh pins s σ H Q h0 I (w σ H Q q)
theorem pwt_no : PWT X e (fun _ _ _ => False) := fun _ _ _ _ _ _ _ _ h => h.elim
def JET (T : Txt) (X : Cx) (W : WX) (e : Expr) (g : Ev D) : Prop := ∀ ρ, PET X e (rdE X.K T W ρ (g ρ))
def JTT (T : Txt) (X : Cx) (W : WX) (e : Expr) (g : Ev Bool) : Prop := ∀ ρ, PTT X e (rdT X.K T W ρ (g ρ))
def JWT (T : Txt) (X : Cx) (W : WX) (e : Expr) (g : Ev Bool) : Prop := ∀ ρ, PWT X e (rdT X.K T W ρ (g ρ))
def JRT (T : Txt) (X : Cx) (W : WX) (e : Expr) (g : Ev Res) : Prop := ∀ ρ, PET X e (rdR X.K T W ρ (g ρ))
def JCT (T : Txt) (X : Cx) (W : WX) (es : List Expr) (g : Ev (List AR)) : Prop := ∀ ρ, PAT X es (rdC X.K T W ρ (g ρ))
def JST (T : Txt) (X : Cx) (W : WX) (st : Stmt) (h : VEnv → RS) : Prop := ∀ ρ, PST X st (rdS X.K T W ρ (h ρ))
def PEG (X : Cx) (e : Expr) (t : TE) : Prop := ∀ (pins : List (Addr × Obj)) (s : Shared) (σ : L2.St) (H : Hp) (Q : VK), Inv X pins σ H s → t σ H Q → wpAny (model X.prog X.w) X.A (eval e X.env) (fun v s1 => 1 ≤ s1.toks ∧ EP X pins σ Q v s1) X.xe s
def JEG (T : Txt) (X : Cx) (W : WX) (e : Expr) (g : Ev D) : Prop := ∀ ρ, PEG X e (rdE X.K T W ρ (g ρ))
theorem peg_weak {t t' : TE} (h : PEG X e t) (w : ∀ σ H Q, t' σ H Q → t σ H Q) : PEG X e t' := fun pins s σ H Q I q => h pins s σ H Q I (w σ H Q q)
theorem peg_no : PEG X e (fun _ _ _ => False) := fun _ _ _ _ _ _ h => h.elim
theorem op_coreT {A B : TE → Prop} (noA : A fun _ _ _ => False) (noB : B fun _ _ _ => False) {r : R2} {u : D → D → Option D} {ga gb : Ev D} (hr : OpV K T r u) (ha : ∀ ρ, A (rdE K T W ρ (ga ρ))) (hb : ∀ ρ, B (rdE K T W ρ (gb ρ))) (ρ : VEnv) :
    ∃ ta tb, A ta ∧ B tb ∧ ∀ σ H Q, rdE K T W ρ (mOp u ga gb ρ) σ H Q → tOp r ta tb σ H Q := by
  have k1 := ha ρ
  simp only [mOp]
  cases w1 : ga ρ with
  | stuck => exact ⟨_, _, noA, noB, fun _ _ _ z => z.elim⟩
  | ex cx dx ρa => rw [w1] at k1; exact ⟨_, _, k1, noB, fun _ _ _ ⟨F, Z, L, r0, kk⟩ => ⟨F, Z, L, r0, kk⟩⟩
  | ok x ρa =>
    have k2 := hb ρa
    rw [w1] at k1
    cases w2 : gb ρa with
    | stuck => exact ⟨_, _, k1, noB, fun _ _ _ z => by simp only [R.bind_ok, w2, R.bind_stuck] at z; exact z.elim⟩
    | ex cx dx ρb =>
      rw [w2] at k2
      refine ⟨_, _, k1, k2, fun _ _ _ z => ?_⟩
      simp only [R.bind_ok, w2, R.bind_ex] at z
      obtain ⟨F, Z, L, r0, kk⟩ := z
      exact ⟨F, Z, L, r0, fun _ F1 _ ea ra _ => ⟨F1, Z, L, ra, fun cls dd F2 H2 eb rb xb => kk cls dd F2 H2 (ea.trans eb) rb xb⟩⟩
    | ok y ρb =>
      rw [w2] at k2
      refine ⟨_, _, k1, k2, fun _ _ Q z => ?_⟩
      simp only [R.bind_ok, w2] at z
      cases w3 : u x y with
      | none => rw [w3] at z; exact z.elim
      | some d =>
        rw [w3] at z
        obtain ⟨F, Z, L, r0, kk⟩ := z
        refine ⟨F, Z, L, r0, fun v F1 _ ea ra xa => ⟨F1, Z, L, ra, fun w F2 H2 eb rb xb => ?_⟩⟩
        exact hr x y d w3 F2 H2 v w Q rb.exF (xa.mono eb) xb fun q F3 H3 gg x3 => kk q F3 H3 ((ea.trans eb).trans gg.1) (gg.2 _ _ _ _ rb) x3
theorem peg_str {x : Str} {j : Nat} {t : TE} (h : ∀ σ H Q, t σ H Q → Q (.str x) H) : PEG X (.Constant (.str x) j p) t := fun pins s σ H Q I q => Calls.Constant_str ⟨Nat.le_add_left 1 s.toks, .str x, H, I.tok _, ⟨_, rfl⟩, h σ H Q q⟩
theorem jeg_str {x : Str} {j : Nat} : JEG T X W (.Constant (.str x) j p) (mC (.str x)) := fun ρ => peg_str fun σ H Q ⟨F, Z, L, r, k⟩ => k _ F H (Ex.refl F) r rfl
theorem peg_opR {op : Operator} {r : R2} {te tf : TE} (ho : OpR X (binaryOp op) r) (ha : PE X e te) (hb : PEG X f tf) : PEG X (.BinOp e op f pos) (tOp r te tf) := fun pins s σ H Q I h =>
  wpAny_BinOp (thn (ha.run pins s σ H _ I h) fun v s1 ⟨x, H1, I1, r1, q1⟩ => wpAny_mono (hb pins s1 σ H1 _ I1 q1) (fun u s2 ⟨k2, y, H2, I2, r2, q2⟩ =>
    wpAny_mono (PySem.wpAny_toks (ho pins s2 σ H2 x y v u Q I2 r1 r2 q2)) (fun _ _ z => ⟨Nat.le_trans k2 z.1, z.2⟩) fun _ _ z => z.2) fun _ _ z => z)
theorem peg_opL {op : Operator} {r : R2} {te tf : TE} (ho : OpR X (binaryOp op) r) (ha : PEG X e te) (hb : PE X f tf) : PEG X (.BinOp e op f pos) (tOp r te tf) := fun pins s σ H Q I h =>
  wpAny_BinOp (wpAny_mono (ha pins s σ H _ I h) (fun v s1 ⟨k1, x, H1, I1, r1, q1⟩ => wpAny_mono (PySem.wpAny_toks (hb.run pins s1 σ H1 _ I1 q1)) (fun u s2 ⟨k2, y, H2, I2, r2, q2⟩ =>
    wpAny_mono (PySem.wpAny_toks (ho pins s2 σ H2 x y v u Q I2 r1 r2 q2)) (fun _ _ z => ⟨Nat.le_trans (Nat.le_trans k1 k2) z.1, z.2⟩) fun _ _ z => z.2) fun _ _ z => z.2) fun _ _ z => z)
theorem jeg_addR {ga gb : Ev D} (ha : JE T X W a ga) (hb : JEG T X W b gb) : JEG T X W (.BinOp a .Add b pos) (mOp addD ga gb) := fun ρ => by
  obtain ⟨ta, tb, k1, k2, kk⟩ := op_coreT (A := PE X a) (B := PEG X b) pe_no peg_no opv_add ha hb ρ
  exact peg_weak (peg_opR op_addA k1 k2) kk
theorem jeg_addL {ga gb : Ev D} (ha : JEG T X W a ga) (hb : JE T X W b gb) : JEG T X W (.BinOp a .Add b pos) (mOp addD ga gb) := fun ρ => by
  obtain ⟨ta, tb, k1, k2, kk⟩ := op_coreT (A := PEG X a) (B := PE X b) peg_no pe_no opv_add ha hb ρ
  exact peg_weak (peg_opL op_addA k1 k2) kk
def replD (y z : Str) : D → Option D
  | .str x => if x.length + (x.length + 1) * z.length ≤ 16777216 then some (.str (PySem.Txt.replace x y z)) else none
  | _ => none
theorem jet_repl {y z : Str} {j k : Nat} {c0 c1 : Pos} {g : Ev D} (ho : JE T X W o g) (hyz : (y == z) = false := by decide)
    (hst : starEach [.Constant (.str y) j c0, .Constant (.str z) k c1] X.env = [(false, eval (.Constant (.str y) j c0) X.env), (false, eval (.Constant (.str z) k c1) X.env)] := by rfl)
    (hbase : attributeBase o "replace" X.env (eval o X.env) = eval o X.env := by rfl) (hline : (apos.endLine == pos.line) = true := by rfl) : JET T X W (.Call (.Attribute o "replace" apos) [.Constant (.str y) j c0, .Constant (.str z) k c1] [] pos) (mCall1 (replD y z) g) := fun ρ => by
  have pp := ho ρ
  have rule : ∀ te, PE X o te → PET X (.Call (.Attribute o "replace" apos) [.Constant (.str y) j c0, .Constant (.str z) k c1] [] pos) (CwR.tReplC te y z) := fun te h => CwR.pet_replC h hyz hst hbase hline
  simp only [mCall1]
  cases w1 : g ρ with
  | stuck => exact pet_no
  | ex cx dx ρ1 => rw [w1] at pp; exact pet_weak (rule _ pp) fun _ _ _ q => q
  | ok d ρ1 =>
    rw [w1] at pp
    simp only [R.bind_ok]
    cases w2 : replD y z d with
    | none => exact pet_no
    | some u =>
      refine pet_weak (rule _ pp) fun σ H Q ⟨F, Z, L, r, kk⟩ => ⟨F, Z, L, r, fun v F1 H1 e1 r1 x1 => ?_⟩
      cases d <;> simp only [replD, reduceCtorEq] at w2
      rename_i x
      split at w2
      · next hz => cases w2; exact ⟨x, x1, hz, kk _ F1 H1 e1 r1 rfl⟩
      · cases w2
theorem jct_one {g : Ev D} (h1 : JET T X W e g) (hs : starEach [e] X.env = (false, eval e X.env) :: starEach [] X.env := by rfl) : JCT T X W [e] (mCV g mCN) := fun ρ => by
  have p1 := h1 ρ
  simp only [mCV, mCN]
  cases w1 : g ρ with
  | stuck => exact pat_no
  | ex cx dx ρ1 => rw [w1] at p1; exact pat_weak (L2.pat_cons p1 L2.pat_nil hs) fun _ _ _ q => q
  | ok d ρ1 =>
    rw [w1] at p1
    exact pat_weak (L2.pat_cons p1 L2.pat_nil hs) fun σ H Q ⟨F, Z, L, r, kk⟩ => ⟨F, Z, L, r, fun v F1 H1 e1 r1 x1 => kk _ F1 H1 e1 r1 ⟨v, [], rfl, x1, rfl⟩⟩
theorem pet_callG {k : Nat} {g : Addr} {fd : FuncData} {ps : List Str} {sp : Sp} {dvs : List V} {ds : List Value} {x : Str} {t : TA} (G : FnG X.prog X.w X.K X.mg X.base k g fd ps sp) (hA : X.A.guards = some []) (hr : Room k X.A) (hg : Gl X x) (hm : X.mg x = some (.ref g)) (hk : PySem.W.keepIn X.K (.ref g) = true) (hb : Binds X.K fd ps ds) (hd : Vals dvs ds) (tk : Takes X W)
    (ha : PAT X (e :: es) t) (hdb : (x == ("__debug__" : Str)) = false) (he : starEach (e :: es) X.env = (false, eval e X.env) :: starEach es X.env) (hpl : (backTo pos (starEach es X.env)).any (·.1) = false) :
    PET X (.Call (.Name x p) (e :: es) [] pos) (tCallG sp dvs W t) := fun pins s σ H Q h0 I h =>
  wpAny_Call_Name_kw (ld_glob I hg hm (PySem.W.callWith_K (h₀ := X.base) I.ok.mod.kin hk (thn (ha pos pins s σ H _ h0 I h) fun us s1 ⟨vs, H1, I1, r, q⟩ => ⟨I1.kIn, callG_run G hA hr hb hd tk I1 r q⟩) he hpl) hdb)
theorem jrt_call {G : Fn} {n : Nat} {g : Ev (List AR)} (rule : ∀ t, PAT X es t → PET X e (tCallG (spG X.K T G n) [] W t)) (ha : JCT T X W es g) : JRT T X W e (mRes G n [] g) := fun ρ => by
  have p1 := ha ρ
  have hdv : ∀ F, Reps X.K T F [] [] := fun _ => rfl
  simp only [mRes]
  cases w1 : g ρ with
  | stuck => exact pet_no
  | ex cx dx ρ1 => rw [w1] at p1; exact pet_weak (rule _ p1) fun _ _ _ q => q
  | ok ars ρ1 =>
    rw [w1] at p1
    simp only [R.bind_ok]
    cases w2 : callR G n (ars ++ ([] : List D).map AR.v) ρ1 with
    | stuck => exact pet_no
    | ex cx dx ρ2 => exact pet_weak (rule _ p1) fun σ H Q ⟨F, Z, L, r, k⟩ => ⟨F, Z, L, r, fun vs F1 H1 e1 r1 x1 => call_mid w2 r1 (x1.vals (hdv F1)) fun cls dd F' H' e r' p => k cls dd F' H' (e1.trans e) r' p⟩
    | ok rr ρ2 =>
      cases rr with
      | ok d => exact pet_weak (rule _ p1) fun σ H Q ⟨F, Z, L, r, k⟩ => ⟨F, Z, L, r, fun vs F1 H1 e1 r1 x1 => call_mid w2 r1 (x1.vals (hdv F1)) fun v F' H' e r' p => k v F' H' (e1.trans e) r' p⟩
      | nw m => exact pet_weak (rule _ p1) fun σ H Q ⟨F, Z, L, r, k⟩ => ⟨F, Z, L, r, fun vs F1 H1 e1 r1 x1 => call_mid w2 r1 (x1.vals (hdv F1)) fun a o F' H' e hz r' p => k a o F' H' (e1.trans e) hz r' p⟩
      | ex _ _ => exact pet_no
theorem jrt_def {k n : Nat} {x : Str} {G : Fn} {ps : List Str} {g : Ev (List AR)} (c : Cal X.prog X.w X.K X.mg X.base T k x G ps) (hA : X.A.guards = some []) (hr : Room k X.A) (tk : Takes X W) (ha : JCT T X W (e :: es) g) (hn : ps.length = n := by rfl) (hg : Gl X x := by rfl)
    (hdb : (x == ("__debug__" : Str)) = false := by decide) (he : starEach (e :: es) X.env = (false, eval e X.env) :: starEach es X.env := by rfl) (hpl : (backTo pos (starEach es X.env)).any (·.1) = false := by rfl) : JRT T X W (.Call (.Name x p) (e :: es) [] pos) (mRes G n [] g) := by
  subst hn
  obtain ⟨f, fd, hG, hm, hk, hb⟩ := c.ex
  exact jrt_call (fun t h => pet_callG hG hA hr hg hm hk hb .nil tk h hdb he hpl) ha
theorem jet_of_jrt {g : Ev Res} (h : JRT T X W e g) : JET T X W e (mVal g) := fun ρ => by
  refine pet_weak (h ρ) fun σ H Q q => ?_
  simp only [mVal] at q
  cases w1 : g ρ with
  | stuck => rw [w1] at q; exact q.elim
  | ex cx dx ρ1 => rw [w1] at q; exact q
  | ok rr ρ1 =>
    rw [w1] at q
    cases rr with
    | ok d => exact q
    | ex _ _ => exact q.elim
    | nw m =>
      obtain ⟨F, Z, L, r, k⟩ := q
      refine ⟨F, Z, L, r, fun a o F' H' e hz r' x => ?_⟩
      have fn := (r'.zDrop hz).2.1
      exact k _ _ H' (e.trans (Ex.new fn)) (r'.zF hz) (x.frz fn)
theorem ptt_cmpR {op : CmpOp} {r : R2} {ta tb : TE} (ho : OpR X (compareOp op) r) (ha : PET X a ta) (hb : PE X b tb) (hm : behindInMarks op b = false) : PTT X (.Compare a [op] [b] pos) (tTest (tOp r ta tb)) := fun pins s σ H Q h0 I h =>
  wpAny_isTrue_Compare1 (thn (ha pins s σ H _ h0 I h) fun v s1 ⟨x, H1, I1, r1, q1⟩ => thn (hb.run pins s1 σ H1 _ I1 q1) fun u s2 ⟨y, H2, I2, r2, q2⟩ =>
    thn (ho pins s2 σ H2 x y v u _ I2 r1 r2 q2) fun c s3 ⟨z, H3, I3, r3, k, e, q3⟩ => by subst e; cases r3; exact wpAny_truthy_bool ⟨H3, I3, q3⟩) hm
theorem jtt_cmp {op : CmpOp} {u : D → D → Option D} {ga gb : Ev D} (q : Cmp X T op u) (ha : JET T X W a ga) (hb : JE T X W b gb) (hm : behindInMarks op b = false := by first | exact nomark _ | rfl) : JTT T X W (.Compare a [op] [b] pos) (mTest (mOp u ga gb)) := fun ρ => by
  obtain ⟨r, w1, w2⟩ := q.ex
  obtain ⟨ta, tb, k1, k2, kk⟩ := op_coreT (A := PET X a) (B := PE X b) pet_no pe_no w2 ha hb ρ
  exact ptt_weak (ptt_cmpR w1 k1 k2 hm) fun σ H _ h => kk σ H _ (rdT_test h)
theorem jwt_or1 {g : Ev Bool} (h : JTT T X W a g) : JWT T X W (.BoolOp .Or [a] pos) g := fun ρ wh pins s σ H Q h0 I q =>
  isTrue_or (thn (h ρ pins s σ H Q h0 I q) fun c s1 z => by
    cases c with
    | false => exact isTrue_or_nil z
    | true => exact z)
theorem pwt_or {tA tB' : TT} {rest : List Expr} (ha : PT X a tA) (hb : PWT X (.BoolOp .Or (b :: rest) pos) tB') : PWT X (.BoolOp .Or (a :: b :: rest) pos) (tOr tA tB') := fun wh pins s σ H Q h0 I h =>
  isTrue_or (wpAny_mono (PySem.wpAny_toks (ha.run pins s σ H _ I h)) (fun c s1 ⟨k1, H1, I1, q1⟩ => by
    cases c with
    | true => exact ⟨H1, I1, q1⟩
    | false => exact hb wh pins s1 σ H1 Q (Nat.le_trans h0 k1) I1 q1) fun _ _ z => z.2)
theorem jwt_or {g h : Ev Bool} {rest : List Expr} (h1 : JT T X W a g) (h2 : JWT T X W (.BoolOp .Or (b :: rest) pos) h) : JWT T X W (.BoolOp .Or (a :: b :: rest) pos) (mOr g h) := fun ρ => by
  have p1 := h1 ρ
  simp only [mOr]
  cases w1 : g ρ with
  | stuck => exact pwt_no
  | ex cx dx ρ1 => rw [w1] at p1; exact pwt_weak (pwt_or p1 pwt_no) fun _ _ _ q => q
  | ok t ρ1 =>
    rw [w1] at p1
    cases t with
    | true => exact pwt_weak (pwt_or p1 pwt_no) fun σ H Q ⟨F, Z, L, r, k⟩ => ⟨F, Z, L, r, fun F' H' e r' => iteT (k F' H' e r')⟩
    | false =>
      have p2 := h2 ρ1
      refine pwt_weak (pwt_or p1 p2) fun σ H Q q => ?_
      simp only [R.bind_ok, Bool.false_eq_true, if_false] at q
      cases w2 : h ρ1 with
      | stuck => rw [w2] at q; exact q.elim
      | ex cx dx ρ2 =>
        rw [w2] at q
        obtain ⟨F, Z, L, r, k⟩ := q
        exact ⟨F, Z, L, r, fun F1 H1 e1 r1 => iteF ⟨F1, Z, L, r1, fun cls dd F2 H2 e2 r2 x2 => k cls dd F2 H2 (e1.trans e2) r2 x2⟩⟩
      | ok u ρ2 =>
        rw [w2] at q
        obtain ⟨F, Z, L, r, k⟩ := q
        exact ⟨F, Z, L, r, fun F1 H1 e1 r1 => iteF ⟨F1, Z, L, r1, fun F2 H2 e2 r2 => k F2 H2 (e1.trans e2) r2⟩⟩
theorem pst_ifT {ss us : List Stmt} {tc : TT} {t u : TS} (hc : PWT X c tc) (ha : PSs X ss t) (hb : PSs X us u) : PST X (.If c ss us pos) (tIfS tc t u) := fun pins s σ H D h0 I h =>
  wpAny_If (thn (hc _ pins s σ H _ h0 I h) fun d s1 ⟨H1, I1, q1⟩ => by
    cases d with
    | true => exact ha.run pins s1 σ H1 D I1 q1
    | false => exact hb.run pins s1 σ H1 D I1 q1)
theorem jst_if {t : Ev Bool} {h k : VEnv → RS} {ss us : List Stmt} (hc : JWT T X W c t) (h1 : JSs T X W ss h) (h2 : JSs T X W us k) : JST T X W (.If c ss us pos) (mIfS t h k) := fun ρ pins s σ H N h0 I q => by
  refine pst_ifT (hc ρ) (pss_all h1) (pss_all h2) pins s σ H N h0 I ?_
  refine thenB_rd q fun d ρ1 F Z L H1 _ r kk => ?_
  cases d with
  | true => exact iteT ⟨ρ1, F, Z, L, r, by simpa using kk⟩
  | false => exact iteF ⟨ρ1, F, Z, L, r, by simpa using kk⟩
theorem pss_give {i : Nat} {x : Str} {p' : Pos} {t : TE} {u : TS} (hN : X.N.Nodup) (hi : X.N[i]? = some x) (hx : Loc X.env.scope x) (he : PEG X e t) (h2 : PST X st u) (hs : swapsWith e (some (.Name x p')) pos.line X.env = pure false)
    (hf : X.fn x = true ∨ X.env.scope.names.lookup x = some .local) : PSs X [.Assign [.Name x p'] e pos, st] (tSeq (tAsg t (gName i)) u) := ⟨fun pins s σ H D I h => by
  refine wpAny_execs_cons (wpAny_Assign_Name (wpAny_mono (he pins s σ H _ I h) (fun v s1 z => ?_) fun _ _ z => z) hs)
  obtain ⟨k1, y, H1, I1, r1, q1⟩ := z
  refine wpAny_mono (PySem.wpAny_toks (store_ok (Q := fun _ s2 => Inv X pins (σ.set i (some y)) H1 s2) I1 hN hi hx r1 (fun _ I2 => I2) hf)) (fun _ s2 q => ?_) fun _ _ z => z.2
  exact L2.psst_cons h2 (L2.PSsT.of pss_nil) pins s2 _ H1 D (Nat.le_trans k1 q.1) q.2 q1⟩
theorem js_give {i : Nat} {x : Str} {p' : Pos} {g : Ev D} {h : VEnv → RS} (hN : X.N.Nodup) (hi : X.N[i]? = some x) (hx : Loc X.env.scope x) (he : JEG T X W e g) (h2 : JST T X W st h) (hs : swapsWith e (some (.Name x p')) pos.line X.env = pure false := by rfl)
    (hf : X.fn x = true ∨ X.env.scope.names.lookup x = some .local := by first | exact .inl rfl | exact .inr rfl | assumption) : JSs T X W [.Assign [.Name x p'] e pos, st] (mSeq (mAsg g (setV i)) h) := fun ρ => by
  have pp := he ρ
  have no : PST X st (fun _ _ _ => False) := fun _ _ _ _ _ _ _ z => z.elim
  simp only [mSeq, mAsg]
  cases w1 : g ρ with
  | stuck => exact ⟨fun _ _ _ _ _ _ ⟨_, _, _, _, z⟩ => z.elim⟩
  | ex cx dx ρ1 =>
    rw [w1] at pp
    exact pss_weak (pss_give hN hi hx pp no hs hf) fun N σ H ⟨F, Z, L, r, kk⟩ => ⟨F, Z, L, r, fun cls dd F' H' e r' x => kk cls dd σ F' H' e r' x⟩
  | ok d ρ1 =>
    rw [w1] at pp
    simp only [R.thenS_ok]
    cases w2 : setV i d ρ1 with
    | none => exact ⟨fun _ _ _ _ _ _ ⟨_, _, _, _, z⟩ => z.elim⟩
    | some ρ2 =>
      exact pss_weak (pss_give hN hi hx pp (h2 ρ2) hs hf) fun N σ H ⟨F, Z, L, r, kk⟩ => ⟨F, Z, L, r, fun v F1 H1 e1 r1 x1 => ⟨F1, Z, L, r1.setV w2 x1, kk.mono e1⟩⟩
end
end VS
set_option maxHeartbeats 2000000
namespace VS
open PySem L2 PySem.Spec PyProof.Rows
section
variable {T : Txt} {X : Cx} {W : WX} {a b : Expr} {pos : Pos}
theorem repS_1 (z : Str) : repS z 1 = z := by
  obtain ⟨cs⟩ := z
  simp [repS]
def rRepN : R2 := fun x y H Q => ∃ z k, x = .str z ∧ y = .int k ∧ 0 ≤ k ∧ k ≤ 1 ∧ 0 < z.length ∧ z.length ≤ 1000 ∧ Q (.str (repS z k.toNat)) H
theorem op_repN : OpR X (binaryOp .Mult) rRepN := by
  intro pins s σ H x y v u Q I rx ry h
  obtain ⟨z, k, rfl, rfl, h2, h3, h4, h5, q⟩ := h
  obtain ⟨t, rfl⟩ := rx
  obtain ⟨t', rfl⟩ := ry
  have : k = 0 ∨ k = 1 := by omega
  rcases this with rfl | rfl
  · refine P.mul_str (by decide) (fun n _ _ => absurd (show (0 : Int) < 1 by decide) n) (fun n _ => absurd (show (0 : Int) < 1 by decide) n) ?_
    rw [if_pos (by decide)]
    exact ⟨Nat.zero_le _, .str Str.empty, H, I.tok _, ⟨_, rfl⟩, q⟩
  · have c : ((1 : Int) == 1 || z.length == 0) = true := by simp
    refine P.mul_str (by decide) (fun _ n _ => by rw [c] at n; cases n) (fun _ n => by rw [c] at n; cases n) ?_
    rw [if_neg (by decide), c, if_pos rfl]
    have e : repS z (1 : Int).toNat = z := repS_1 z
    rw [e] at q
    exact ⟨.str z, H, I, ⟨_, rfl⟩, q⟩
def mulW (x y : D) : Option D := match x, y with
  | .str z, .int k => if 0 ≤ k ∧ k ≤ 1000 ∧ 0 < z.length ∧ z.length ≤ 1000 then some (.str (repS z k.toNat)) else none
  | x, y => mulH x y
theorem opv_mulW {K : PySem.W.Frag} : OpV K T (fun x y H Q => ((rMulE K x y H Q ∨ rTwice K x y H Q) ∨ rRep0 K x y H Q) ∨ rRepN x y H Q) mulW := by
  intro x y z h F H v w Q e rx ry k
  unfold mulW at h
  split at h
  · rename_i s j
    split at h
    · next q =>
      cases h
      by_cases c : 2 ≤ j
      · refine .inl (opv_mulH (.str s) (.int j) _ ?_ F H v w Q e rx ry k)
        show mulE (.str s) (.int j) = _
        simp only [mulE]
        rw [if_pos ⟨c, q.2.1, q.2.2.1, q.2.2.2⟩]
      · obtain rfl : v = _ := rx
        obtain rfl : w = _ := ry
        exact .inr ⟨_, _, rfl, rfl, q.1, by omega, q.2.2.1, q.2.2.2, k _ F H .refl rfl⟩
    · cases h
  · exact .inl (opv_mulH _ _ z h F H v w Q e rx ry k)
theorem je_mulW {ga gb : Ev D} (ha : JE T X W a ga) (hb : JE T X W b gb) : JE T X W (.BinOp a .Mult b pos) (mOp mulW ga gb) := je_op2 (fun _ _ h1 h2 => pe_op (opr_or (opr_or (opr_or op_mulE op_twice) op_rep0) op_repN) h1 h2) opv_mulW ha hb
end
end VS
set_option maxHeartbeats 2000000
namespace VS
open PySem L2 PySem.Spec PyProof.Rows
section
variable {T : Txt} {X : Cx} {W : WX} {pos p : Pos}
theorem jr_def0 {k : Nat} {x : Str} {G : Fn} (c : Cal X.prog X.w X.K X.mg X.base T k x G []) (hA : X.A.guards = some []) (hr : Room k X.A) (tk : Takes X W) (hg : Gl X x := by rfl)
    (hdb : (x == ("__debug__" : Str)) = false := by decide) : JR T X W (.Call (.Name x p) [] [] pos) (mRes G 0 [] mCN) := fun ρ => by
  obtain ⟨f, fd, hG, hm, hk, hb⟩ := c.ex
  have base := pe_callG0 (p := p) (pos := pos) hG hA hr hg hm hk hb .nil tk hdb
  simp only [mRes, mCN, R.bind_ok]
  cases w2 : callR G 0 ([] ++ ([] : List D).map AR.v) ρ with
  | stuck => exact pe_no
  | ex cx dx ρ2 => exact pe_weak base fun σ H Q ⟨F, Z, L, r, kk⟩ => call_mid w2 r rfl fun cls dd F' H' e r' p => kk cls dd F' H' e r' p
  | ok rr ρ2 =>
    cases rr with
    | ok d => exact pe_weak base fun σ H Q ⟨F, Z, L, r, kk⟩ => call_mid w2 r rfl fun v F' H' e r' p => kk v F' H' e r' p
    | nw m => exact pe_weak base fun σ H Q ⟨F, Z, L, r, kk⟩ => call_mid w2 r rfl fun a o F' H' e hz r' p => kk a o F' H' e hz r' p
    | ex _ _ => exact pe_no
end
end VS
set_option maxHeartbeats 2000000
namespace K07
open PySem L2 VS
noncomputable section
def h_p_is_whole : VEnv → RS := (mRet (mAndV (mIsi (isiB "int") (mVar 0)) (mAndV (mNotV (mIsi (isiB "bool") (mVar 0))) (mChain leD leD (mVar 1) (mVar 0) (mVar 2)))))
def g_p_is_whole : Fn := runG 3 h_p_is_whole
def h_p_is_name : VEnv → RS := (mSeq (mIfS (mOr (mNot (mTruth (mIsi (isiB "str") (mVar 0)))) (mNot (mTest (mChain leD leD (mC (.int 1)) (mCall1 lenD (mVar 0)) (mC (.int 6)))))) (mRet (mC (.bl false))) mNext)
    (mRet (mCall1 allD (mLc (mSeqOf (mVar 0)) [1] (setV 1) mYes (mChain leD leD (mC (.str "a")) (mVar 1) (mC (.str "z")))))))
def g_p_is_name : Fn := runG 2 h_p_is_name
def h_p_are_hungers : VEnv → RS := (mSeq (mIfS (mOr (mNot (mTruth (mIsi (isiB "tuple") (mVar 0)))) (mTest (mOp neD (mCall1 lenD (mVar 0)) (mVar 1)))) (mRet (mC (.bl false))) mNext)
    (mSeq (mIfS (mNot (mTruth (mCall1 allD (mLc (mSeqOf (mVar 0)) [2] (setV 2) mYes (mVal (mRes g_p_is_whole 3 [] (mCV (mVar 2) (mCV (mC (.int 0)) (mCV (mC (.int 9)) mCN))))))))) (mRet (mC (.bl false))) mNext)
    (mRet (mCall1 anyD (mLc (mSeqOf (mVar 0)) [2] (setV 2) mYes (mOp gtD (mVar 2) (mC (.int 0))))))))
def g_p_are_hungers : Fn := runG 3 h_p_are_hungers
def h_p_are_feeders : VEnv → RS := (mSeq (mIfS (mNot (mTruth (mIsi (isiB "tuple") (mVar 0)))) (mRet (mC (.bl false))) mNext)
    (mSeq (mIfS (mNot (mTruth (mCall1 allD (mLc (mSeqOf (mVar 0)) [2] (setV 2) mYes (mAndV (mIsi (isiB "str") (mVar 2)) (mOp inD (mVar 2) (mOwn 1))))))) (mRet (mC (.bl false))) mNext)
    (mRet (mOp eqD (mCall1 lenSetD (mVar 0)) (mCall1 lenD (mVar 0))))))
def g_p_are_feeders : Fn := runG 3 h_p_are_feeders
def h_p_is_hearth : VEnv → RS := (mSeq (mIfS (mOr (mNot (mTruth (mIsi (isiB "tuple") (mVar 0)))) (mTest (mOp neD (mCall1 lenD (mVar 0)) (mC (.int 3))))) (mRet (mC (.bl false))) mNext)
    (mSeq (mAsg (mVar 0) (tgTup 3 (tgCons (setV 3) (tgCons (setV 4) (tgCons (setV 5) tgNil)))))
    (mSeq (mIfS (mOr (mNot (mTruth (mVal (mRes g_p_is_name 1 [] (mCV (mVar 3) mCN))))) (mTest (mOp inD (mVar 3) (mOwn 2)))) (mRet (mC (.bl false))) mNext)
    (mRet (mAndV (mVal (mRes g_p_are_hungers 2 [] (mCV (mVar 4) (mCV (mVar 1) mCN)))) (mVal (mRes g_p_are_feeders 2 [] (mCV (mVar 5) (mCL 2 mCN)))))))))
def g_p_is_hearth : Fn := runG 6 h_p_is_hearth
def h_p_hearths_by_name : VEnv → RS := (mSeq (mIfS (mOr (mNot (mTruth (mIsi (isiB "tuple") (mVar 1)))) (mTest (mOp gtD (mCall1 lenD (mVar 1)) (mC (.int 16))))) (mRaiseF 2 (mC .non)) mNext)
    (mSeq (mSetO 2 mDictO)
    (mSeq (mFor (mEnumE (mVar 1)) (tgTup 2 (tgCons (setV 3) (tgCons (setV 4) tgNil))) (mSeq (mIfS (mNot (mTruth (mVal (mCalm (mRes g_p_is_hearth 3 [] (mCV (mVar 4) (mCV (mVar 0) (mCL 2 mCN)))))))) (mRaiseF 2 (mVar 3)) mNext)
    (mAsg (mVar 4) (tgPut 2 (mOp ixD (mVar 4) (mC (.int 0)))))))
    (mRetO 2))))
def g_p_hearths_by_name : Fn := runG 5 h_p_hearths_by_name
def h_m_Web_init : VEnv → RS := (mSeq (mIfS (mNot (mTruth (mVal (mCalm (mRes g_p_is_whole 3 [] (mCV (mVar 1) (mCV (mC (.int 1)) (mCV (mC (.int 3)) mCN)))))))) (mRaise0 1) mNext)
    (mSeq (mFldS 0 0 0 (mVal (mRes g_p_hearths_by_name 2 [] (mCV (mVar 1) (mCV (mVar 2) mCN)))))
    (mSeq (mFldS 0 0 1 (mVar 1))
    (mFldS 0 0 2 (mVar 2)))))
def g_m_Web_init : Fn := runG 3 h_m_Web_init
def h_m_Web_hearth_of : VEnv → RS := (mSeq (mIfS (mOr (mNot (mTruth (mIsi (isiB "str") (mVar 1)))) (mTest (mOp notInD (mVar 1) (mCall1 (fldD 0 0) (mVar 0))))) (mRaise1 5 (mVar 1)) mNext)
    (mRet (mOp ixD (mCall1 (fldD 0 0) (mVar 0)) (mVar 1))))
def g_m_Web_hearth_of : Fn := runG 2 h_m_Web_hearth_of
def h_m_Web_names : VEnv → RS := (mRet (mCall1 tupleE (mLc (mSeqOf (mCall1 (fldD 0 2) (mVar 0))) [1] (setV 1) mYes (mOp ixD (mVar 1) (mC (.int 0))))))
def g_m_Web_names : Fn := runG 2 h_m_Web_names
def h_m_Web_hungers : VEnv → RS := (mRet (mOp ixD (mVal (mMeth g_m_Web_hearth_of 0 2 [] (mVar 0) (mCons (mVar 1) mNil))) (mC (.int 1))))
def g_m_Web_hungers : Fn := runG 2 h_m_Web_hungers
def h_m_Web_feeders : VEnv → RS := (mRet (mOp ixD (mVal (mMeth g_m_Web_hearth_of 0 2 [] (mVar 0) (mCons (mVar 1) mNil))) (mC (.int 2))))
def g_m_Web_feeders : Fn := runG 2 h_m_Web_feeders
def h_m_Web_built : VEnv → RS := (mRet (mVal (mMake g_m_Web_init 0 3 [] (mCons (mCall1 (fldD 0 1) (mVar 0)) (mCons (mOp addU (mCall1 (fldD 0 2) (mVar 0)) (mTup (mCons (mVar 1) mNil))) mNil)))))
def g_m_Web_built : Fn := runG 2 h_m_Web_built
def h_m_Web_len : VEnv → RS := (mRet (mCall1 lenD (mCall1 (fldD 0 2) (mVar 0))))
def g_m_Web_len : Fn := runG 1 h_m_Web_len
def h_p_is_number : VEnv → RS := (mSeq (mIfS (mOr (mNot (mTest (mChain leD leD (mC (.int 1)) (mCall1 lenD (mVar 0)) (mC (.int 9))))) (mNot (mTruth (mCall1 allD (mLc (mSeqOf (mVar 0)) [1] (setV 1) mYes (mChain leD leD (mC (.str "0")) (mVar 1) (mC (.str "9")))))))) (mRet (mC (.bl false))) mNext)
    (mRet (mOrV (mOp eqD (mVar 0) (mC (.str "0"))) (mOp neD (mOp ixD (mVar 0) (mC (.int 0))) (mC (.str "0"))))))
def g_p_is_number : Fn := runG 2 h_p_is_number
def h_p_numbers_ahead : VEnv → RS := (mSeq (mSetO 1 (mLstO mNil))
    (mSeq (mFor (mSeqOf (mVar 0)) (setV 2) (mSeq (mIfS (mNot (mTruth (mVal (mRes g_p_is_number 1 [] (mCV (mVar 2) mCN))))) RS.bk mNext)
    (mAppend 1 (mCall1 intSD (mVar 2)))))
    (mRet (mCall1 tupleE (mOwn 1)))))
def g_p_numbers_ahead : Fn := runG 3 h_p_numbers_ahead
def h_p_are_feeders_told : VEnv → RS := (mSeq (mIfS (mNot (mTruth (mVar 0))) (mRet (mC (.bl true))) mNext)
    (mRet (mAndV (mOp eqD (mOp ixD (mVar 0) (mC (.int 0))) (mC (.str "over"))) (mAndV (mOp gtD (mCall1 lenD (mVar 0)) (mC (.int 1))) (mCall1 allD (mLc (mSeqOf (mSlice (mVar 0) (mPart (mC (.int 1))) mNoPart)) [1] (setV 1) mYes (mVal (mRes g_p_is_name 1 [] (mCV (mVar 1) mCN)))))))))
def g_p_are_feeders_told : Fn := runG 2 h_p_are_feeders_told
def h_p_hearth_told : VEnv → RS := (mSeq (mIfS (mOr (mTest (mOp ltD (mCall1 lenD (mVar 0)) (mC (.int 3)))) (mOr (mTest (mOp neD (mOp ixD (mVar 0) (mC (.int 0))) (mC (.str "hearth")))) (mNot (mTruth (mVal (mRes g_p_is_name 1 [] (mCV (mOp ixD (mVar 0) (mC (.int 1))) mCN))))))) (mRet (mC .non)) mNext)
    (mSeq (mAsg (mVal (mRes g_p_numbers_ahead 1 [] (mCV (mSlice (mVar 0) (mPart (mC (.int 2))) mNoPart) mCN))) (setV 1))
    (mSeq (mAsg (mSlice (mVar 0) (mPart (mOp addD (mC (.int 2)) (mCall1 lenD (mVar 1)))) mNoPart) (setV 2))
    (mSeq (mIfS (mOr (mNot (mTruth (mVar 1))) (mNot (mTruth (mVal (mRes g_p_are_feeders_told 1 [] (mCV (mVar 2) mCN)))))) (mRet (mC .non)) mNext)
    (mRet (mTup (mCons (mOp ixD (mVar 0) (mC (.int 1))) (mCons (mVar 1) (mCons (mCall1 tupleE (mSlice (mVar 2) (mPart (mC (.int 1))) mNoPart)) mNil)))))))))
def g_p_hearth_told : Fn := runG 3 h_p_hearth_told
def h_p_web_begun : VEnv → RS := (mSeq (mAsg (mOp splitD (isStrR (mVar 0)) (mC (.str " "))) (setV 1))
    (mSeq (mIfS (mOr (mTest (mOp neD (mCall1 lenD (mVar 1)) (mC (.int 2)))) (mOr (mTest (mOp neD (mOp ixD (mVar 1) (mC (.int 0))) (mC (.str "stores")))) (mNot (mTruth (mVal (mRes g_p_is_number 1 [] (mCV (mOp ixD (mVar 1) (mC (.int 1))) mCN))))))) (mRaiseF 3 (mC (.int 0))) mNext)
    (mTryR [1] 3 (mRet (mVal (mMake g_m_Web_init 0 3 [.fru []] (mCons (mCall1 intSD (mOp ixD (mVar 1) (mC (.int 1)))) mNil)))) (mC (.int 0)))))
def g_p_web_begun : Fn := runG 2 h_p_web_begun
def h_p_web_with_row : VEnv → RS := (mSeq (mAsg (mVal (mRes g_p_hearth_told 1 [] (mCV (mOp splitD (isStrR (mVar 1)) (mC (.str " "))) mCN))) (setV 3))
    (mSeq (mIfS (mTest (mOp isND (mVar 3) (mC .non))) (mRaiseF 3 (mVar 2)) mNext)
    (mTryR [2] 3 (mRet (mVal (mMeth g_m_Web_built 0 2 [] (mVar 0) (mCons (mVar 3) mNil)))) (mVar 2))))
def g_p_web_with_row : Fn := runG 4 h_p_web_with_row
def h_p_read_web : VEnv → RS := (mSeq (mIfS (mNot (mTruth (mIsi (isiB "str") (mVar 0)))) (mRaiseF 3 (mC (.int 0))) mNext)
    (mSeq (mAsg (mOp splitD (isStrR (mVar 0)) (mC (.str "\n"))) (setV 1))
    (mSeq (mAsg (mVal (mRes g_p_web_begun 1 [] (mCV (mOp ixD (mVar 1) (mC (.int 0))) mCN))) (setV 2))
    (mSeq (mFor (mEnumS 1 (mSlice (mVar 1) (mPart (mC (.int 1))) mNoPart)) (tgTup 2 (tgCons (setV 3) (tgCons (setV 4) tgNil))) (mAsg (mVal (mRes g_p_web_with_row 3 [] (mCV (mVar 2) (mCV (mVar 4) (mCV (mVar 3) mCN))))) (setV 2)))
    (mRet (mVar 2))))))
def g_p_read_web : Fn := runG 5 h_p_read_web
def h_l_cell : VEnv → RS := (mSeq (mIfS (mTest (mOp ltD (mVar 1) (mCall1 lenD (mVar 0)))) (mRet (mOp ixD (mVar 0) (mVar 1))) mNext)
    (mSeq (mAsg (mOp modD (mOp mulE (mC (.int 60037)) (mOp addD (mOp addD (mOp mulE (mVar 1) (mVar 1)) (mOp mulE (mC (.int 7)) (mVar 1))) (mC (.int 5)))) (mC (.int 1000000087))) (setV 2))
    (mSeq (mFor (mSeqOf (mSlice (mVar 0) mNoPart (mPart (mC (.int 4))))) (setV 3) (mAsg (mOp modD (mOp addD (mOp mulE (mVar 2) (mC (.int 30013))) (mVar 3)) (mC (.int 1000000087))) (setV 2)))
    (mRet (mVar 2)))))
def g_l_cell : Fn := runG 4 h_l_cell
def h_l_hand : VEnv → RS := (mSeq (mAsg (mIf (mOr (mTest (mOp ltD (mVar 0) (mC (.int 0)))) (mTest (mOp geD (mVar 0) (mOp powD (mC (.int 10)) (mC (.int 18)))))) (mCall1 absD (mVar 0)) (mC (.int 0))) (setV 1))
    (mRetF (mLstO (mCons (mVar 1) (mCons (mOp addD (mOp mulE (mOp modD (mVar 0) (mC (.int 1000000087))) (mC (.int 7013))) (mC (.int 4007))) (mCons (mC (.int 0)) mNil))))))
def g_l_hand : Fn := runG 2 h_l_hand
def h_l_draw : VEnv → RS := (mSeq (mAsg (mOp addD (mOpO ixD 0 (mC (.int 2))) (mC (.int 1))) (tgItem 0 (mC (.int 2))))
    (mSeq (mIfS (mTest (mOp gtD (mOpO ixD 0 (mC (.int 0))) (mC (.int 0)))) (mSeq (mAsg (mCall divmodD (mCons (mOpO ixD 0 (mC (.int 0))) (mCons (mVar 1) mNil))) (tgTup 2 (tgCons (tgItem 0 (mC (.int 0))) (tgCons (setV 2) tgNil))))
    (mRet (mVar 2))) mNext)
    (mSeq (mAsg (mOp modD (mOpO ixD 0 (mC (.int 1))) (mC (.int 1000000087))) (setV 3))
    (mSeq (mAsg (mOp addD (mOp mulE (mVar 3) (mOp addD (mOp modD (mVar 3) (mC (.int 46027))) (mC (.int 30011)))) (mOp mulE (mC (.int 80039)) (mOpO ixD 0 (mC (.int 2))))) (tgItem 0 (mC (.int 1))))
    (mRet (mOp modD (mOp fdivD (mOp modD (mOpO ixD 0 (mC (.int 1))) (mC (.int 1000000087))) (mC (.int 16))) (mVar 1)))))))
def g_l_draw : Fn := runG 4 h_l_draw
def h_l_calls : VEnv → RS := (mSeq (mAsg (mLst (mCons (mC (.str "over")) (mCons (mC (.str "hearth")) (mCons (mC (.str "out")) (mCons (mC (.str "kindle")) (mCons (mC (.str "gust")) (mCons (mC (.str "spark")) (mCons (mC (.str "give")) (mCons (mC (.str "back")) (mCons (mC (.str "here")) (mCons (mC (.str "never")) (mCons (mC (.str "to")) (mCons (mC (.str "stores")) mNil))))))))))))) (setV 2))
    (mSeq (mParEF 3 4 (mC (.str "abcdefghijklmnopqrstuvwxyz")) (mLstO mNil))
    (mSeq (mFor (mRange1 (mVar 1)) (setV 5) (mSeq (mAsg (mOp ixD (mVar 2) (mVal (mRes g_l_draw 2 [] (mCL 0 (mCV (mC (.int 12)) mCN))))) (setV 6))
    (mSeq (mIfS (mTest (mOp gtD (mVal (mRes g_l_draw 2 [] (mCL 0 (mCV (mC (.int 3)) mCN)))) (mC (.int 0)))) (mAsg (mCall1 (joinD "") (mLc (mRange1 (mOp addD (mC (.int 1)) (mVal (mRes g_l_draw 2 [] (mCL 0 (mCV (mC (.int 6)) mCN)))))) [8] (setV 8) mYes (mOp ixD (mVar 3) (mVal (mRes g_l_draw 2 [] (mCL 0 (mCV (mC (.int 26)) mCN))))))) (setV 6)) mNext)
    (mSeq (mAsg (mOp addD (mLst (mCons (mVar 6) mNil)) (mLc (mSeqOf (mVar 3)) [9] (setV 9) mYes (mOp addD (mSlice (mVar 6) mNoPart (mPart (mC (.int 5)))) (mVar 9)))) (setV 7))
    (mAppend 4 (mOp ixD (mLc (mSeqOf (mVar 7)) [10] (setV 10) (mTest (mOp notInD (mVar 10) (mOwn 4))) (mVar 10)) (mC (.int 0))))))))
    (mRetO 4))))
def g_l_calls : Fn := runG 11 h_l_calls
def h_l_refused : VEnv → RS := (mSeq (mSetO 1 (mLstO mNil))
    (mSeq (mFor (mRange1 (mC (.int 2))) (setV 2) (mSeq (mAsg (mC .non) (setV 3))
    (mSeq (mRows [1, 2, 3, 5] 4 (mIfS (mTest (mOp eqD (mVar 2) (mC (.int 0)))) (mExpr (mVal (mRes g_p_read_web 1 [] (mCV (mVar 0) mCN)))) (mExpr (mVal (mResK g_p_read_web 1 1 [0] (mCons (mVar 0) mNil)))))
    (mAsg (mVar 4) (setV 3)))
    (mSeq (mAsg (mAndV (mIsi (isaD [1, 2, 3, 5] (isaF ["NoneType"] [(1, false), (2, false), (3, true), (5, false)])) (mVar 3)) (mAndV (mIsi (isaD [1, 2, 3, 5] (isaF ["NoneType"] [(1, true), (2, true), (3, true), (5, true)])) (mVar 3)) (mIsi (isaD [1, 2, 3, 5] (isaF ["NoneType"] [(1, true), (2, true), (3, true), (5, true)])) (mVar 3)))) (setV 5))
    (mSeq (mIfS (mOr (mNot (mTruth (mVar 5))) (mTruth (mIsi (isaD [1, 2, 3, 5] (isaF ["NoneType"] [(1, false), (2, true), (3, false), (5, false)])) (mVar 3)))) (mRet (mOp subD (mC (.int 0)) (mC (.int 1)))) mNext)
    (mAppend 1 (mCall1 (xfdD [3] 0) (mVar 3))))))))
    (mSeq (mIfS (mOr (mTruth (mIsi (isiB "bool") (mOpO ixD 1 (mC (.int 0))))) (mTest (mOp neD (mOpO ixD 1 (mC (.int 0))) (mOpO ixD 1 (mC (.int 1)))))) (mRet (mOp subD (mC (.int 0)) (mC (.int 1)))) mNext)
    (mRet (mOpO ixD 1 (mC (.int 0)))))))
def g_l_refused : Fn := runG 6 h_l_refused
def h_l_heads : VEnv → RS := (mSeq (mAsg (mLst (mCons (mC (.str "")) (mCons (mC (.str "stores")) (mCons (mC (.str "stores 0")) (mCons (mC (.str "stores 4")) (mCons (mC (.str "stores 01")) (mCons (mC (.str "stores 1 ")) (mCons (mC (.str " stores 1")) (mCons (mC (.str "stores  1")) (mCons (mC (.str "Stores 1")) mNil)))))))))) (setV 0))
    (mRet (mOp addD (mVar 0) (mLst (mCons (mC (.str "stores +1")) (mCons (mC (.str "stores 1 1")) (mCons (mC (.str "store 1")) (mCons (mC (.str "hearth a 1")) (mCons (mC (.str "stores -1")) (mCons (mC (.str "stores 1.")) (mCons (mC (.str "1")) (mCons (mC (.str "stores one")) mNil))))))))))))
def g_l_heads : Fn := runG 1 h_l_heads
def h_l_small_right : VEnv → RS := (mSeq (mAsg (mOp addD (mOp addD (mC (.str "stores 1\nhearth ")) (mVar 0)) (mC (.str " 1\n"))) (setV 3))
    (mSeq (mSetO 4 (mLstO (mCons (mOp addD (mC (.str "hearth ")) (mVar 1)) (mCons (mOp addD (mOp addD (mC (.str "hearth ")) (mVar 1)) (mC (.str " "))) (mCons (mOp addD (mOp addD (mC (.str "hearth ")) (mVar 1)) (mC (.str " 0"))) (mCons (mOp addD (mOp addD (mC (.str "hearth ")) (mVar 1)) (mC (.str " 10"))) (mCons (mOp addD (mOp addD (mC (.str "hearth ")) (mVar 1)) (mC (.str " 01"))) mNil)))))))
    (mSeq (mSetO 4 (mAddL 4 (mLst (mCons (mOp addD (mOp addD (mC (.str "hearth ")) (mVar 1)) (mC (.str " +1"))) (mCons (mOp addD (mOp addD (mC (.str "hearth ")) (mVar 1)) (mC (.str " -1"))) (mCons (mOp addD (mOp addD (mC (.str "hearth ")) (mVar 1)) (mC (.str " 1 1"))) (mCons (mOp addD (mOp addD (mOp addD (mC (.str "hearth ")) (mVar 1)) (mC (.str " 1 "))) (mVar 0)) mNil)))))))
    (mSeq (mSetO 4 (mAddL 4 (mLst (mCons (mOp addD (mOp addD (mC (.str "hearth ")) (mVar 1)) (mC (.str " 1 over"))) (mCons (mOp addD (mOp addD (mC (.str "hearth ")) (mVar 1)) (mC (.str " 1 over "))) (mCons (mOp addD (mOp addD (mOp addD (mC (.str "hearth ")) (mVar 1)) (mC (.str " 1 over "))) (mVar 1)) mNil))))))
    (mSeq (mSetO 4 (mAddL 4 (mLst (mCons (mOp addD (mOp addD (mOp addD (mC (.str "hearth ")) (mVar 1)) (mC (.str " 1 over "))) (mVar 2)) (mCons (mOp addD (mOp addD (mOp addD (mOp addD (mOp addD (mC (.str "hearth ")) (mVar 1)) (mC (.str " 1 over "))) (mVar 0)) (mC (.str " "))) (mVar 0)) (mCons (mOp addD (mOp addD (mC (.str "hearth ")) (mVar 0)) (mC (.str " 2"))) mNil))))))
    (mSeq (mSetO 4 (mAddL 4 (mLst (mCons (mOp addD (mOp addD (mOp addD (mC (.str "hearth ")) (mVar 1)) (mC (.str " 1 over  "))) (mVar 0)) (mCons (mOp addD (mOp addD (mC (.str "hearth  ")) (mVar 1)) (mC (.str " 1"))) (mCons (mOp addD (mOp addD (mC (.str " hearth ")) (mVar 1)) (mC (.str " 1"))) (mCons (mOp addD (mOp addD (mC (.str "hearth ")) (mVar 1)) (mC (.str " 1 "))) mNil)))))))
    (mSeq (mSetO 4 (mAddL 4 (mLst (mCons (mC (.str "")) (mCons (mC (.str " ")) (mCons (mC (.str "stores 1")) (mCons (mOp addD (mOp addD (mC (.str "hearths ")) (mVar 1)) (mC (.str " 1"))) (mCons (mOp addD (mOp addD (mOp addD (mC (.str "hearth ")) (mVar 1)) (mC (.str " 1 Over "))) (mVar 0)) mNil))))))))
    (mSeq (mAppend 4 (mOp addD (mOp addD (mOp addD (mC (.str "hearth ")) (mVar 1)) (mC (.str " over "))) (mVar 0)))
    (mSeq (mSetO 4 (mAddL 4 (mLst (mCons (mOp addD (mOp addD (mC (.str "hearth ")) (mVar 0)) (mC (.str "bcdefg 1"))) (mCons (mC (.str "hearth A 1")) (mCons (mOp addD (mOp addD (mC (.str "hearth ")) (mVar 1)) (mC (.str "1 1"))) (mCons (mC (.str "hearth 1 1")) (mCons (mC (.str "hearth  1")) mNil))))))))
    (mSeq (mIfS (mNot (mTruth (mCall1 allD (mLcS 4 [8] (setV 8) mYes (mOp eqD (mVal (mRes g_l_refused 1 [] (mCV (mOp addD (mVar 3) (mVar 8)) mCN))) (mC (.int 2))))))) (mRet (mC (.bl false))) mNext)
    (mSeq (mFor (mSeqOf (mLst (mCons (mOp addD (mOp addD (mC (.str "hearth ")) (mVar 2)) (mC (.str " 0"))) (mCons (mC (.str " ")) (mCons (mOp addD (mC (.str "hearth ")) (mVar 2)) (mCons (mC (.str "stores 1")) (mCons (mOp addD (mOp addD (mC (.str "hearth ")) (mVar 0)) (mC (.str " 1"))) mNil))))))) (setV 5) (mIfS (mNot (mTruth (mCall1 allD (mLcS 4 [8] (setV 8) mYes (mOp eqD (mVal (mRes g_l_refused 1 [] (mCV (mOp addD (mOp addD (mOp addD (mVar 3) (mVar 8)) (mC (.str "\n"))) (mVar 5)) mCN))) (mC (.int 2))))))) (mRet (mC (.bl false))) mNext))
    (mSeq (mAsg (mOp addD (mOp addD (mOp addD (mC (.str "hearth ")) (mVar 1)) (mC (.str " 9 over "))) (mVar 0)) (setV 6))
    (mSeq (mIfS (mOr (mTest (mOp neD (mVal (mRes g_l_refused 1 [] (mCV (mOp addD (mOp addD (mVar 3) (mVar 6)) (mC (.str "\n"))) mCN))) (mC (.int 3)))) (mTest (mOp neD (mVal (mRes g_l_refused 1 [] (mCV (mOp addD (mOp addD (mOp addD (mVar 3) (mVar 6)) (mC (.str "\n"))) (mVar 6)) mCN))) (mC (.int 3))))) (mRet (mC (.bl false))) mNext)
    (mSeq (mAsg (mVal (mRes g_p_read_web 1 [] (mCV (mOp addD (mOp addD (mOp addD (mOp addD (mOp addD (mOp addD (mOp addD (mVar 3) (mVar 6)) (mC (.str "\nhearth "))) (mVar 2)) (mC (.str " 9 over "))) (mVar 1)) (mC (.str " "))) (mVar 0)) mCN))) (setV 7))
    (mRet (mOp eqD (mCall1 (fldD 0 2) (mVar 7)) (mTup (mCons (mTup (mCons (mVar 0) (mCons (mTup (mCons (mC (.int 1)) mNil)) (mCons (mTup mNil) mNil)))) (mCons (mTup (mCons (mVar 1) (mCons (mTup (mCons (mC (.int 9)) mNil)) (mCons (mTup (mCons (mVar 0) mNil)) mNil)))) (mCons (mTup (mCons (mVar 2) (mCons (mTup (mCons (mC (.int 9)) mNil)) (mCons (mTup (mCons (mVar 1) (mCons (mVar 0) mNil))) mNil)))) mNil))))))))))))))))))))
def g_l_small_right : Fn := runG 9 h_l_small_right
def h_l_stores_right : VEnv → RS := (mSeq (mFor (mRange2 (mCons (mC (.int 1)) (mCons (mC (.int 4)) mNil))) (setV 2) (mSeq (mAsg (mOp addD (mC (.str "stores ")) (mCall1 strD (mVar 2))) (setV 3))
    (mSeq (mIfS (mOr (mTest (mOp neD (mCall1 (fldD 0 1) (mVal (mRes g_p_read_web 1 [] (mCV (mVar 3) mCN)))) (mVar 2))) (mOr (mTest (mOp neD (mCall1 (lenI 0 g_m_Web_len) (mVal (mRes g_p_read_web 1 [] (mCV (mVar 3) mCN)))) (mC (.int 0)))) (mTest (mOp neD (mVal (mRes g_l_refused 1 [] (mCV (mOp addD (mVar 3) (mC (.str "\n"))) mCN))) (mC (.int 1)))))) (mRet (mC (.bl false))) mNext)
    (mSeq (mFor (mRange2 (mCons (mC (.int 1)) (mCons (mC (.int 6)) mNil))) (setV 4) (mSeq (mAsg (mOp addD (mOp addD (mOp addD (mOp addD (mVar 3) (mC (.str "\nhearth "))) (mVar 0)) (mOp mulW (mC (.str " 0")) (mOp subD (mVar 4) (mC (.int 1))))) (mC (.str " 9"))) (setV 5))
    (mSeq (mIfS (mAnd (mTest (mOp neD (mVar 4) (mVar 2))) (mTest (mOp neD (mVal (mRes g_l_refused 1 [] (mCV (mVar 5) mCN))) (mC (.int 1))))) (mRet (mC (.bl false))) mNext)
    (mSeq (mIfS (mAnd (mTest (mOp eqD (mVar 4) (mVar 2))) (mTest (mOp neD (mVal (mMeth g_m_Web_hungers 0 2 [] (mVal (mRes g_p_read_web 1 [] (mCV (mVar 5) mCN))) (mCons (mVar 0) mNil))) (mOp addD (mOp mulW (mTup (mCons (mC (.int 0)) mNil)) (mOp subD (mVar 2) (mC (.int 1)))) (mTup (mCons (mC (.int 9)) mNil)))))) (mRet (mC (.bl false))) mNext)
    (mIfS (mTest (mOp neD (mVal (mRes g_l_refused 1 [] (mCV (mOp addD (mOp addD (mOp addD (mVar 3) (mC (.str "\nhearth "))) (mVar 0)) (mOp mulW (mC (.str " 0")) (mVar 4))) mCN))) (mC (.int 1)))) (mRet (mC (.bl false))) mNext)))))
    (mSeq (mAsg (mOp addD (mOp addD (mOp addD (mVar 3) (mC (.str "\nhearth "))) (mVar 0)) (mOp mulW (mC (.str " 1")) (mVar 2))) (setV 5))
    (mSeq (mAsg (mOp addD (mOp addD (mOp addD (mOp addD (mOp addD (mVar 5) (mC (.str "\nhearth "))) (mVar 1)) (mOp mulW (mC (.str " 0")) (mOp subD (mVar 2) (mC (.int 1))))) (mC (.str " 3 over "))) (mVar 0)) (setV 5))
    (mIfS (mOr (mTest (mOp neD (mVal (mMeth g_m_Web_feeders 0 2 [] (mVal (mRes g_p_read_web 1 [] (mCV (mVar 5) mCN))) (mCons (mVar 1) mNil))) (mTup (mCons (mVar 0) mNil)))) (mTest (mOp neD (mVal (mRes g_l_refused 1 [] (mCV (mCall1 (replD " 1" " x") (mVar 5)) mCN))) (mOp subD (mC (.int 1)) (mCall1 int1D (mOp eqD (mVar 2) (mC (.int 1)))))))) (mRet (mC (.bl false))) mNext)))))))
    (mRet (mC (.bl true))))
def g_l_stores_right : Fn := runG 6 h_l_stores_right
def h_l_great_right : VEnv → RS := (mSeq (mParFF 1 2 (mLstO (mCons (mC (.str "stores 2")) mNil)) (mLstO (mCons (mC (.str "stores 2")) mNil)))
    (mSeq (mFor (mEnumE (mVar 0)) (tgTup 2 (tgCons (setV 3) (tgCons (setV 4) tgNil))) (mSeq (mAppend 1 (mOp addD (mOp addD (mOp addD (mC (.str "hearth ")) (mVar 4)) (mC (.str " 0 "))) (mCall1 strD (mOp addD (mC (.int 1)) (mOp modD (mVar 3) (mC (.int 9)))))))
    (mSeq (mAsg (mOp addD (mLst (mCons (mC (.str "hearth")) (mCons (mVar 4) (mCons (mC (.str "9")) (mCons (mC (.str "0")) mNil))))) (mOp mulE (mLst (mCons (mC (.str "over")) mNil)) (mCall1 int1D (mOp gtD (mVar 3) (mC (.int 0)))))) (setV 5))
    (mAppend 2 (mCall1 (joinD " ") (mOp addD (mVar 5) (mCall1 revD (mSlice (mVar 0) mNoPart (mPart (mVar 3))))))))))
    (mSeq (mFor (mSeqOf (mLst (mCons (mGo 1) (mCons (mGo 2) mNil)))) (setV 6) (mSeq (mAsg (mVal (mRes g_p_read_web 1 [] (mCV (mCall1 (joinD "\n") (mSlice (mVar 6) mNoPart (mPart (mC (.int 17))))) mCN))) (setV 7))
    (mIfS (mOr (mTest (mOp neD (mCall1 (lenI 0 g_m_Web_len) (mVar 7)) (mC (.int 16)))) (mOr (mTest (mOp neD (mVal (mMeth0 g_m_Web_names 0 1 (mVar 7))) (mCall1 tupleE (mSlice (mVar 0) mNoPart (mPart (mC (.int 16))))))) (mTest (mOp neD (mVal (mRes g_l_refused 1 [] (mCV (mCall1 (joinD "\n") (mVar 6)) mCN))) (mC (.int 17)))))) (mRet (mC (.bl false))) mNext)))
    (mSeq (mAsg (mVal (mRes g_p_read_web 1 [] (mCV (mCall1 (joinD "\n") (mSlice (mGo 2) mNoPart (mPart (mC (.int 17))))) mCN))) (setV 7))
    (mRet (mOp eqD (mLc (mRange1 (mC (.int 16))) [3] (setV 3) mYes (mVal (mMeth g_m_Web_feeders 0 2 [] (mVar 7) (mCons (mOp ixD (mVar 0) (mVar 3)) mNil)))) (mLc (mRange1 (mC (.int 16))) [3] (setV 3) mYes (mCall1 tupleE (mCall1 revD (mSlice (mVar 0) mNoPart (mPart (mVar 3))))))))))))
def g_l_great_right : Fn := runG 8 h_l_great_right
def h_law_ : VEnv → RS := (mSeq (mIfS (mNot (mTruth (mCall1 allD (mLc (mSeqOf (mVal (mRes g_l_heads 0 [] mCN))) [5] (setV 5) mYes (mOp eqD (mVal (mRes g_l_refused 1 [] (mCV (mVar 5) mCN))) (mC (.int 0))))))) (mRet (mC (.bl false))) mNext)
    (mSeq (mIfS (mNot (mTruth (mCall1 allD (mLc (mSeqOf (mVal (mRes g_l_heads 0 [] mCN))) [5] (setV 5) mYes (mOp eqD (mVal (mRes g_l_refused 1 [] (mCV (mOp addD (mVar 5) (mC (.str "\nhearth a 1"))) mCN))) (mC (.int 0))))))) (mRet (mC (.bl false))) mNext)
    (mSeq (mFor (mRange1 (mCall max2D (mCons (mC (.int 2)) (mCons (mCall min2D (mCons (mC (.int 4)) (mCons (mCall1 lenD (mVar 0)) mNil))) mNil)))) (setV 1) (mSeq (mSetO 2 (mNew (mRes g_l_hand 1 [] (mCV (mVal (mRes g_l_cell 2 [] (mCV (mVar 0) (mCV (mVar 1) mCN)))) mCN))))
    (mSeq (mAsg (mVal (mRes g_l_calls 2 [] (mCL 2 (mCV (mC (.int 17)) mCN)))) (setV 3))
    (mSeq (mIfS (mOr (mNot (mTruth (mVal (mRes g_l_small_right 3 [] (mCV (mOp ixD (mVar 3) (mC (.int 0))) (mCV (mOp ixD (mVar 3) (mC (.int 1))) (mCV (mOp ixD (mVar 3) (mC (.int 2))) mCN))))))) (mNot (mTruth (mVal (mRes g_l_stores_right 2 [] (mCV (mOp ixD (mVar 3) (mC (.int 3))) (mCV (mOp ixD (mVar 3) (mC (.int 4))) mCN))))))) (mRet (mC (.bl false))) mNext)
    (mIfS (mNot (mTruth (mVal (mRes g_l_great_right 1 [] (mCV (mVar 3) mCN))))) (mRet (mC (.bl false))) mNext)))))
    (mSeq (mAsg (mVal (mRes g_p_read_web 1 [] (mCV (mC (.str "stores 1\nhearth over 1\nhearth hearth 2 over over\nhearth stores 3 over hearth over")) mCN))) (setV 4))
    (mRet (mOp eqD (mCall1 (fldD 0 2) (mVar 4)) (mTup (mCons (mTup (mCons (mC (.str "over")) (mCons (mTup (mCons (mC (.int 1)) mNil)) (mCons (mTup mNil) mNil)))) (mCons (mTup (mCons (mC (.str "hearth")) (mCons (mTup (mCons (mC (.int 2)) mNil)) (mCons (mTup (mCons (mC (.str "over")) mNil)) mNil)))) (mCons (mTup (mCons (mC (.str "stores")) (mCons (mTup (mCons (mC (.int 3)) mNil)) (mCons (mTup (mCons (mC (.str "hearth")) (mCons (mC (.str "over")) mNil))) mNil)))) mNil))))))))))
def g_law_ : Fn := runG 6 h_law_
end
end K07
namespace VS
open PySem L2 He
structure SaysY (fa : List Fa) (fn : List DefD) (ex : PySem.W.Frag → Bool) (w : World) (K : PySem.W.Frag) : Prop where
  t : SaysT fa fn [] w K
  more : ex K = true
end VS
namespace VS
open PySem L2 He
def obsZ (as : List Addr) (fa : List Fa) (fn : List DefD) (ex : PySem.W.Frag → Bool) (g : Addr → Option Obj) : AlX := (obsT fa fn [] (frT g as), ex (frT g as))
def hookZ (as : List Addr) (fa : List Fa) (fn : List DefD) (ex : PySem.W.Frag → Bool) : PySem.W.Hook where
  α := AlX
  obs := fun st => obsZ as fa fn ex st.heap.get?
  val := fun w => valX fn [] w
  says := fun w h => ∃ K : PySem.W.Frag, K.In h ∧ SaysY fa fn ex w K
  of := fun _ _ e => ⟨_, frT_in, congrArg Prod.fst e, congrArg Prod.snd e⟩
  keeps := fun _ _ _ ⟨K, inK, c⟩ k => ⟨K, PySem.W.Frag.In.keeps inK k, c⟩
theorem obsZ_eq {as : List Addr} {fa : List Fa} {fn : List DefD} {ex : PySem.W.Frag → Bool} {g : Addr → Option Obj} {st : Shared} (h : ∀ a, g a = st.heap.get? a) : obsZ as fa fn ex g = (hookZ as fa fn ex).obs st := by
  cases (funext h : g = st.heap.get?)
  rfl
end VS
set_option maxHeartbeats 0
namespace K07
open PySem PySem.Spec PyProof.Rows L2 VS
def topS (i : Nat) : Stmt := PySem.Challenge.pw_kindlestair_k07_texts_at_their_bounds.main.body.getD i (.Pass ⟨0, 0, 0, 0⟩)
def clsB (s : Stmt) : List Stmt := match s with
  | .ClassDef _ _ _ b _ _ _ _ _ _ _ => b
  | _ => []
def metS (i j : Nat) : Stmt := (clsB (topS i)).getD j (.Pass ⟨0, 0, 0, 0⟩)
abbrev s_p_is_whole : Stmt := topS 14
def d_p_is_whole : He.DefD := ⟨("is_whole", none), "is_whole", "is_whole", defArgs s_p_is_whole, defBody s_p_is_whole, defScope s_p_is_whole, [], []⟩
abbrev s_p_is_name : Stmt := topS 15
def d_p_is_name : He.DefD := ⟨("is_name", none), "is_name", "is_name", defArgs s_p_is_name, defBody s_p_is_name, defScope s_p_is_name, [], []⟩
abbrev s_p_are_hungers : Stmt := topS 16
def d_p_are_hungers : He.DefD := ⟨("are_hungers", none), "are_hungers", "are_hungers", defArgs s_p_are_hungers, defBody s_p_are_hungers, defScope s_p_are_hungers, [], []⟩
abbrev s_p_are_feeders : Stmt := topS 17
def d_p_are_feeders : He.DefD := ⟨("are_feeders", none), "are_feeders", "are_feeders", defArgs s_p_are_feeders, defBody s_p_are_feeders, defScope s_p_are_feeders, [], []⟩
abbrev s_p_is_hearth : Stmt := topS 18
def d_p_is_hearth : He.DefD := ⟨("is_hearth", none), "is_hearth", "is_hearth", defArgs s_p_is_hearth, defBody s_p_is_hearth, defScope s_p_is_hearth, [], []⟩
abbrev s_p_hearths_by_name : Stmt := topS 19
def d_p_hearths_by_name : He.DefD := ⟨("hearths_by_name", none), "hearths_by_name", "hearths_by_name", defArgs s_p_hearths_by_name, defBody s_p_hearths_by_name, defScope s_p_hearths_by_name, [], []⟩
abbrev s_p_hearth_row : Stmt := topS 20
def d_p_hearth_row : He.DefD := ⟨("hearth_row", none), "hearth_row", "hearth_row", defArgs s_p_hearth_row, defBody s_p_hearth_row, defScope s_p_hearth_row, [], []⟩
abbrev s_m_Web_init : Stmt := metS 21 0
def d_m_Web_init : He.DefD := ⟨("Web", some "__init__"), "__init__", "Web.__init__", defArgs s_m_Web_init, defBody s_m_Web_init, defScope s_m_Web_init, [.adr (He.dflAt ("Web", some "__init__") 0)], []⟩
abbrev s_m_Web_hearth_of : Stmt := metS 21 1
def d_m_Web_hearth_of : He.DefD := ⟨("Web", some "hearth_of"), "hearth_of", "Web.hearth_of", defArgs s_m_Web_hearth_of, defBody s_m_Web_hearth_of, defScope s_m_Web_hearth_of, [], []⟩
abbrev s_m_Web_names : Stmt := metS 21 2
def d_m_Web_names : He.DefD := ⟨("Web", some "names"), "names", "Web.names", defArgs s_m_Web_names, defBody s_m_Web_names, defScope s_m_Web_names, [], []⟩
abbrev s_m_Web_hungers : Stmt := metS 21 3
def d_m_Web_hungers : He.DefD := ⟨("Web", some "hungers"), "hungers", "Web.hungers", defArgs s_m_Web_hungers, defBody s_m_Web_hungers, defScope s_m_Web_hungers, [], []⟩
abbrev s_m_Web_feeders : Stmt := metS 21 4
def d_m_Web_feeders : He.DefD := ⟨("Web", some "feeders"), "feeders", "Web.feeders", defArgs s_m_Web_feeders, defBody s_m_Web_feeders, defScope s_m_Web_feeders, [], []⟩
abbrev s_m_Web_above : Stmt := metS 21 5
def d_m_Web_above : He.DefD := ⟨("Web", some "above"), "above", "Web.above", defArgs s_m_Web_above, defBody s_m_Web_above, defScope s_m_Web_above, [], []⟩
abbrev s_m_Web_built : Stmt := metS 21 6
def d_m_Web_built : He.DefD := ⟨("Web", some "built"), "built", "Web.built", defArgs s_m_Web_built, defBody s_m_Web_built, defScope s_m_Web_built, [], []⟩
abbrev s_m_Web_eq : Stmt := metS 21 7
def d_m_Web_eq : He.DefD := ⟨("Web", some "__eq__"), "__eq__", "Web.__eq__", defArgs s_m_Web_eq, defBody s_m_Web_eq, defScope s_m_Web_eq, [], []⟩
abbrev s_m_Web_len : Stmt := metS 21 8
def d_m_Web_len : He.DefD := ⟨("Web", some "__len__"), "__len__", "Web.__len__", defArgs s_m_Web_len, defBody s_m_Web_len, defScope s_m_Web_len, [], []⟩
abbrev s_m_Web_str : Stmt := metS 21 9
def d_m_Web_str : He.DefD := ⟨("Web", some "__str__"), "__str__", "Web.__str__", defArgs s_m_Web_str, defBody s_m_Web_str, defScope s_m_Web_str, [], []⟩
abbrev s_m_Web_repr : Stmt := metS 21 10
def d_m_Web_repr : He.DefD := ⟨("Web", some "__repr__"), "__repr__", "Web.__repr__", defArgs s_m_Web_repr, defBody s_m_Web_repr, defScope s_m_Web_repr, [], []⟩
abbrev s_p_is_number : Stmt := topS 23
def d_p_is_number : He.DefD := ⟨("is_number", none), "is_number", "is_number", defArgs s_p_is_number, defBody s_p_is_number, defScope s_p_is_number, [], []⟩
abbrev s_p_numbers_ahead : Stmt := topS 24
def d_p_numbers_ahead : He.DefD := ⟨("numbers_ahead", none), "numbers_ahead", "numbers_ahead", defArgs s_p_numbers_ahead, defBody s_p_numbers_ahead, defScope s_p_numbers_ahead, [], []⟩
abbrev s_p_are_feeders_told : Stmt := topS 25
def d_p_are_feeders_told : He.DefD := ⟨("are_feeders_told", none), "are_feeders_told", "are_feeders_told", defArgs s_p_are_feeders_told, defBody s_p_are_feeders_told, defScope s_p_are_feeders_told, [], []⟩
abbrev s_p_hearth_told : Stmt := topS 26
def d_p_hearth_told : He.DefD := ⟨("hearth_told", none), "hearth_told", "hearth_told", defArgs s_p_hearth_told, defBody s_p_hearth_told, defScope s_p_hearth_told, [], []⟩
abbrev s_p_web_begun : Stmt := topS 28
def d_p_web_begun : He.DefD := ⟨("web_begun", none), "web_begun", "web_begun", defArgs s_p_web_begun, defBody s_p_web_begun, defScope s_p_web_begun, [], []⟩
abbrev s_p_web_with_row : Stmt := topS 29
def d_p_web_with_row : He.DefD := ⟨("web_with_row", none), "web_with_row", "web_with_row", defArgs s_p_web_with_row, defBody s_p_web_with_row, defScope s_p_web_with_row, [], []⟩
abbrev s_p_read_web : Stmt := topS 30
def d_p_read_web : He.DefD := ⟨("read_web", none), "read_web", "read_web", defArgs s_p_read_web, defBody s_p_read_web, defScope s_p_read_web, [], []⟩
abbrev s_l_cell : Stmt := topS 32
def d_l_cell : He.DefD := ⟨("_law_cell", none), "_law_cell", "_law_cell", defArgs s_l_cell, defBody s_l_cell, defScope s_l_cell, [], []⟩
abbrev s_l_hand : Stmt := topS 33
def d_l_hand : He.DefD := ⟨("_law_hand", none), "_law_hand", "_law_hand", defArgs s_l_hand, defBody s_l_hand, defScope s_l_hand, [], []⟩
abbrev s_l_draw : Stmt := topS 34
def d_l_draw : He.DefD := ⟨("_law_draw", none), "_law_draw", "_law_draw", defArgs s_l_draw, defBody s_l_draw, defScope s_l_draw, [], []⟩
abbrev s_l_calls : Stmt := topS 35
def d_l_calls : He.DefD := ⟨("_law_calls", none), "_law_calls", "_law_calls", defArgs s_l_calls, defBody s_l_calls, defScope s_l_calls, [], []⟩
abbrev s_l_refused : Stmt := topS 36
def d_l_refused : He.DefD := ⟨("_law_refused", none), "_law_refused", "_law_refused", defArgs s_l_refused, defBody s_l_refused, defScope s_l_refused, [], []⟩
abbrev s_l_heads : Stmt := topS 37
def d_l_heads : He.DefD := ⟨("_law_heads", none), "_law_heads", "_law_heads", defArgs s_l_heads, defBody s_l_heads, defScope s_l_heads, [], []⟩
abbrev s_l_small_right : Stmt := topS 38
def d_l_small_right : He.DefD := ⟨("_law_small_right", none), "_law_small_right", "_law_small_right", defArgs s_l_small_right, defBody s_l_small_right, defScope s_l_small_right, [], []⟩
abbrev s_l_stores_right : Stmt := topS 39
def d_l_stores_right : He.DefD := ⟨("_law_stores_right", none), "_law_stores_right", "_law_stores_right", defArgs s_l_stores_right, defBody s_l_stores_right, defScope s_l_stores_right, [], []⟩
abbrev s_l_great_right : Stmt := topS 40
def d_l_great_right : He.DefD := ⟨("_law_great_right", none), "_law_great_right", "_law_great_right", defArgs s_l_great_right, defBody s_l_great_right, defScope s_l_great_right, [], []⟩
abbrev s_law_ : Stmt := topS 41
def d_law_ : He.DefD := ⟨("law", none), "law", "law", defArgs s_law_, defBody s_law_, defScope s_law_, [], []⟩
abbrev s_m_NoWeb_init : Stmt := metS 4 0
def d_m_NoWeb_init : He.DefD := ⟨("NoWeb", some "__init__"), "__init__", "NoWeb.__init__", defArgs s_m_NoWeb_init, defBody s_m_NoWeb_init, defScope s_m_NoWeb_init, [], []⟩
abbrev s_m_NoName_init : Stmt := metS 5 0
def d_m_NoName_init : He.DefD := ⟨("NoName", some "__init__"), "__init__", "NoName.__init__", defArgs s_m_NoName_init, defBody s_m_NoName_init, defScope s_m_NoName_init, [], []⟩
abbrev s_m_NoText_init : Stmt := metS 6 0
def d_m_NoText_init : He.DefD := ⟨("NoText", some "__init__"), "__init__", "NoText.__init__", defArgs s_m_NoText_init, defBody s_m_NoText_init, defScope s_m_NoText_init, [], []⟩
def fn0 : List He.DefD := [d_p_is_whole, d_p_is_name, d_p_are_hungers, d_p_are_feeders, d_p_is_hearth, d_p_hearths_by_name, d_p_hearth_row, d_m_Web_init, d_m_Web_hearth_of, d_m_Web_names, d_m_Web_hungers, d_m_Web_feeders, d_m_Web_above, d_m_Web_built, d_m_Web_eq, d_m_Web_len, d_m_Web_str, d_m_Web_repr, d_p_is_number, d_p_numbers_ahead, d_p_are_feeders_told, d_p_hearth_told, d_p_web_begun, d_p_web_with_row, d_p_read_web, d_l_cell, d_l_hand, d_l_draw, d_l_calls, d_l_refused]
def fn1 : List He.DefD := [d_l_heads, d_l_small_right, d_l_stores_right, d_l_great_right, d_law_, d_m_NoWeb_init, d_m_NoName_init, d_m_NoText_init]
def fn : List He.DefD := fn0 ++ fn1
def fa0 : List He.Fa := [.int "MOST" 16, .int "MOST_STORES" 3, .int "MOST_HUNGER" 9, .int "LONGEST_NAME" 6, .int "MOST_FIGURES" 9, .glo "is_whole", .glo "is_name", .glo "are_hungers", .glo "are_feeders", .glo "is_hearth", .glo "hearths_by_name", .glo "hearth_row", .glo "is_number", .glo "numbers_ahead", .glo "are_feeders_told", .glo "hearth_told", .glo "web_begun", .glo "web_with_row", .glo "read_web", .glo "_law_cell", .glo "_law_hand", .glo "_law_draw", .glo "_law_calls", .glo "_law_refused", .glo "_law_heads", .glo "_law_small_right", .glo "_law_stores_right", .glo "_law_great_right", .glo "law", .glo "Web"]
def fa1 : List He.Fa := [.cls "Web", .mkr "Web", .keep "Web", .noat "Web" "by_name", .noat "Web" "stores", .noat "Web" "hearths", .meth "Web" "__init__", .meth "Web" "hearth_of", .meth "Web" "names", .meth "Web" "hungers", .meth "Web" "feeders", .meth "Web" "above", .meth "Web" "built", .meth "Web" "__eq__", .meth "Web" "__len__", .meth "Web" "__str__", .meth "Web" "__repr__", .glo "NoStores", .exc "NoStores", .glo "NoWeb", .meth "NoWeb" "__init__", .glo "NoText", .meth "NoText" "__init__", .glo "NoName", .meth "NoName" "__init__", .glo "HearthError", .glo "StateError", .free "RuntimeError", .free "ValueError", .free "abs"]
def fa2 : List He.Fa := [.free "all", .free "any", .free "bool", .free "divmod", .free "enumerate", .free "int", .free "isinstance", .free "len", .free "list", .free "max", .free "min", .free "range", .free "set", .free "str", .free "tuple"]
def fa : List He.Fa := fa0 ++ fa1 ++ fa2
def loose0 : List PySem.Str := ["_wall", "__name__", "HearthError", "NoStores", "NoWeb", "NoName", "NoText", "StateError", "MOST", "MOST_STORES", "MOST_HUNGER", "LONGEST_NAME", "MOST_FIGURES", "is_whole", "is_name", "are_hungers", "are_feeders", "is_hearth", "hearths_by_name", "hearth_row", "Web", "is_number", "numbers_ahead", "are_feeders_told", "hearth_told", "web_begun", "web_with_row", "read_web", "_law_cell", "_law_hand"]
def loose1 : List PySem.Str := ["_law_draw", "_law_calls", "_law_refused", "_law_heads", "_law_small_right", "_law_stores_right", "_law_great_right"]
def loose : List PySem.Str := loose0 ++ loose1
def exF (K : PySem.W.Frag) : Bool := ((["NoneType", "bool", "int", "str", "tuple", "list", "dict"].all fun n => decide (PySem.W.kitOne K (.type n) (.ref (He.ga K "Web")) = some false)) && (decide (PySem.W.kitOne K (.ref (He.ga K "Web")) (.ref (He.ga K "Web")) = some true) && (He.eqO (PySem.W.findIn K (.ref (He.ga K "Web")) "__class__") (some (some (.builtin "object.__class__"))) && (decide (PySem.W.mroIn K (He.ga K "Web") (.type "object") = some true) && (He.eqO (PySem.W.findIn K (.ref (He.ga K "Web")) "__ne__") (some (some (.builtin "object.__ne__"))) && (He.eqO (PySem.W.findIn K (.ref (He.ga K "Web")) "__bool__") (some none) && (noneAt K (He.dflAt ("Web", some "__init__") 0 K) && (exkB K (He.ga K "NoStores") && (oexAll K (He.ga K "NoWeb") && (decide (PySem.W.findIn K (.ref (He.ga K "NoWeb")) "place" = some none) && (decide (PySem.W.typeIn K (.ref (He.ma K (He.ga K "NoWeb") "__init__")) = some (.type "function")) && (exkB K (He.ga K "NoWeb") && (oexAll K (He.ga K "NoText") && (decide (PySem.W.findIn K (.ref (He.ga K "NoText")) "row" = some none) && (decide (PySem.W.typeIn K (.ref (He.ma K (He.ga K "NoText") "__init__")) = some (.type "function")) && (exkB K (He.ga K "NoText") && (oexAll K (He.ga K "NoName") && (decide (PySem.W.findIn K (.ref (He.ga K "NoName")) "name" = some none) && (decide (PySem.W.typeIn K (.ref (He.ma K (He.ga K "NoName") "__init__")) = some (.type "function")) && (exkB K (He.ga K "NoName") && (decide (PySem.W.exmOne K (.ref (He.ga K "NoStores")) (.ref (He.ga K "NoStores")) = some true) && (decide (PySem.W.exmOne K (.ref (He.ga K "NoWeb")) (.ref (He.ga K "NoWeb")) = some true) && (decide (PySem.W.exmAny K (.ref (He.ga K "NoStores")) [.ref (He.ga K "HearthError"), .ref (He.ga K "StateError")] = some true) && (decide (PySem.W.exmAny K (.ref (He.ga K "NoWeb")) [.ref (He.ga K "HearthError"), .ref (He.ga K "StateError")] = some true) && (decide (PySem.W.exmAny K (.ref (He.ga K "NoText")) [.ref (He.ga K "HearthError"), .ref (He.ga K "StateError")] = some true) && (decide (PySem.W.exmAny K (.ref (He.ga K "NoName")) [.ref (He.ga K "HearthError"), .ref (He.ga K "StateError")] = some true) && (upB K (He.ga K "HearthError") && (decide (PySem.W.kitOne K (.type "NoneType") (.ref (He.ga K "NoText")) = some false) && (decide (PySem.W.kitOne K (.ref (He.ga K "NoStores")) (.ref (He.ga K "NoText")) = some false) && (decide (PySem.W.kitOne K (.ref (He.ga K "NoWeb")) (.ref (He.ga K "NoText")) = some false) && (decide (PySem.W.kitOne K (.ref (He.ga K "NoText")) (.ref (He.ga K "NoText")) = some true) && (decide (PySem.W.kitOne K (.ref (He.ga K "NoName")) (.ref (He.ga K "NoText")) = some false) && (decide (PySem.W.kitOne K (.type "NoneType") (.ref (He.ga K "HearthError")) = some false) && (decide (PySem.W.kitOne K (.ref (He.ga K "NoStores")) (.ref (He.ga K "HearthError")) = some true) && (decide (PySem.W.kitOne K (.ref (He.ga K "NoWeb")) (.ref (He.ga K "HearthError")) = some true) && (decide (PySem.W.kitOne K (.ref (He.ga K "NoText")) (.ref (He.ga K "HearthError")) = some true) && (decide (PySem.W.kitOne K (.ref (He.ga K "NoName")) (.ref (He.ga K "HearthError")) = some true) && (decide (PySem.W.kitOne K (.type "NoneType") (.type "ValueError") = some false) && (decide (PySem.W.kitOne K (.ref (He.ga K "NoStores")) (.type "ValueError") = some true) && (decide (PySem.W.kitOne K (.ref (He.ga K "NoWeb")) (.type "ValueError") = some true) && (decide (PySem.W.kitOne K (.ref (He.ga K "NoText")) (.type "ValueError") = some true) && (decide (PySem.W.kitOne K (.ref (He.ga K "NoName")) (.type "ValueError") = some true) && (decide (PySem.W.kitAny K (.type "NoneType") [(.ref (He.ga K "StateError")), (.ref (He.ga K "NoWeb"))] = some false) && (decide (PySem.W.kitAny K (.ref (He.ga K "NoStores")) [(.ref (He.ga K "StateError")), (.ref (He.ga K "NoWeb"))] = some false) && (decide (PySem.W.kitAny K (.ref (He.ga K "NoWeb")) [(.ref (He.ga K "StateError")), (.ref (He.ga K "NoWeb"))] = some true) && (decide (PySem.W.kitAny K (.ref (He.ga K "NoText")) [(.ref (He.ga K "StateError")), (.ref (He.ga K "NoWeb"))] = some false) && (decide (PySem.W.kitAny K (.ref (He.ga K "NoName")) [(.ref (He.ga K "StateError")), (.ref (He.ga K "NoWeb"))] = some false) && (He.eqO (PySem.W.specialIn K (.builtin "object.__class__") "__get__") (some (some (.builtin "getset_descriptor.__get__"))) && decide (PySem.W.takesIn K (.builtin "object.__class__") = some true)))))))))))))))))))))))))))))))))))))))))))))))))
abbrev R : PySem.W.OpenRow := PySem.W.OpenLaw.row PySem.Challenge.rw_kindlestair_k07_texts_at_their_bounds
def asL : List Nat := [2, 3, 6, 4, 21, 31, 44, 63, 82, 101, 113, 123, 128, 133, 138, 145, 152, 157, 242, 251, 258, 263, 270, 277, 284, 291, 298, 305, 312, 317, 324, 331, 336, 343, 348, 353, 0, 20, 30, 43, 62, 81, 100, 112, 122, 127, 132, 137, 144, 151, 156, 241, 250, 257, 262, 269, 276, 283, 290, 297, 304, 311, 316, 323, 330, 335, 342, 347, 352, 15, 16, 17, 18, 19, 29, 32, 42, 60, 61, 79, 80, 98, 99, 111, 114, 117, 118, 119, 120, 121, 124, 125, 126, 129, 130, 131, 134, 135, 136, 139, 140, 141, 142, 143, 146, 147, 148, 149, 150, 153, 154, 155, 173, 180, 185, 192, 199, 206, 213, 220, 227, 232, 239, 240, 243, 244, 247, 248, 249, 252, 253, 254, 255, 256, 259, 260, 261, 264, 265, 266, 267, 268, 271, 272, 273, 274, 275, 278, 279, 280, 281, 282, 285, 286, 287, 288, 289, 292, 293, 294, 295, 296, 299, 300, 301, 302, 303, 306, 307, 308, 309, 310, 313, 314, 315, 318, 319, 320, 321, 322, 325, 326, 327, 328, 329, 332, 333, 334, 337, 338, 339, 340, 341, 344, 345, 346, 349, 350, 351, 59, 78, 97, 172, 166, 179, 184, 191, 198, 205, 212, 219, 226, 231, 238, 54, 55, 56, 57, 58, 73, 74, 75, 76, 77, 92, 93, 94, 95, 96, 167, 168, 169, 170, 171, 165, 174, 175, 176, 177, 178, 181, 182, 183, 186, 187, 188, 189, 190, 193, 194, 195, 196, 197, 200, 201, 202, 203, 204, 207, 208, 209, 210, 211, 214, 215, 216, 217, 218, 221, 222, 223, 224, 225, 228, 229, 230, 233, 234, 235, 236, 237]
abbrev hk : PySem.W.Hook := hookZ asL fa fn exF
def ob (s : PySem.W.SharedT) : He.AlX := obsZ asL fa fn exF (HandSHeadRun.getT s)
theorem ob_eq (s : PySem.W.SharedT) : ob s = hk.obs s.abs := obsZ_eq (HandSHeadRun.getT_eq s)
theorem run (w : World) : HandSHeadRun.RunEq R (PySem.W.view R.prog [41]) hk ob 14000 loose w := by
  intro os
  kernel_rfl
end K07
set_option maxHeartbeats 2000000
namespace K07
open PySem L2 PySem.Spec PyProof.Rows VS
structure Tx (K : PySem.W.Frag) (T : Txt) (mg : Str → Option Value) : Prop where
  b_ValueError : mg "ValueError" = none
  b_abs : mg "abs" = none
  b_all : mg "all" = none
  b_any : mg "any" = none
  b_bool : mg "bool" = none
  b_divmod : mg "divmod" = none
  b_enumerate : mg "enumerate" = none
  b_int : mg "int" = none
  b_isinstance : mg "isinstance" = none
  b_len : mg "len" = none
  b_max : mg "max" = none
  b_min : mg "min" = none
  b_range : mg "range" = none
  b_set : mg "set" = none
  b_str : mg "str" = none
  b_tuple : mg "tuple" = none
  c_LONGEST_NAME : ∃ t, mg "LONGEST_NAME" = some (.int 6 t)
  c_MOST : ∃ t, mg "MOST" = some (.int 16 t)
  c_MOST_FIGURES : ∃ t, mg "MOST_FIGURES" = some (.int 9 t)
  c_MOST_HUNGER : ∃ t, mg "MOST_HUNGER" = some (.int 9 t)
  c_MOST_STORES : ∃ t, mg "MOST_STORES" = some (.int 3 t)
  fl_Web : T.fl 0 = (["by_name", "stores", "hearths"] : List Str)
  C_Web : ClsF K T 0
  I_Web : IsiF K T 0
  g_Web : mg "Web" = some (.ref (T.cl 0))
  S_Web : SpF K T 0
  g_NoStores : mg "NoStores" = some (.ref (T.cl 1))
  g_NoWeb : mg "NoWeb" = some (.ref (T.cl 2))
  g_NoText : mg "NoText" = some (.ref (T.cl 3))
  g_NoName : mg "NoName" = some (.ref (T.cl 5))
  g_HearthError : mg "HearthError" = some (.ref (T.cl 4))
  g_StateError : mg "StateError" = some (.ref (T.cl 6))
  xk : Kinds K T [1, 2, 3, 5]
  hitR_NoStores : ∀ c ∈ ([1] : List Nat), PySem.W.exmOne K (.ref (T.cl c)) (.ref (T.cl 1)) = some true
  hitR_NoWeb : ∀ c ∈ ([2] : List Nat), PySem.W.exmOne K (.ref (T.cl c)) (.ref (T.cl 2)) = some true
  hit2_HearthError_StateError : ∀ c ∈ ([1, 2, 3, 5] : List Nat), PySem.W.exmAny K (.ref (T.cl c)) [.ref (T.cl 4), .ref (T.cl 6)] = some true
  up_HearthError : upB K (T.cl 4) = true
  xk_place : Kinds K T [2]
  xf_place : ∀ c ∈ ([2] : List Nat), (T.fl c).Nodup ∧ (T.fl c)[0]? = some ("place" : Str) ∧ PySem.W.findIn K (.ref (T.cl c)) "place" = some none
  xk_row : Kinds K T [3]
  xf_row : ∀ c ∈ ([3] : List Nat), (T.fl c).Nodup ∧ (T.fl c)[0]? = some ("row" : Str) ∧ PySem.W.findIn K (.ref (T.cl c)) "row" = some none
  xk_name : Kinds K T [5]
  xf_name : ∀ c ∈ ([5] : List Nat), (T.fl c).Nodup ∧ (T.fl c)[0]? = some ("name" : Str) ∧ PySem.W.findIn K (.ref (T.cl c)) "name" = some none
  oex_NoWeb : OexC K (T.cl 2)
  no_NoWeb : PySem.W.findIn K (.ref (T.cl 2)) "place" = some none
  oex_NoText : OexC K (T.cl 3)
  no_NoText : PySem.W.findIn K (.ref (T.cl 3)) "row" = some none
  oex_NoName : OexC K (T.cl 5)
  no_NoName : PySem.W.findIn K (.ref (T.cl 5)) "name" = some none
  isa_NoText : IsaV K T (.ref (T.cl 3)) (isaF ["NoneType"] [(1, false), (2, false), (3, true), (5, false)])
  isa_HearthError : IsaV K T (.ref (T.cl 4)) (isaF ["NoneType"] [(1, true), (2, true), (3, true), (5, true)])
  isa_ValueError : IsaV K T (.ty "ValueError") (isaF ["NoneType"] [(1, true), (2, true), (3, true), (5, true)])
  isaT_StateError_NoWeb : IsaT K T [.ref (T.cl 6), .ref (T.cl 2)] (isaF ["NoneType"] [(1, false), (2, true), (3, false), (5, false)])
section
variable {T : Txt} {P : Program} {w : World} {K : PySem.W.Frag} {mg : Str → Option Value} {base : Heap} {f : Addr} {fd : FuncData}
theorem sc_m_NoWeb_init : FnScope ["self", "place"] ["self", "place"] (defScope s_m_NoWeb_init) := ⟨rfl, rfl, rfl, by decide +kernel, rfl, by decide +kernel, by decide +kernel⟩
theorem ok_m_NoWeb_init (X0 : Tx K T mg) (D0 : FunD K "__init__" "NoWeb.__init__" (defArgs s_m_NoWeb_init) (defBody s_m_NoWeb_init) (defScope s_m_NoWeb_init) [] [] f fd) : FnOk P w K mg base CX0 1 f fd ["self", "place"] (spIF (T.cl 2) "place") := by
  refine D0.ok (k := 0) sc_m_NoWeb_init (fun vs H Q E h => by obtain ⟨_, a, y, rfl, _⟩ := h; rfl) fun cdv A outer s H vs Q E hr h => ⟨_, pss_cons (ps_expr (pe_upInit X0.up_HearthError rfl X0.g_HearthError (pa_cons (pv 0) (pa_cons (pe_joined (.cons pe_str (.cons (pe_fmtN (pv 1)) (.cons pe_str .nil)))) pa_nil)))) (pss_cons (ps_ost (pv 0) (pv 1)) pss_nil), ?_⟩
  exact init_rowsF X0.oex_NoWeb X0.no_NoWeb rfl (by decide) (by decide) h
theorem sc_m_NoText_init : FnScope ["self", "row"] ["self", "row"] (defScope s_m_NoText_init) := ⟨rfl, rfl, rfl, by decide +kernel, rfl, by decide +kernel, by decide +kernel⟩
theorem ok_m_NoText_init (X0 : Tx K T mg) (D0 : FunD K "__init__" "NoText.__init__" (defArgs s_m_NoText_init) (defBody s_m_NoText_init) (defScope s_m_NoText_init) [] [] f fd) : FnOk P w K mg base CX0 1 f fd ["self", "row"] (spIF (T.cl 3) "row") := by
  refine D0.ok (k := 0) sc_m_NoText_init (fun vs H Q E h => by obtain ⟨_, a, y, rfl, _⟩ := h; rfl) fun cdv A outer s H vs Q E hr h => ⟨_, pss_cons (ps_expr (pe_upInit X0.up_HearthError rfl X0.g_HearthError (pa_cons (pv 0) (pa_cons (pe_joined (.cons pe_str (.cons (pe_fmtN (pv 1)) (.cons pe_str .nil)))) pa_nil)))) (pss_cons (ps_ost (pv 0) (pv 1)) pss_nil), ?_⟩
  exact init_rowsF X0.oex_NoText X0.no_NoText rfl (by decide) (by decide) h
theorem okH_m_NoText_init (X0 : Tx K T mg) (D0 : FunD K "__init__" "NoText.__init__" (defArgs s_m_NoText_init) (defBody s_m_NoText_init) (defScope s_m_NoText_init) [] [] f fd) : L2H.FnH P w K mg base CX0 1 f fd ["self", "row"] (spIF (T.cl 3) "row") := by
  refine fnH_of (k := 0) D0 sc_m_NoText_init (fun vs H Q E h => by obtain ⟨_, a, y, rfl, _⟩ := h; rfl) fun cdv A outer s H vs Q E p hot h => ⟨_, pss_cons (ps_expr (pe_upInit X0.up_HearthError rfl X0.g_HearthError (pa_cons (pv 0) (pa_cons (pe_joined (.cons pe_str (.cons (pe_fmtN (pv 1)) (.cons pe_str .nil)))) pa_nil)))) (pss_cons (ps_ost (pv 0) (pv 1)) pss_nil), ?_⟩
  exact init_rowsF X0.oex_NoText X0.no_NoText rfl (by decide) (by decide) h
theorem sc_m_NoName_init : FnScope ["self", "name"] ["self", "name"] (defScope s_m_NoName_init) := ⟨rfl, rfl, rfl, by decide +kernel, rfl, by decide +kernel, by decide +kernel⟩
theorem ok_m_NoName_init (X0 : Tx K T mg) (D0 : FunD K "__init__" "NoName.__init__" (defArgs s_m_NoName_init) (defBody s_m_NoName_init) (defScope s_m_NoName_init) [] [] f fd) : FnOk P w K mg base CX0 1 f fd ["self", "name"] (spI (T.cl 5) "name") := by
  refine D0.ok (k := 0) sc_m_NoName_init (fun vs H Q E h => by obtain ⟨a, y, rfl, _⟩ := h; rfl) fun cdv A outer s H vs Q E hr h => ⟨_, pss_cons (ps_expr (pe_upInit X0.up_HearthError rfl X0.g_HearthError (pa_cons (pv 0) (pa_cons pe_str pa_nil)))) (pss_cons (ps_ost (pv 0) (pv 1)) pss_nil), ?_⟩
  exact init_rows X0.oex_NoName X0.no_NoName rfl h
theorem sc_p_is_whole : FnScope ["thing", "low", "high"] ["thing", "low", "high"] (defScope s_p_is_whole) := ⟨rfl, rfl, rfl, by decide +kernel, rfl, by decide +kernel, by decide +kernel⟩
theorem ok_p_is_whole (X0 : Tx K T mg) (D0 : FunD K "is_whole" "is_whole" (defArgs s_p_is_whole) (defBody s_p_is_whole) (defScope s_p_is_whole) [] [] f fd) : FnG P w K mg base 1 f fd ["thing", "low", "high"] (spG K T g_p_is_whole 3) := by
  refine fnG_def' (h := h_p_is_whole) D0 sc_p_is_whole rfl rfl rfl (fun {cdv A outer s H E} hA hr tk po => ?_)
  exact (js_one (js_ret (je_and (je_isi isi_ty X0.b_isinstance (jb_of (je_v 0)) (pe_bltn (v := .ty "int") rfl X0.b_int (by decide +kernel) rfl)) (je_and (je_not (je_isi isi_ty X0.b_isinstance (jb_of (je_v 0)) (pe_bltn (v := .ty "bool") rfl X0.b_bool (by decide +kernel) rfl))) (je_one (je_chain cmp_le cmp_le (je_v 1) (je_v 0) (je_v 2)))))))
theorem sc_p_is_name : FnScope ["thing", "sign"] ["thing"] (defScope s_p_is_name) := ⟨rfl, rfl, rfl, by decide +kernel, rfl, by decide +kernel, by decide +kernel⟩
theorem ok_p_is_name (X0 : Tx K T mg) (D0 : FunD K "is_name" "is_name" (defArgs s_p_is_name) (defBody s_p_is_name) (defScope s_p_is_name) [] [] f fd) : FnG P w K mg base 1 f fd ["thing"] (spG K T g_p_is_name 1) := by
  refine fnG_def' (h := h_p_is_name) D0 sc_p_is_name rfl rfl rfl (fun {cdv A outer s H E} hA hr tk po => ?_)
  exact (js_cons (js_if (jt_of_jw (jw_or (jt_not (jt_truth (je_isi isi_ty X0.b_isinstance (jb_of (je_v 0)) (pe_bltn (v := .ty "str") rfl X0.b_str (by decide +kernel) rfl)))) (jw_or1 (jt_not (jt_chain cmp_le cmp_le je_cint (je_len X0.b_len (jb_of (je_v 0))) (je_gint X0.c_LONGEST_NAME)))))) (js_one (js_ret je_cbl)) js_nil)
    (js_one (js_ret (je_all rfl X0.b_all (jb_of (je_lc rfl sc_p_is_name.nd (ji_seq (je_v 0)) (blkOk_by (own := [("sign", 1)]) (by rfl)) rfl (fun _ _ _ _ _ => (jg_v 1 sc_p_is_name.nd)) (fun _ _ _ _ _ => jts_nil) (fun _ _ _ _ _ => (je_chain cmp_le cmp_le je_cstr (je_v 1) je_cstr)) (by decide)))))))
theorem sc_p_are_hungers : FnScope ["thing", "stores", "hunger"] ["thing", "stores"] (defScope s_p_are_hungers) := ⟨rfl, rfl, rfl, by decide +kernel, rfl, by decide +kernel, by decide +kernel⟩
theorem ok_p_are_hungers (X0 : Tx K T mg) (c_p_is_whole : Cal P w K mg base T 1 "is_whole" g_p_is_whole ["thing", "low", "high"]) (D0 : FunD K "are_hungers" "are_hungers" (defArgs s_p_are_hungers) (defBody s_p_are_hungers) (defScope s_p_are_hungers) [] [] f fd) : FnG P w K mg base 2 f fd ["thing", "stores"] (spG K T g_p_are_hungers 2) := by
  refine fnG_def' (h := h_p_are_hungers) D0 sc_p_are_hungers rfl rfl rfl (fun {cdv A outer s H E} hA hr tk po => ?_)
  exact (js_cons (js_if (jt_of_jw (jw_or (jt_not (jt_truth (je_isi isi_ty X0.b_isinstance (jb_of (je_v 0)) (pe_bltn (v := .ty "tuple") rfl X0.b_tuple (by decide +kernel) rfl)))) (jw_or1 (jt_cmp (cmp_ne hr) (je_len X0.b_len (jb_of (je_v 0))) (je_v 1))))) (js_one (js_ret je_cbl)) js_nil)
    (js_cons (js_if (jt_not (jt_truth (je_all rfl X0.b_all (jb_of (je_lc rfl sc_p_are_hungers.nd (ji_seq (je_v 0)) (blkOk_by (own := [("hunger", 2)]) (by rfl)) rfl (fun _ _ _ _ _ => (jg_v 2 sc_p_are_hungers.nd)) (fun _ _ _ _ _ => jts_nil) (fun _ _ _ _ _ => (je_of_jr (jr_def c_p_is_whole hA (hr.mono (by decide)) takes0 (jc_v (je_v 2) (jc_v je_cint (jc_v (je_gint X0.c_MOST_HUNGER) jc_nil)))))) (by decide)))))) (js_one (js_ret je_cbl)) js_nil)
    (js_one (js_ret (je_any rfl X0.b_any (jb_of (je_lc rfl sc_p_are_hungers.nd (ji_seq (je_v 0)) (blkOk_by (own := [("hunger", 2)]) (by rfl)) rfl (fun _ _ _ _ _ => (jg_v 2 sc_p_are_hungers.nd)) (fun _ _ _ _ _ => jts_nil) (fun _ _ _ _ _ => (je_cmp cmp_gt (je_v 2) je_cint)) (by decide))))))))
theorem sc_p_are_feeders : FnScope ["thing", "ahead", "feeder"] ["thing", "ahead"] (defScope s_p_are_feeders) := ⟨rfl, rfl, rfl, by decide +kernel, rfl, by decide +kernel, by decide +kernel⟩
theorem ok_p_are_feeders (X0 : Tx K T mg) (D0 : FunD K "are_feeders" "are_feeders" (defArgs s_p_are_feeders) (defBody s_p_are_feeders) (defScope s_p_are_feeders) [] [] f fd) : FnG P w K mg base 1 f fd ["thing", "ahead"] (spG K T g_p_are_feeders 2) := by
  refine fnG_def' (h := h_p_are_feeders) D0 sc_p_are_feeders rfl rfl rfl (fun {cdv A outer s H E} hA hr tk po => ?_)
  exact (js_cons (js_if (jt_not (jt_truth (je_isi isi_ty X0.b_isinstance (jb_of (je_v 0)) (pe_bltn (v := .ty "tuple") rfl X0.b_tuple (by decide +kernel) rfl)))) (js_one (js_ret je_cbl)) js_nil)
    (js_cons (js_if (jt_not (jt_truth (je_all rfl X0.b_all (jb_of (je_lc rfl sc_p_are_feeders.nd (ji_seq (je_v 0)) (blkOk_by (own := [("feeder", 2)]) (by rfl)) rfl (fun _ _ _ _ _ => (jg_v 2 sc_p_are_feeders.nd)) (fun _ _ _ _ _ => jts_nil) (fun _ _ _ _ _ => (je_and (je_isi isi_ty X0.b_isinstance (jb_of (je_v 2)) (pe_bltn (v := .ty "str") rfl X0.b_str (by decide +kernel) rfl)) (je_one (je_inO hr (je_v 2) (jb_v 1))))) (by decide)))))) (js_one (js_ret je_cbl)) js_nil)
    (js_one (js_ret (je_cmp (cmp_eq hr) (je_lenSet rfl X0.b_len X0.b_set (je_v 0)) (je_len X0.b_len (jb_of (je_v 0))))))))
theorem sc_p_is_hearth : FnScope ["thing", "stores", "ahead", "name", "hungers", "feeders"] ["thing", "stores", "ahead"] (defScope s_p_is_hearth) := ⟨rfl, rfl, rfl, by decide +kernel, rfl, by decide +kernel, by decide +kernel⟩
theorem ok_p_is_hearth (X0 : Tx K T mg) (c_p_is_name : Cal P w K mg base T 1 "is_name" g_p_is_name ["thing"]) (c_p_are_hungers : Cal P w K mg base T 2 "are_hungers" g_p_are_hungers ["thing", "stores"]) (c_p_are_feeders : Cal P w K mg base T 1 "are_feeders" g_p_are_feeders ["thing", "ahead"]) (D0 : FunD K "is_hearth" "is_hearth" (defArgs s_p_is_hearth) (defBody s_p_is_hearth) (defScope s_p_is_hearth) [] [] f fd) : FnG P w K mg base 3 f fd ["thing", "stores", "ahead"] (spG K T g_p_is_hearth 3) := by
  refine fnG_def' (h := h_p_is_hearth) D0 sc_p_is_hearth rfl rfl rfl (fun {cdv A outer s H E} hA hr tk po => ?_)
  exact (js_cons (js_if (jt_of_jw (jw_or (jt_not (jt_truth (je_isi isi_ty X0.b_isinstance (jb_of (je_v 0)) (pe_bltn (v := .ty "tuple") rfl X0.b_tuple (by decide +kernel) rfl)))) (jw_or1 (jt_cmp (cmp_ne hr) (je_len X0.b_len (jb_of (je_v 0))) je_cint)))) (js_one (js_ret je_cbl)) js_nil)
    (js_cons (js_asg (je_v 0) (jg_tup rfl (jgs_cons (jg_v 3 sc_p_is_hearth.nd) (jgs_cons (jg_v 4 sc_p_is_hearth.nd) (jgs_cons (jg_v 5 sc_p_is_hearth.nd) jgs_nil)))))
    (js_cons (js_if (jt_of_jw (jw_or (jt_not (jt_truth (je_of_jr (jr_def c_p_is_name hA (hr.mono (by decide)) tk (jc_v (je_v 3) jc_nil))))) (jw_or1 (jt_inO hr (je_v 3) (jb_v 2))))) (js_one (js_ret je_cbl)) js_nil)
    (js_one (js_ret (je_and (je_of_jr (jr_def c_p_are_hungers hA (hr.mono (by decide)) tk (jc_v (je_v 4) (jc_v (je_v 1) jc_nil)))) (je_one (je_of_jr (jr_def c_p_are_feeders hA (hr.mono (by decide)) tk (jc_v (je_v 5) (jc_l (pv 2) jc_nil)))))))))))
theorem sc_p_hearths_by_name : FnScope ["stores", "hearths", "ahead", "place", "hearth"] ["stores", "hearths"] (defScope s_p_hearths_by_name) := ⟨rfl, rfl, rfl, by decide +kernel, rfl, by decide +kernel, by decide +kernel⟩
theorem ok_p_hearths_by_name (X0 : Tx K T mg) (c_p_is_hearth : Cal P w K mg base T 3 "is_hearth" g_p_is_hearth ["thing", "stores", "ahead"]) (x_NoWeb : CalXF P w K mg base T 1 "NoWeb" 2 "place") (D0 : FunD K "hearths_by_name" "hearths_by_name" (defArgs s_p_hearths_by_name) (defBody s_p_hearths_by_name) (defScope s_p_hearths_by_name) [] [] f fd) : FnN P w K mg base 4 f fd ["stores", "hearths"] (spG K T g_p_hearths_by_name 2) := by
  refine fnN_def (h := h_p_hearths_by_name) D0 sc_p_hearths_by_name rfl rfl rfl (fun {cdv A outer s H E} hA hr tk po => ?_)
  exact (js_cons (js_if (jt_of_jw (jw_or (jt_not (jt_truth (je_isi isi_ty X0.b_isinstance (jb_of (je_v 1)) (pe_bltn (v := .ty "tuple") rfl X0.b_tuple (by decide +kernel) rfl)))) (jw_or1 (jt_cmp cmp_gt (je_len X0.b_len (jb_of (je_v 1))) (je_gint X0.c_MOST))))) (js_one (js_raiseFN x_NoWeb rfl (hr.mono (by decide)) tk je_cnon)) js_nil)
    (js_cons (js_setF (i := 2) sc_p_hearths_by_name.nd rfl (by first | exact Or.inl rfl | exact Or.inr rfl) jf_dict)
    (js_cons (js_for po rfl (ji_enumE rfl X0.b_enumerate (je_v 1)) (jg_tup rfl (jgs_cons (jg_v 3 sc_p_hearths_by_name.nd) (jgs_cons (jg_v 4 sc_p_hearths_by_name.nd) jgs_nil))) (js_cons (js_if (jt_not (jt_truth (je_of_jr (jr_calm (jr_def c_p_is_hearth hA (hr.mono (by decide)) takes0 (jc_v (je_v 4) (jc_v (je_v 0) (jc_l (pv 2) jc_nil)))))))) (js_one (js_raiseFN x_NoWeb rfl (hr.mono (by decide)) tk (je_v 3))) js_nil)
    (js_one (js_asg (je_v 4) (jg_put (W := W0) hr (pv 2) (je_ix hr (je_v 4) je_cint))))))
    (js_one (js_retO (pv 2))))))
theorem sc_m_Web_init : FnScope ["self", "stores", "hearths"] ["self", "stores", "hearths"] (defScope s_m_Web_init) := ⟨rfl, rfl, rfl, by decide +kernel, rfl, by decide +kernel, by decide +kernel⟩
theorem ok_m_Web_init {dvs : List V} (X0 : Tx K T mg) (c_p_is_whole : Cal P w K mg base T 1 "is_whole" g_p_is_whole ["thing", "low", "high"]) (c_p_hearths_by_name : CalN P w K mg base T 4 "hearths_by_name" g_p_hearths_by_name ["stores", "hearths"]) (x_NoStores : CalX0 K mg T "NoStores" 1) (D0 : FunD K "__init__" "Web.__init__" (defArgs s_m_Web_init) (defBody s_m_Web_init) (defScope s_m_Web_init) dvs [] f fd) : FnN P w K mg base 5 f fd ["self", "stores", "hearths"] (spG K T g_m_Web_init 3) := by
  refine fnN_def (h := h_m_Web_init) D0 sc_m_Web_init rfl rfl rfl (fun {cdv A outer s H E} hA hr tk po => ?_)
  exact (js_cons (js_if (jt_not (jt_truth (je_of_jr (jr_calm (jr_def c_p_is_whole hA (hr.mono (by decide)) takes0 (jc_v (je_v 1) (jc_v je_cint (jc_v (je_gint X0.c_MOST_STORES) jc_nil)))))))) (js_one (js_raise0N x_NoStores rfl tk)) js_nil)
    (js_cons (js_fldS X0.C_Web (by rw [X0.fl_Web]; decide) (by rw [X0.fl_Web]; rfl) (pv 0) (je_of_jr (jr_defN c_p_hearths_by_name hA (hr.mono (by decide)) tk (jc_v (je_v 1) (jc_v (je_v 2) jc_nil)))))
    (js_cons (js_fldS X0.C_Web (by rw [X0.fl_Web]; decide) (by rw [X0.fl_Web]; rfl) (pv 0) (je_v 1))
    (js_one (js_fldS X0.C_Web (by rw [X0.fl_Web]; decide) (by rw [X0.fl_Web]; rfl) (pv 0) (je_v 2))))))
theorem sc_m_Web_hearth_of : FnScope ["self", "name"] ["self", "name"] (defScope s_m_Web_hearth_of) := ⟨rfl, rfl, rfl, by decide +kernel, rfl, by decide +kernel, by decide +kernel⟩
theorem ok_m_Web_hearth_of (X0 : Tx K T mg) (x_NoName : CalX P w K mg base T 1 "NoName" 5 "name") (D0 : FunD K "hearth_of" "Web.hearth_of" (defArgs s_m_Web_hearth_of) (defBody s_m_Web_hearth_of) (defScope s_m_Web_hearth_of) [] [] f fd) : FnG P w K mg base 3 f fd ["self", "name"] (spG K T g_m_Web_hearth_of 2) := by
  refine fnG_def' (h := h_m_Web_hearth_of) D0 sc_m_Web_hearth_of rfl rfl rfl (fun {cdv A outer s H E} hA hr tk po => ?_)
  exact (js_cons (js_if (jt_of_jw (jw_or (jt_not (jt_truth (je_isi isi_ty X0.b_isinstance (jb_of (je_v 1)) (pe_bltn (v := .ty "str") rfl X0.b_str (by decide +kernel) rfl)))) (jw_or1 (jt_cmp (cmp_nin hr) (je_v 1) (je_fld X0.C_Web (by rw [X0.fl_Web]; rfl) (je_v 0)))))) (js_one (js_raise1 x_NoName rfl (hr.mono (by decide)) tk (je_v 1))) js_nil)
    (js_one (js_ret (je_ix hr (je_fld X0.C_Web (by rw [X0.fl_Web]; rfl) (je_v 0)) (je_v 1)))))
theorem sc_m_Web_names : FnScope ["self", "hearth"] ["self"] (defScope s_m_Web_names) := ⟨rfl, rfl, rfl, by decide +kernel, rfl, by decide +kernel, by decide +kernel⟩
theorem ok_m_Web_names (X0 : Tx K T mg) (D0 : FunD K "names" "Web.names" (defArgs s_m_Web_names) (defBody s_m_Web_names) (defScope s_m_Web_names) [] [] f fd) : FnG P w K mg base 1 f fd ["self"] (spG K T g_m_Web_names 1) := by
  refine fnG_def' (h := h_m_Web_names) D0 sc_m_Web_names rfl rfl rfl (fun {cdv A outer s H E} hA hr tk po => ?_)
  exact (js_one (js_ret (je_tupleE rfl X0.b_tuple (jb_of (je_lc rfl sc_m_Web_names.nd (ji_seq (je_fld X0.C_Web (by rw [X0.fl_Web]; rfl) (je_v 0))) (blkOk_by (own := [("hearth", 1)]) (by rfl)) rfl (fun _ _ _ _ _ => (jg_v 1 sc_m_Web_names.nd)) (fun _ _ _ _ _ => jts_nil) (fun _ _ _ _ _ => (je_ix hr (je_v 1) je_cint)) (by decide))))))
theorem sc_m_Web_hungers : FnScope ["self", "name"] ["self", "name"] (defScope s_m_Web_hungers) := ⟨rfl, rfl, rfl, by decide +kernel, rfl, by decide +kernel, by decide +kernel⟩
theorem ok_m_Web_hungers (X0 : Tx K T mg) (c_m_Web_hearth_of : CalM P w K mg base T 3 0 "hearth_of" g_m_Web_hearth_of ["self", "name"]) (D0 : FunD K "hungers" "Web.hungers" (defArgs s_m_Web_hungers) (defBody s_m_Web_hungers) (defScope s_m_Web_hungers) [] [] f fd) : FnG P w K mg base 4 f fd ["self", "name"] (spG K T g_m_Web_hungers 2) := by
  refine fnG_def' (h := h_m_Web_hungers) D0 sc_m_Web_hungers rfl rfl rfl (fun {cdv A outer s H E} hA hr tk po => ?_)
  exact (js_one (js_ret (je_ix hr (je_of_jr (jr_met X0.C_Web c_m_Web_hearth_of hA (hr.mono (by decide)) tk (by rw [X0.fl_Web]; decide) (je_v 0) (ja_cons (je_v 1) ja_nil))) je_cint)))
theorem sc_m_Web_feeders : FnScope ["self", "name"] ["self", "name"] (defScope s_m_Web_feeders) := ⟨rfl, rfl, rfl, by decide +kernel, rfl, by decide +kernel, by decide +kernel⟩
theorem ok_m_Web_feeders (X0 : Tx K T mg) (c_m_Web_hearth_of : CalM P w K mg base T 3 0 "hearth_of" g_m_Web_hearth_of ["self", "name"]) (D0 : FunD K "feeders" "Web.feeders" (defArgs s_m_Web_feeders) (defBody s_m_Web_feeders) (defScope s_m_Web_feeders) [] [] f fd) : FnG P w K mg base 4 f fd ["self", "name"] (spG K T g_m_Web_feeders 2) := by
  refine fnG_def' (h := h_m_Web_feeders) D0 sc_m_Web_feeders rfl rfl rfl (fun {cdv A outer s H E} hA hr tk po => ?_)
  exact (js_one (js_ret (je_ix hr (je_of_jr (jr_met X0.C_Web c_m_Web_hearth_of hA (hr.mono (by decide)) tk (by rw [X0.fl_Web]; decide) (je_v 0) (ja_cons (je_v 1) ja_nil))) je_cint)))
theorem sc_m_Web_built : FnScope ["self", "hearth"] ["self", "hearth"] (defScope s_m_Web_built) := ⟨rfl, rfl, rfl, by decide +kernel, rfl, by decide +kernel, by decide +kernel⟩
theorem ok_m_Web_built (X0 : Tx K T mg) (c_m_Web_init : CalCN P w K mg base T 5 "Web" 0 g_m_Web_init ["self", "stores", "hearths"]) (D0 : FunD K "built" "Web.built" (defArgs s_m_Web_built) (defBody s_m_Web_built) (defScope s_m_Web_built) [] [] f fd) : FnN P w K mg base 7 f fd ["self", "hearth"] (spG K T g_m_Web_built 2) := by
  refine fnN_def (h := h_m_Web_built) D0 sc_m_Web_built rfl rfl rfl (fun {cdv A outer s H E} hA hr tk po => ?_)
  exact (js_one (js_ret (je_of_jr (jr_clsN c_m_Web_init hA (hr.mono (by decide)) tk (ja_cons (je_fld X0.C_Web (by rw [X0.fl_Web]; rfl) (je_v 0)) (ja_cons (je_addU (je_fld X0.C_Web (by rw [X0.fl_Web]; rfl) (je_v 0)) (je_tup (ja_cons (je_v 1) ja_nil))) ja_nil))))))
theorem sc_m_Web_len : FnScope ["self"] ["self"] (defScope s_m_Web_len) := ⟨rfl, rfl, rfl, by decide +kernel, rfl, by decide +kernel, by decide +kernel⟩
theorem ok_m_Web_len (X0 : Tx K T mg) (D0 : FunD K "__len__" "Web.__len__" (defArgs s_m_Web_len) (defBody s_m_Web_len) (defScope s_m_Web_len) [] [] f fd) : FnG P w K mg base 1 f fd ["self"] (spG K T g_m_Web_len 1) := by
  refine fnG_def' (h := h_m_Web_len) D0 sc_m_Web_len rfl rfl rfl (fun {cdv A outer s H E} hA hr tk po => ?_)
  exact (js_one (js_ret (je_len X0.b_len (jb_of (je_fld X0.C_Web (by rw [X0.fl_Web]; rfl) (je_v 0))))))
theorem sc_p_is_number : FnScope ["word", "sign"] ["word"] (defScope s_p_is_number) := ⟨rfl, rfl, rfl, by decide +kernel, rfl, by decide +kernel, by decide +kernel⟩
theorem ok_p_is_number (X0 : Tx K T mg) (D0 : FunD K "is_number" "is_number" (defArgs s_p_is_number) (defBody s_p_is_number) (defScope s_p_is_number) [] [] f fd) : FnG P w K mg base 1 f fd ["word"] (spG K T g_p_is_number 1) := by
  refine fnG_def' (h := h_p_is_number) D0 sc_p_is_number rfl rfl rfl (fun {cdv A outer s H E} hA hr tk po => ?_)
  exact (js_cons (js_if (jt_of_jw (jw_or (jt_not (jt_chain cmp_le cmp_le je_cint (je_len X0.b_len (jb_of (je_v 0))) (je_gint X0.c_MOST_FIGURES))) (jw_or1 (jt_not (jt_truth (je_all rfl X0.b_all (jb_of (je_lc rfl sc_p_is_number.nd (ji_seq (je_v 0)) (blkOk_by (own := [("sign", 1)]) (by rfl)) rfl (fun _ _ _ _ _ => (jg_v 1 sc_p_is_number.nd)) (fun _ _ _ _ _ => jts_nil) (fun _ _ _ _ _ => (je_chain cmp_le cmp_le je_cstr (je_v 1) je_cstr)) (by decide))))))))) (js_one (js_ret je_cbl)) js_nil)
    (js_one (js_ret (je_or (je_cmp (cmp_eq hr) (je_v 0) je_cstr) (je_one (je_cmp (cmp_ne hr) (je_ix hr (je_v 0) je_cint) je_cstr))))))
theorem sc_p_numbers_ahead : FnScope ["words", "found", "word"] ["words"] (defScope s_p_numbers_ahead) := ⟨rfl, rfl, rfl, by decide +kernel, rfl, by decide +kernel, by decide +kernel⟩
theorem ok_p_numbers_ahead (X0 : Tx K T mg) (c_p_is_number : Cal P w K mg base T 1 "is_number" g_p_is_number ["word"]) (D0 : FunD K "numbers_ahead" "numbers_ahead" (defArgs s_p_numbers_ahead) (defBody s_p_numbers_ahead) (defScope s_p_numbers_ahead) [] [] f fd) : FnG P w K mg base 2 f fd ["words"] (spG K T g_p_numbers_ahead 1) := by
  refine fnG_def' (h := h_p_numbers_ahead) D0 sc_p_numbers_ahead rfl rfl rfl (fun {cdv A outer s H E} hA hr tk po => ?_)
  exact (js_cons (js_setF (i := 1) sc_p_numbers_ahead.nd rfl (by first | exact Or.inl rfl | exact Or.inr rfl) (jf_lst ja_nil))
    (js_cons (js_for po rfl (ji_seq (je_v 0)) (jg_v 2 sc_p_numbers_ahead.nd) (js_cons (js_if (jt_not (jt_truth (je_of_jr (jr_def c_p_is_number hA (hr.mono (by decide)) tk (jc_v (je_v 2) jc_nil))))) (js_one js_break) js_nil)
    (js_one (js_append (pv 1) (je_intS X0.b_int (jb_of (je_v 2)))))))
    (js_one (js_ret (je_tupleE rfl X0.b_tuple (jb_v 1))))))
theorem sc_p_are_feeders_told : FnScope ["words", "word"] ["words"] (defScope s_p_are_feeders_told) := ⟨rfl, rfl, rfl, by decide +kernel, rfl, by decide +kernel, by decide +kernel⟩
theorem ok_p_are_feeders_told (X0 : Tx K T mg) (c_p_is_name : Cal P w K mg base T 1 "is_name" g_p_is_name ["thing"]) (D0 : FunD K "are_feeders_told" "are_feeders_told" (defArgs s_p_are_feeders_told) (defBody s_p_are_feeders_told) (defScope s_p_are_feeders_told) [] [] f fd) : FnG P w K mg base 2 f fd ["words"] (spG K T g_p_are_feeders_told 1) := by
  refine fnG_def' (h := h_p_are_feeders_told) D0 sc_p_are_feeders_told rfl rfl rfl (fun {cdv A outer s H E} hA hr tk po => ?_)
  exact (js_cons (js_if (jt_not (jt_truth (je_v 0))) (js_one (js_ret je_cbl)) js_nil)
    (js_one (js_ret (je_and (je_cmp (cmp_eq hr) (je_ix hr (je_v 0) je_cint) je_cstr) (je_and (je_cmp cmp_gt (je_len X0.b_len (jb_of (je_v 0))) je_cint) (je_one (je_all rfl X0.b_all (jb_of (je_lc rfl sc_p_are_feeders_told.nd (ji_seq (je_slice (je_v 0) (jp_some je_cint) jp_none)) (blkOk_by (own := [("word", 1)]) (by rfl)) rfl (fun _ _ _ _ _ => (jg_v 1 sc_p_are_feeders_told.nd)) (fun _ _ _ _ _ => jts_nil) (fun _ _ _ _ _ => (je_of_jr (jr_def c_p_is_name hA (hr.mono (by decide)) takes0 (jc_v (je_v 1) jc_nil)))) (by decide))))))))))
theorem sc_p_hearth_told : FnScope ["words", "hungers", "behind"] ["words"] (defScope s_p_hearth_told) := ⟨rfl, rfl, rfl, by decide +kernel, rfl, by decide +kernel, by decide +kernel⟩
theorem ok_p_hearth_told (X0 : Tx K T mg) (c_p_is_name : Cal P w K mg base T 1 "is_name" g_p_is_name ["thing"]) (c_p_numbers_ahead : Cal P w K mg base T 2 "numbers_ahead" g_p_numbers_ahead ["words"]) (c_p_are_feeders_told : Cal P w K mg base T 2 "are_feeders_told" g_p_are_feeders_told ["words"]) (D0 : FunD K "hearth_told" "hearth_told" (defArgs s_p_hearth_told) (defBody s_p_hearth_told) (defScope s_p_hearth_told) [] [] f fd) : FnG P w K mg base 3 f fd ["words"] (spG K T g_p_hearth_told 1) := by
  refine fnG_def' (h := h_p_hearth_told) D0 sc_p_hearth_told rfl rfl rfl (fun {cdv A outer s H E} hA hr tk po => ?_)
  exact (js_cons (js_if (jt_of_jw (jw_or (jt_cmp cmp_lt (je_len X0.b_len (jb_of (je_v 0))) je_cint) (jw_or (jt_cmp (cmp_ne hr) (je_ix hr (je_v 0) je_cint) je_cstr) (jw_or1 (jt_not (jt_truth (je_of_jr (jr_def c_p_is_name hA (hr.mono (by decide)) tk (jc_v (je_ix hr (je_v 0) je_cint) jc_nil))))))))) (js_one (js_ret je_cnon)) js_nil)
    (js_cons (js_set (i := 1) sc_p_hearth_told.nd rfl (by first | exact Or.inl rfl | exact Or.inr rfl) (je_of_jr (jr_def c_p_numbers_ahead hA (hr.mono (by decide)) tk (jc_v (je_slice (je_v 0) (jp_some je_cint) jp_none) jc_nil))))
    (js_cons (js_set (i := 2) sc_p_hearth_told.nd rfl (by first | exact Or.inl rfl | exact Or.inr rfl) (je_slice (je_v 0) (jp_some (je_add je_cint (je_len X0.b_len (jb_of (je_v 1))))) jp_none))
    (js_cons (js_if (jt_of_jw (jw_or (jt_not (jt_truth (je_v 1))) (jw_or1 (jt_not (jt_truth (je_of_jr (jr_def c_p_are_feeders_told hA (hr.mono (by decide)) tk (jc_v (je_v 2) jc_nil)))))))) (js_one (js_ret je_cnon)) js_nil)
    (js_one (js_ret (je_tup (ja_cons (je_ix hr (je_v 0) je_cint) (ja_cons (je_v 1) (ja_cons (je_tupleE rfl X0.b_tuple (jb_of (je_slice (je_v 2) (jp_some je_cint) jp_none))) ja_nil))))))))))
theorem sc_p_web_begun : FnScope ["row", "words"] ["row"] (defScope s_p_web_begun) := ⟨rfl, rfl, rfl, by decide +kernel, rfl, by decide +kernel, by decide +kernel⟩
theorem ok_p_web_begun (X0 : Tx K T mg) (c_p_is_number : Cal P w K mg base T 1 "is_number" g_p_is_number ["word"]) (x_NoText : CalXF P w K mg base T 1 "NoText" 3 "row") (n1_m_Web_init : CalCDN P w K mg base T 5 "Web" 0 g_m_Web_init ["self", "stores", "hearths"] [.fru []]) (y_NoText : CalXH P w K mg base T 1 "NoText" 3 "row") (D0 : FunD K "web_begun" "web_begun" (defArgs s_p_web_begun) (defBody s_p_web_begun) (defScope s_p_web_begun) [] [] f fd) : FnG P w K mg base 7 f fd ["row"] (spG K T g_p_web_begun 1) := by
  refine fnG_def' (h := h_p_web_begun) D0 sc_p_web_begun rfl rfl rfl (fun {cdv A outer s H E} hA hr tk po => ?_)
  exact (js_cons (js_set (i := 1) sc_p_web_begun.nd rfl (by first | exact Or.inl rfl | exact Or.inr rfl) (je_split (je_v 0) je_cstr))
    (js_cons (js_if (jt_of_jw (jw_or (jt_cmp (cmp_ne hr) (je_len X0.b_len (jb_of (je_v 1))) je_cint) (jw_or (jt_cmp (cmp_ne hr) (je_ix hr (je_v 1) je_cint) je_cstr) (jw_or1 (jt_not (jt_truth (je_of_jr (jr_def c_p_is_number hA (hr.mono (by decide)) tk (jc_v (je_ix hr (je_v 1) je_cint) jc_nil))))))))) (js_one (js_raiseF x_NoText rfl (hr.mono (by decide)) tk je_cint)) js_nil)
    (js_one (js_tryR (hit := [1]) rfl rfl ⟨rfl, by decide, .inl X0.g_NoStores⟩ X0.hitR_NoStores (L2H.passesAt_of rfl) tk y_NoText (hr.mono (by decide)) (fun W pn xe tk po => (js_one (js_ret (je_of_jr (jr_clsDN n1_m_Web_init hA (hr.mono (by decide)) tk (ja_cons (je_intS X0.b_int (jb_of (je_ix hr (je_v 1) je_cint))) ja_nil)))))) (fun _ _ => je_cint)))))
theorem sc_p_web_with_row : FnScope ["web", "row", "number", "hearth"] ["web", "row", "number"] (defScope s_p_web_with_row) := ⟨rfl, rfl, rfl, by decide +kernel, rfl, by decide +kernel, by decide +kernel⟩
theorem ok_p_web_with_row (X0 : Tx K T mg) (c_p_hearth_told : Cal P w K mg base T 3 "hearth_told" g_p_hearth_told ["words"]) (c_m_Web_built : CalMN P w K mg base T 7 0 "built" g_m_Web_built ["self", "hearth"]) (x_NoText : CalXF P w K mg base T 1 "NoText" 3 "row") (y_NoText : CalXH P w K mg base T 1 "NoText" 3 "row") (D0 : FunD K "web_with_row" "web_with_row" (defArgs s_p_web_with_row) (defBody s_p_web_with_row) (defScope s_p_web_with_row) [] [] f fd) : FnG P w K mg base 8 f fd ["web", "row", "number"] (spG K T g_p_web_with_row 3) := by
  refine fnG_def' (h := h_p_web_with_row) D0 sc_p_web_with_row rfl rfl rfl (fun {cdv A outer s H E} hA hr tk po => ?_)
  exact (js_cons (js_set (i := 3) sc_p_web_with_row.nd rfl (by first | exact Or.inl rfl | exact Or.inr rfl) (je_of_jr (jr_def c_p_hearth_told hA (hr.mono (by decide)) tk (jc_v (je_split (je_v 1) je_cstr) jc_nil))))
    (js_cons (js_if (jt_cmp cmp_is (je_v 3) je_cnon) (js_one (js_raiseF x_NoText rfl (hr.mono (by decide)) tk (je_v 2))) js_nil)
    (js_one (js_tryR (hit := [2]) rfl rfl ⟨rfl, by decide, .inl X0.g_NoWeb⟩ X0.hitR_NoWeb (L2H.passesAt_of rfl) tk y_NoText (hr.mono (by decide)) (fun W pn xe tk po => (js_one (js_ret (je_of_jr (jr_metN X0.C_Web c_m_Web_built hA (hr.mono (by decide)) tk (by rw [X0.fl_Web]; decide) (je_v 0) (ja_cons (je_v 3) ja_nil)))))) (fun _ _ => (je_v 2))))))
theorem sc_p_read_web : FnScope ["text", "rows", "web", "number", "row"] ["text"] (defScope s_p_read_web) := ⟨rfl, rfl, rfl, by decide +kernel, rfl, by decide +kernel, by decide +kernel⟩
theorem ok_p_read_web (X0 : Tx K T mg) (c_p_web_begun : Cal P w K mg base T 7 "web_begun" g_p_web_begun ["row"]) (c_p_web_with_row : Cal P w K mg base T 8 "web_with_row" g_p_web_with_row ["web", "row", "number"]) (x_NoText : CalXF P w K mg base T 1 "NoText" 3 "row") (D0 : FunD K "read_web" "read_web" (defArgs s_p_read_web) (defBody s_p_read_web) (defScope s_p_read_web) [] [] f fd) : FnG P w K mg base 9 f fd ["text"] (spG K T g_p_read_web 1) := by
  refine fnG_def' (h := h_p_read_web) D0 sc_p_read_web rfl rfl rfl (fun {cdv A outer s H E} hA hr tk po => ?_)
  exact (js_cons (js_if (jt_not (jt_truth (je_isi isi_ty X0.b_isinstance (jb_of (je_v 0)) (pe_bltn (v := .ty "str") rfl X0.b_str (by decide +kernel) rfl)))) (js_one (js_raiseF x_NoText rfl (hr.mono (by decide)) tk je_cint)) js_nil)
    (js_cons (js_set (i := 1) sc_p_read_web.nd rfl (by first | exact Or.inl rfl | exact Or.inr rfl) (je_split (je_v 0) je_cstr))
    (js_cons (js_set (i := 2) sc_p_read_web.nd rfl (by first | exact Or.inl rfl | exact Or.inr rfl) (je_of_jr (jr_def c_p_web_begun hA (hr.mono (by decide)) tk (jc_v (je_ix hr (je_v 1) je_cint) jc_nil))))
    (js_cons (js_for po rfl (ji_enumS (k := 1) (by decide) rfl X0.b_enumerate (je_slice (je_v 1) (jp_some je_cint) jp_none)) (jg_tup rfl (jgs_cons (jg_v 3 sc_p_read_web.nd) (jgs_cons (jg_v 4 sc_p_read_web.nd) jgs_nil))) (js_one (js_set (i := 2) sc_p_read_web.nd rfl (by first | exact Or.inl rfl | exact Or.inr rfl) (je_of_jr (jr_def c_p_web_with_row hA (hr.mono (by decide)) tk (jc_v (je_v 2) (jc_v (je_v 4) (jc_v (je_v 3) jc_nil))))))))
    (js_one (js_ret (je_v 2)))))))
theorem sc_l_cell : FnScope ["_law_script", "_law_k", "_law_state", "_law_cell_here"] ["_law_script", "_law_k"] (defScope s_l_cell) := ⟨rfl, rfl, rfl, by decide +kernel, rfl, by decide +kernel, by decide +kernel⟩
theorem ok_l_cell (X0 : Tx K T mg) (D0 : FunD K "_law_cell" "_law_cell" (defArgs s_l_cell) (defBody s_l_cell) (defScope s_l_cell) [] [] f fd) : FnG P w K mg base 1 f fd ["_law_script", "_law_k"] (spG K T g_l_cell 2) := by
  refine fnG_def' (h := h_l_cell) D0 sc_l_cell rfl rfl rfl (fun {cdv A outer s H E} hA hr tk po => ?_)
  exact (js_cons (js_if (jt_cmp cmp_lt (je_v 1) (je_len X0.b_len (jb_of (je_v 0)))) (js_one (js_ret (je_ix hr (je_v 0) (je_v 1)))) js_nil)
    (js_cons (js_set (i := 2) sc_l_cell.nd rfl (by first | exact Or.inl rfl | exact Or.inr rfl) (je_mod (je_mulE je_cint (je_add (je_add (je_mulE (je_v 1) (je_v 1)) (je_mulE je_cint (je_v 1))) je_cint)) je_cint))
    (js_cons (js_for po rfl (ji_seq (je_slice (je_v 0) jp_none (jp_some je_cint))) (jg_v 3 sc_l_cell.nd) (js_one (js_set (i := 2) sc_l_cell.nd rfl (by first | exact Or.inl rfl | exact Or.inr rfl) (je_mod (je_add (je_mulE (je_v 2) je_cint) (je_v 3)) je_cint))))
    (js_one (js_ret (je_v 2))))))
theorem sc_l_hand : FnScope ["_law_cell_here", "_law_digits"] ["_law_cell_here"] (defScope s_l_hand) := ⟨rfl, rfl, rfl, by decide +kernel, rfl, by decide +kernel, by decide +kernel⟩
theorem ok_l_hand (X0 : Tx K T mg) (D0 : FunD K "_law_hand" "_law_hand" (defArgs s_l_hand) (defBody s_l_hand) (defScope s_l_hand) [] [] f fd) : FnG P w K mg base 1 f fd ["_law_cell_here"] (spG K T g_l_hand 1) := by
  refine fnG_def' (h := h_l_hand) D0 sc_l_hand rfl rfl rfl (fun {cdv A outer s H E} hA hr tk po => ?_)
  exact (js_cons (js_set (i := 1) sc_l_hand.nd rfl (by first | exact Or.inl rfl | exact Or.inr rfl) (je_if (jt_of_jw (jw_or (jt_cmp cmp_lt (je_v 0) je_cint) (jw_or1 (jt_cmp cmp_ge (je_v 0) (je_pow je_cint je_cint))))) (je_abs X0.b_abs (jb_of (je_v 0))) je_cint))
    (js_one (js_retF (jf_lst (ja_cons (je_v 1) (ja_cons (je_add (je_mulE (je_mod (je_v 0) je_cint) je_cint) je_cint) (ja_cons je_cint ja_nil)))))))
theorem sc_l_draw : FnScope ["_law_hand_here", "_law_many", "_law_digit", "_law_state"] ["_law_hand_here", "_law_many"] (defScope s_l_draw) := ⟨rfl, rfl, rfl, by decide +kernel, rfl, by decide +kernel, by decide +kernel⟩
theorem ok_l_draw (X0 : Tx K T mg) (D0 : FunD K "_law_draw" "_law_draw" (defArgs s_l_draw) (defBody s_l_draw) (defScope s_l_draw) [] [] f fd) : FnG P w K mg base 1 f fd ["_law_hand_here", "_law_many"] (spG K T g_l_draw 2) := by
  refine fnG_def' (h := h_l_draw) D0 sc_l_draw rfl rfl rfl (fun {cdv A outer s H E} hA hr tk po => ?_)
  exact (js_cons (js_asg (je_add (je_ixO hr (pv 0) je_cint) je_cint) (jg_item (W := W0) (pv 0) je_cint))
    (js_cons (js_if (jt_cmp cmp_gt (je_ixO hr (pv 0) je_cint) je_cint) (js_cons (js_asg (je_divmod X0.b_divmod (ja_cons (je_ixO hr (pv 0) je_cint) (ja_cons (je_v 1) ja_nil))) (jg_tup rfl (jgs_cons (jg_item (W := W0) (pv 0) je_cint) (jgs_cons (jg_v 2 sc_l_draw.nd) jgs_nil))))
    (js_one (js_ret (je_v 2)))) js_nil)
    (js_cons (js_set (i := 3) sc_l_draw.nd rfl (by first | exact Or.inl rfl | exact Or.inr rfl) (je_mod (je_ixO hr (pv 0) je_cint) je_cint))
    (js_cons (js_asg (je_add (je_mulE (je_v 3) (je_add (je_mod (je_v 3) je_cint) je_cint)) (je_mulE je_cint (je_ixO hr (pv 0) je_cint))) (jg_item (W := W0) (pv 0) je_cint))
    (js_one (js_ret (je_mod (je_fdiv (je_mod (je_ixO hr (pv 0) je_cint) je_cint) je_cint) (je_v 1))))))))
theorem sc_l_calls : FnScope ["_law_hand_here", "_law_many", "_law_own", "_law_letters", "_law_found", "_law_turn", "_law_word", "_law_some", "_law_k", "_law_letter", "_law_call"] ["_law_hand_here", "_law_many"] (defScope s_l_calls) := ⟨rfl, rfl, rfl, by decide +kernel, rfl, by decide +kernel, by decide +kernel⟩
theorem ok_l_calls (X0 : Tx K T mg) (c_l_draw : Cal P w K mg base T 1 "_law_draw" g_l_draw ["_law_hand_here", "_law_many"]) (D0 : FunD K "_law_calls" "_law_calls" (defArgs s_l_calls) (defBody s_l_calls) (defScope s_l_calls) [] [] f fd) : FnG P w K mg base 2 f fd ["_law_hand_here", "_law_many"] (spG K T g_l_calls 2) := by
  refine fnG_def' (h := h_l_calls) D0 sc_l_calls rfl rfl rfl (fun {cdv A outer s H E} hA hr tk po => ?_)
  exact (js_cons (js_set (i := 2) sc_l_calls.nd rfl (by first | exact Or.inl rfl | exact Or.inr rfl) (je_lst (ja_cons je_cstr (ja_cons je_cstr (ja_cons je_cstr (ja_cons je_cstr (ja_cons je_cstr (ja_cons je_cstr (ja_cons je_cstr (ja_cons je_cstr (ja_cons je_cstr (ja_cons je_cstr (ja_cons je_cstr (ja_cons je_cstr ja_nil))))))))))))))
    (js_cons (by first | exact js_parEF (i := 3) (j := 4) rfl sc_l_calls.nd rfl rfl (by decide) rfl rfl je_cstr (jf_lst ja_nil) (by first | rfl | with_unfolding_all rfl) | exact js_tupEF (i := 3) (j := 4) rfl sc_l_calls.nd rfl rfl je_cstr (jf_lst ja_nil))
    (js_cons (js_for po rfl (ji_range1 rfl X0.b_range (je_v 1)) (jg_v 5 sc_l_calls.nd) (js_cons (js_set (i := 6) sc_l_calls.nd rfl (by first | exact Or.inl rfl | exact Or.inr rfl) (je_ix hr (je_v 2) (je_of_jr (jr_def c_l_draw hA (hr.mono (by decide)) tk (jc_l (pv 0) (jc_v je_cint jc_nil))))))
    (js_cons (js_if (jt_cmp cmp_gt (je_of_jr (jr_def c_l_draw hA (hr.mono (by decide)) tk (jc_l (pv 0) (jc_v je_cint jc_nil)))) je_cint) (js_one (js_set (i := 6) sc_l_calls.nd rfl (by first | exact Or.inl rfl | exact Or.inr rfl) (je_join (je_lc rfl sc_l_calls.nd (ji_range1 rfl X0.b_range (je_add je_cint (je_of_jr (jr_def c_l_draw hA (hr.mono (by decide)) tk (jc_l (pv 0) (jc_v je_cint jc_nil)))))) (blkOk_by (own := [("_law_k", 8)]) (by rfl)) rfl (fun _ _ _ _ _ => (jg_v 8 sc_l_calls.nd)) (fun _ _ _ _ _ => jts_nil) (fun _ _ _ _ _ => (je_ix hr (je_v 3) (je_of_jr (jr_def c_l_draw hA (hr.mono (by decide)) takes0 (jc_l (pv 0) (jc_v je_cint jc_nil)))))) (by decide))))) js_nil)
    (js_cons (js_set (i := 7) sc_l_calls.nd rfl (by first | exact Or.inl rfl | exact Or.inr rfl) (je_add (je_lst (ja_cons (je_v 6) ja_nil)) (je_lc rfl sc_l_calls.nd (ji_seq (je_v 3)) (blkOk_by (own := [("_law_letter", 9)]) (by rfl)) rfl (fun _ _ _ _ _ => (jg_v 9 sc_l_calls.nd)) (fun _ _ _ _ _ => jts_nil) (fun _ _ _ _ _ => (je_add (je_slice (je_v 6) jp_none (jp_some je_cint)) (je_v 9))) (by decide))))
    (js_one (js_append (pv 4) (je_ix hr (je_lc rfl sc_l_calls.nd (ji_seq (je_v 7)) (blkOk_by (own := [("_law_call", 10)]) (by rfl)) rfl (fun _ _ _ _ _ => (jg_v 10 sc_l_calls.nd)) (fun _ _ _ _ _ => (jts_one (jt_ninO hr (je_v 10) (jb_v 4)))) (fun _ _ _ _ _ => (je_v 10)) (by decide)) je_cint)))))))
    (js_one (js_retO (pv 4))))))
theorem sc_l_refused : FnScope ["_law_line", "_law_found", "_law_way", "_law_caught", "e", "_law_good"] ["_law_line"] (defScope s_l_refused) := ⟨rfl, rfl, rfl, by decide +kernel, rfl, by decide +kernel, by decide +kernel⟩
theorem ok_l_refused (X0 : Tx K T mg) (c_p_read_web : Cal P w K mg base T 9 "read_web" g_p_read_web ["text"]) (k_p_read_web_0 : CalK P w K mg base T 9 "read_web" g_p_read_web ["text"] ["text"] [0]) (D0 : FunD K "_law_refused" "_law_refused" (defArgs s_l_refused) (defBody s_l_refused) (defScope s_l_refused) [] [] f fd) : FnG P w K mg base 10 f fd ["_law_line"] (spG K T g_l_refused 1) := by
  refine fnG_def' (h := h_l_refused) D0 sc_l_refused rfl rfl rfl (fun {cdv A outer s H E} hA hr tk po => ?_)
  exact (js_cons (js_setF (i := 1) sc_l_refused.nd rfl (by first | exact Or.inl rfl | exact Or.inr rfl) (jf_lst ja_nil))
    (js_cons (js_for po rfl (ji_range1 rfl X0.b_range je_cint) (jg_v 2 sc_l_refused.nd) (js_cons (js_set (i := 3) sc_l_refused.nd rfl (by first | exact Or.inl rfl | exact Or.inr rfl) je_cnon)
    (js_cons (js_rows (i := 4) (hit := [1, 2, 3, 5]) rfl rfl rfl sc_l_refused.nd rfl rfl (fun c hc => tests_two ⟨rfl, by decide, .inl X0.g_HearthError⟩ ⟨rfl, by decide, .inl X0.g_StateError⟩ (X0.hit2_HearthError_StateError c hc)) (fun W pn xe tk po => (js_one (js_if (jt_cmp (cmp_eq hr) (je_v 2) je_cint) (js_one (js_expr (je_of_jr (jr_def c_p_read_web hA (hr.mono (by decide)) tk (jc_v (je_v 0) jc_nil))))) (js_one (js_expr (je_of_jr (jr_defK k_p_read_web_0 hA (hr.mono (by decide)) tk (jk_cons (je_v 0) jk_nil)))))))) (fun _ _ => (js_one (js_set (i := 3) sc_l_refused.nd rfl (by first | exact Or.inl rfl | exact Or.inr rfl) (je_v 4)))))
    (js_cons (js_set (i := 5) sc_l_refused.nd rfl (by first | exact Or.inl rfl | exact Or.inr rfl) (je_and (je_isa X0.xk X0.isa_NoText X0.b_isinstance (jb_of (je_v 3)) (pe_glob rfl X0.g_NoText rfl)) (je_and (je_isa X0.xk X0.isa_HearthError X0.b_isinstance (jb_of (je_v 3)) (pe_glob rfl X0.g_HearthError rfl)) (je_one (je_isa X0.xk X0.isa_ValueError X0.b_isinstance (jb_of (je_v 3)) (pe_bltn (v := .ty "ValueError") rfl X0.b_ValueError (by decide +kernel) rfl))))))
    (js_cons (js_if (jt_of_jw (jw_or (jt_not (jt_truth (je_v 5))) (jw_or1 (jt_truth (je_isaT X0.xk X0.isaT_StateError_NoWeb (by simp) X0.b_isinstance (je_v 3) (pa_names (pa_names pa_nil (pe_glob rfl X0.g_NoWeb rfl) rfl) (pe_glob rfl X0.g_StateError rfl) rfl)))))) (js_one (js_ret (je_sub je_cint je_cint))) js_nil)
    (js_one (js_append (pv 1) (je_xfd X0.xk_row X0.xf_row (je_v 3)))))))))
    (js_cons (js_if (jt_of_jw (jw_or (jt_truth (je_isi isi_ty X0.b_isinstance (jb_of (je_ixO hr (pv 1) je_cint)) (pe_bltn (v := .ty "bool") rfl X0.b_bool (by decide +kernel) rfl))) (jw_or1 (jt_cmp (cmp_ne hr) (je_ixO hr (pv 1) je_cint) (je_ixO hr (pv 1) je_cint))))) (js_one (js_ret (je_sub je_cint je_cint))) js_nil)
    (js_one (js_ret (je_ixO hr (pv 1) je_cint))))))
theorem sc_l_heads : FnScope ["_law_some"] [] (defScope s_l_heads) := ⟨rfl, rfl, rfl, by decide +kernel, rfl, by decide +kernel, by decide +kernel⟩
theorem ok_l_heads (X0 : Tx K T mg) (D0 : FunD K "_law_heads" "_law_heads" (defArgs s_l_heads) (defBody s_l_heads) (defScope s_l_heads) [] [] f fd) : FnG P w K mg base 1 f fd [] (spG K T g_l_heads 0) := by
  refine fnG_def' (h := h_l_heads) D0 sc_l_heads rfl rfl rfl (fun {cdv A outer s H E} hA hr tk po => ?_)
  exact (js_cons (js_set (i := 0) sc_l_heads.nd rfl (by first | exact Or.inl rfl | exact Or.inr rfl) (je_lst (ja_cons je_cstr (ja_cons je_cstr (ja_cons je_cstr (ja_cons je_cstr (ja_cons je_cstr (ja_cons je_cstr (ja_cons je_cstr (ja_cons je_cstr (ja_cons je_cstr ja_nil)))))))))))
    (js_one (js_ret (je_add (je_v 0) (je_lst (ja_cons je_cstr (ja_cons je_cstr (ja_cons je_cstr (ja_cons je_cstr (ja_cons je_cstr (ja_cons je_cstr (ja_cons je_cstr (ja_cons je_cstr ja_nil)))))))))))))
theorem sc_l_small_right : FnScope ["_law_a", "_law_b", "_law_c", "_law_ahead", "_law_rows", "_law_behind", "_law_more", "_law_told", "_law_row"] ["_law_a", "_law_b", "_law_c"] (defScope s_l_small_right) := ⟨rfl, rfl, rfl, by decide +kernel, rfl, by decide +kernel, by decide +kernel⟩
theorem ok_l_small_right (X0 : Tx K T mg) (c_l_refused : Cal P w K mg base T 10 "_law_refused" g_l_refused ["_law_line"]) (c_p_read_web : Cal P w K mg base T 9 "read_web" g_p_read_web ["text"]) (D0 : FunD K "_law_small_right" "_law_small_right" (defArgs s_l_small_right) (defBody s_l_small_right) (defScope s_l_small_right) [] [] f fd) : FnG P w K mg base 11 f fd ["_law_a", "_law_b", "_law_c"] (spG K T g_l_small_right 3) := by
  refine fnG_def' (h := h_l_small_right) D0 sc_l_small_right rfl rfl rfl (fun {cdv A outer s H E} hA hr tk po => ?_)
  exact (js_cons (js_set (i := 3) sc_l_small_right.nd rfl (by first | exact Or.inl rfl | exact Or.inr rfl) (je_add (je_add je_cstr (je_v 0)) je_cstr))
    (js_cons (js_setF (i := 4) sc_l_small_right.nd rfl (by first | exact Or.inl rfl | exact Or.inr rfl) (jf_lst (ja_cons (je_add je_cstr (je_v 1)) (ja_cons (je_add (je_add je_cstr (je_v 1)) je_cstr) (ja_cons (je_add (je_add je_cstr (je_v 1)) je_cstr) (ja_cons (je_add (je_add je_cstr (je_v 1)) je_cstr) (ja_cons (je_add (je_add je_cstr (je_v 1)) je_cstr) ja_nil)))))))
    (js_cons (js_setF (i := 4) sc_l_small_right.nd rfl (by first | exact Or.inl rfl | exact Or.inr rfl) (jf_addL (pv 4) (je_lst (ja_cons (je_add (je_add je_cstr (je_v 1)) je_cstr) (ja_cons (je_add (je_add je_cstr (je_v 1)) je_cstr) (ja_cons (je_add (je_add je_cstr (je_v 1)) je_cstr) (ja_cons (je_add (je_add (je_add je_cstr (je_v 1)) je_cstr) (je_v 0)) ja_nil)))))))
    (js_cons (js_setF (i := 4) sc_l_small_right.nd rfl (by first | exact Or.inl rfl | exact Or.inr rfl) (jf_addL (pv 4) (je_lst (ja_cons (je_add (je_add je_cstr (je_v 1)) je_cstr) (ja_cons (je_add (je_add je_cstr (je_v 1)) je_cstr) (ja_cons (je_add (je_add (je_add je_cstr (je_v 1)) je_cstr) (je_v 1)) ja_nil))))))
    (js_cons (js_setF (i := 4) sc_l_small_right.nd rfl (by first | exact Or.inl rfl | exact Or.inr rfl) (jf_addL (pv 4) (je_lst (ja_cons (je_add (je_add (je_add je_cstr (je_v 1)) je_cstr) (je_v 2)) (ja_cons (je_add (je_add (je_add (je_add (je_add je_cstr (je_v 1)) je_cstr) (je_v 0)) je_cstr) (je_v 0)) (ja_cons (je_add (je_add je_cstr (je_v 0)) je_cstr) ja_nil))))))
    (js_cons (js_setF (i := 4) sc_l_small_right.nd rfl (by first | exact Or.inl rfl | exact Or.inr rfl) (jf_addL (pv 4) (je_lst (ja_cons (je_add (je_add (je_add je_cstr (je_v 1)) je_cstr) (je_v 0)) (ja_cons (je_add (je_add je_cstr (je_v 1)) je_cstr) (ja_cons (je_add (je_add je_cstr (je_v 1)) je_cstr) (ja_cons (je_add (je_add je_cstr (je_v 1)) je_cstr) ja_nil)))))))
    (js_cons (js_setF (i := 4) sc_l_small_right.nd rfl (by first | exact Or.inl rfl | exact Or.inr rfl) (jf_addL (pv 4) (je_lst (ja_cons je_cstr (ja_cons je_cstr (ja_cons je_cstr (ja_cons (je_add (je_add je_cstr (je_v 1)) je_cstr) (ja_cons (je_add (je_add (je_add je_cstr (je_v 1)) je_cstr) (je_v 0)) ja_nil))))))))
    (js_cons (js_append (pv 4) (je_add (je_add (je_add je_cstr (je_v 1)) je_cstr) (je_v 0)))
    (js_cons (js_setF (i := 4) sc_l_small_right.nd rfl (by first | exact Or.inl rfl | exact Or.inr rfl) (jf_addL (pv 4) (je_lst (ja_cons (je_add (je_add je_cstr (je_v 0)) je_cstr) (ja_cons je_cstr (ja_cons (je_add (je_add je_cstr (je_v 1)) je_cstr) (ja_cons je_cstr (ja_cons je_cstr ja_nil))))))))
    (js_cons (js_if (jt_not (jt_truth (je_all rfl X0.b_all (jb_of (je_lcO (i := 4) rfl sc_l_small_right.nd (pv 4) (blkOk_by (own := [("_law_row", 8)]) (by rfl)) rfl (fun _ _ _ _ _ => (jg_v 8 sc_l_small_right.nd)) (fun _ _ _ _ _ => jts_nil) (fun _ _ _ _ _ => (je_cmp (cmp_eq hr) (je_of_jr (jr_def c_l_refused hA (hr.mono (by decide)) takes0 (jc_v (je_add (je_v 3) (je_v 8)) jc_nil))) je_cint)) (by decide)))))) (js_one (js_ret je_cbl)) js_nil)
    (js_cons (js_for po rfl (ji_seq (je_lst (ja_cons (je_add (je_add je_cstr (je_v 2)) je_cstr) (ja_cons je_cstr (ja_cons (je_add je_cstr (je_v 2)) (ja_cons je_cstr (ja_cons (je_add (je_add je_cstr (je_v 0)) je_cstr) ja_nil))))))) (jg_v 5 sc_l_small_right.nd) (js_one (js_if (jt_not (jt_truth (je_all rfl X0.b_all (jb_of (je_lcO (i := 4) rfl sc_l_small_right.nd (pv 4) (blkOk_by (own := [("_law_row", 8)]) (by rfl)) rfl (fun _ _ _ _ _ => (jg_v 8 sc_l_small_right.nd)) (fun _ _ _ _ _ => jts_nil) (fun _ _ _ _ _ => (je_cmp (cmp_eq hr) (je_of_jr (jr_def c_l_refused hA (hr.mono (by decide)) takes0 (jc_v (je_add (je_add (je_add (je_v 3) (je_v 8)) je_cstr) (je_v 5)) jc_nil))) je_cint)) (by decide)))))) (js_one (js_ret je_cbl)) js_nil)))
    (js_cons (js_set (i := 6) sc_l_small_right.nd rfl (by first | exact Or.inl rfl | exact Or.inr rfl) (je_add (je_add (je_add je_cstr (je_v 1)) je_cstr) (je_v 0)))
    (js_cons (js_if (jt_of_jw (jw_or (jt_cmp (cmp_ne hr) (je_of_jr (jr_def c_l_refused hA (hr.mono (by decide)) tk (jc_v (je_add (je_add (je_v 3) (je_v 6)) je_cstr) jc_nil))) je_cint) (jw_or1 (jt_cmp (cmp_ne hr) (je_of_jr (jr_def c_l_refused hA (hr.mono (by decide)) tk (jc_v (je_add (je_add (je_add (je_v 3) (je_v 6)) je_cstr) (je_v 6)) jc_nil))) je_cint)))) (js_one (js_ret je_cbl)) js_nil)
    (js_cons (js_set (i := 7) sc_l_small_right.nd rfl (by first | exact Or.inl rfl | exact Or.inr rfl) (je_of_jr (jr_def c_p_read_web hA (hr.mono (by decide)) tk (jc_v (je_add (je_add (je_add (je_add (je_add (je_add (je_add (je_v 3) (je_v 6)) je_cstr) (je_v 2)) je_cstr) (je_v 1)) je_cstr) (je_v 0)) jc_nil))))
    (js_one (js_ret (je_cmp (cmp_eq hr) (je_fld X0.C_Web (by rw [X0.fl_Web]; rfl) (je_v 7)) (je_tup (ja_cons (je_tup (ja_cons (je_v 0) (ja_cons (je_tup (ja_cons je_cint ja_nil)) (ja_cons (je_tup ja_nil) ja_nil)))) (ja_cons (je_tup (ja_cons (je_v 1) (ja_cons (je_tup (ja_cons je_cint ja_nil)) (ja_cons (je_tup (ja_cons (je_v 0) ja_nil)) ja_nil)))) (ja_cons (je_tup (ja_cons (je_v 2) (ja_cons (je_tup (ja_cons je_cint ja_nil)) (ja_cons (je_tup (ja_cons (je_v 1) (ja_cons (je_v 0) ja_nil))) ja_nil)))) ja_nil)))))))))))))))))))))
theorem sc_l_stores_right : FnScope ["_law_a", "_law_b", "_law_few", "_law_head", "_law_many", "_law_line"] ["_law_a", "_law_b"] (defScope s_l_stores_right) := ⟨rfl, rfl, rfl, by decide +kernel, rfl, by decide +kernel, by decide +kernel⟩
theorem ok_l_stores_right (X0 : Tx K T mg) (c_p_read_web : Cal P w K mg base T 9 "read_web" g_p_read_web ["text"]) (c_m_Web_len : CalM P w K mg base T 1 0 "__len__" g_m_Web_len ["self"]) (c_l_refused : Cal P w K mg base T 10 "_law_refused" g_l_refused ["_law_line"]) (c_m_Web_hungers : CalM P w K mg base T 4 0 "hungers" g_m_Web_hungers ["self", "name"]) (c_m_Web_feeders : CalM P w K mg base T 4 0 "feeders" g_m_Web_feeders ["self", "name"]) (D0 : FunD K "_law_stores_right" "_law_stores_right" (defArgs s_l_stores_right) (defBody s_l_stores_right) (defScope s_l_stores_right) [] [] f fd) : FnG P w K mg base 11 f fd ["_law_a", "_law_b"] (spG K T g_l_stores_right 2) := by
  refine fnG_def' (h := h_l_stores_right) D0 sc_l_stores_right rfl rfl rfl (fun {cdv A outer s H E} hA hr tk po => ?_)
  exact (js_cons (js_for po rfl (ji_range2 rfl X0.b_range (ja_cons je_cint (ja_cons je_cint ja_nil))) (jg_v 2 sc_l_stores_right.nd) (js_cons (js_set (i := 3) sc_l_stores_right.nd rfl (by first | exact Or.inl rfl | exact Or.inr rfl) (je_add je_cstr (je_str X0.b_str (jb_of (je_v 2)))))
    (js_cons (js_if (jt_of_jw (jw_or (jt_cmp (cmp_ne hr) (je_fld X0.C_Web (by rw [X0.fl_Web]; rfl) (je_of_jr (jr_def c_p_read_web hA (hr.mono (by decide)) tk (jc_v (je_v 3) jc_nil)))) (je_v 2)) (jw_or (jt_cmp (cmp_ne hr) (je_lenI c_m_Web_len hA (hr.mono (by decide)) X0.b_len (je_of_jr (jr_def c_p_read_web hA (hr.mono (by decide)) tk (jc_v (je_v 3) jc_nil)))) je_cint) (jw_or1 (jt_cmp (cmp_ne hr) (je_of_jr (jr_def c_l_refused hA (hr.mono (by decide)) tk (jc_v (je_add (je_v 3) je_cstr) jc_nil))) je_cint))))) (js_one (js_ret je_cbl)) js_nil)
    (js_cons (js_for po rfl (ji_range2 rfl X0.b_range (ja_cons je_cint (ja_cons je_cint ja_nil))) (jg_v 4 sc_l_stores_right.nd) (js_cons (js_set (i := 5) sc_l_stores_right.nd rfl (by first | exact Or.inl rfl | exact Or.inr rfl) (je_add (je_add (je_add (je_add (je_v 3) je_cstr) (je_v 0)) (je_mulW je_cstr (je_sub (je_v 4) je_cint))) je_cstr))
    (js_cons (js_if (jt_of_jw (jw_and (jt_cmp (cmp_ne hr) (je_v 4) (je_v 2)) (jw_and1 (jt_cmp (cmp_ne hr) (je_of_jr (jr_def c_l_refused hA (hr.mono (by decide)) tk (jc_v (je_v 5) jc_nil))) je_cint)))) (js_one (js_ret je_cbl)) js_nil)
    (js_cons (js_if (jt_of_jw (jw_and (jt_cmp (cmp_eq hr) (je_v 4) (je_v 2)) (jw_and1 (jt_cmp (cmp_ne hr) (je_of_jr (jr_met X0.C_Web c_m_Web_hungers hA (hr.mono (by decide)) tk (by rw [X0.fl_Web]; decide) (je_of_jr (jr_def c_p_read_web hA (hr.mono (by decide)) tk (jc_v (je_v 5) jc_nil))) (ja_cons (je_v 0) ja_nil))) (je_add (je_mulW (je_tup (ja_cons je_cint ja_nil)) (je_sub (je_v 2) je_cint)) (je_tup (ja_cons je_cint ja_nil))))))) (js_one (js_ret je_cbl)) js_nil)
    (js_one (js_if (jt_cmp (cmp_ne hr) (je_of_jr (jr_def c_l_refused hA (hr.mono (by decide)) tk (jc_v (je_add (je_add (je_add (je_v 3) je_cstr) (je_v 0)) (je_mulW je_cstr (je_v 4))) jc_nil))) je_cint) (js_one (js_ret je_cbl)) js_nil))))))
    (js_cons (js_set (i := 5) sc_l_stores_right.nd rfl (by first | exact Or.inl rfl | exact Or.inr rfl) (je_add (je_add (je_add (je_v 3) je_cstr) (je_v 0)) (je_mulW je_cstr (je_v 2))))
    (js_give (i := 5) sc_l_stores_right.nd rfl (by first | exact Or.inl rfl | exact Or.inr rfl) (jeg_addL (jeg_addR (je_add (je_add (je_add (je_v 5) je_cstr) (je_v 1)) (je_mulW je_cstr (je_sub (je_v 2) je_cint))) jeg_str) (je_v 0)) (jst_if (jwt_or (jt_cmp (cmp_ne hr) (je_of_jr (jr_met X0.C_Web c_m_Web_feeders hA (hr.mono (by decide)) tk (by rw [X0.fl_Web]; decide) (je_of_jr (jr_def c_p_read_web hA (hr.mono (by decide)) tk (jc_v (je_v 5) jc_nil))) (ja_cons (je_v 1) ja_nil))) (je_tup (ja_cons (je_v 0) ja_nil))) (jwt_or1 (jtt_cmp (cmp_ne hr) (jet_of_jrt (jrt_def c_l_refused hA (hr.mono (by decide)) tk (jct_one (jet_repl (je_v 5))))) (je_sub je_cint (je_int X0.b_int (jb_of (je_cmp (cmp_eq hr) (je_v 2) je_cint))))))) (js_one (js_ret je_cbl)) js_nil)))))))
    (js_one (js_ret je_cbl)))
theorem sc_l_great_right : FnScope ["_law_calls_here", "_law_plain", "_law_stair", "_law_k", "_law_call", "_law_words", "_law_rows", "_law_told"] ["_law_calls_here"] (defScope s_l_great_right) := ⟨rfl, rfl, rfl, by decide +kernel, rfl, by decide +kernel, by decide +kernel⟩
theorem ok_l_great_right (X0 : Tx K T mg) (c_p_read_web : Cal P w K mg base T 9 "read_web" g_p_read_web ["text"]) (c_m_Web_len : CalM P w K mg base T 1 0 "__len__" g_m_Web_len ["self"]) (c_m_Web_names : CalM P w K mg base T 1 0 "names" g_m_Web_names ["self"]) (c_l_refused : Cal P w K mg base T 10 "_law_refused" g_l_refused ["_law_line"]) (c_m_Web_feeders : CalM P w K mg base T 4 0 "feeders" g_m_Web_feeders ["self", "name"]) (D0 : FunD K "_law_great_right" "_law_great_right" (defArgs s_l_great_right) (defBody s_l_great_right) (defScope s_l_great_right) [] [] f fd) : FnG P w K mg base 11 f fd ["_law_calls_here"] (spG K T g_l_great_right 1) := by
  refine fnG_def' (h := h_l_great_right) D0 sc_l_great_right rfl rfl rfl (fun {cdv A outer s H E} hA hr tk po => ?_)
  exact (js_cons (by first | exact js_parFF (i := 1) (j := 2) rfl sc_l_great_right.nd rfl rfl (by decide) rfl rfl (jf_lst (ja_cons je_cstr ja_nil)) (jf_lst (ja_cons je_cstr ja_nil)) (by first | rfl | with_unfolding_all rfl) | exact js_tupFF (i := 1) (j := 2) rfl sc_l_great_right.nd rfl rfl (jf_lst (ja_cons je_cstr ja_nil)) (jf_lst (ja_cons je_cstr ja_nil)))
    (js_cons (js_for po rfl (ji_enumE rfl X0.b_enumerate (je_v 0)) (jg_tup rfl (jgs_cons (jg_v 3 sc_l_great_right.nd) (jgs_cons (jg_v 4 sc_l_great_right.nd) jgs_nil))) (js_cons (js_append (pv 1) (je_add (je_add (je_add je_cstr (je_v 4)) je_cstr) (je_str X0.b_str (jb_of (je_add je_cint (je_mod (je_v 3) je_cint))))))
    (js_cons (js_set (i := 5) sc_l_great_right.nd rfl (by first | exact Or.inl rfl | exact Or.inr rfl) (je_add (je_lst (ja_cons je_cstr (ja_cons (je_v 4) (ja_cons je_cstr (ja_cons je_cstr ja_nil))))) (je_mulE (je_lst (ja_cons je_cstr ja_nil)) (je_int X0.b_int (jb_of (je_cmp cmp_gt (je_v 3) je_cint))))))
    (js_one (js_append (pv 2) (je_join (je_add (je_v 5) (je_rev (je_slice (je_v 0) jp_none (jp_some (je_v 3)))))))))))
    (js_cons (js_for po rfl (ji_seq (je_lst (ja_cons (je_go (pv 1)) (ja_cons (je_go (pv 2)) ja_nil)))) (jg_v 6 sc_l_great_right.nd) (js_cons (js_set (i := 7) sc_l_great_right.nd rfl (by first | exact Or.inl rfl | exact Or.inr rfl) (je_of_jr (jr_def c_p_read_web hA (hr.mono (by decide)) tk (jc_v (je_join (je_slice (je_v 6) jp_none (jp_some je_cint))) jc_nil))))
    (js_one (js_if (jt_of_jw (jw_or (jt_cmp (cmp_ne hr) (je_lenI c_m_Web_len hA (hr.mono (by decide)) X0.b_len (je_v 7)) je_cint) (jw_or (jt_cmp (cmp_ne hr) (je_of_jr (jr_met0 X0.C_Web c_m_Web_names hA (hr.mono (by decide)) tk (by rw [X0.fl_Web]; decide) (je_v 7))) (je_tupleE rfl X0.b_tuple (jb_of (je_slice (je_v 0) jp_none (jp_some je_cint))))) (jw_or1 (jt_cmp (cmp_ne hr) (je_of_jr (jr_def c_l_refused hA (hr.mono (by decide)) tk (jc_v (je_join (je_v 6)) jc_nil))) je_cint))))) (js_one (js_ret je_cbl)) js_nil))))
    (js_cons (js_set (i := 7) sc_l_great_right.nd rfl (by first | exact Or.inl rfl | exact Or.inr rfl) (je_of_jr (jr_def c_p_read_web hA (hr.mono (by decide)) tk (jc_v (je_join (je_slice (je_go (pv 2)) jp_none (jp_some je_cint))) jc_nil))))
    (js_one (js_ret (je_cmp (cmp_eq hr) (je_lc rfl sc_l_great_right.nd (ji_range1 rfl X0.b_range je_cint) (blkOk_by (own := [("_law_k", 3)]) (by rfl)) rfl (fun _ _ _ _ _ => (jg_v 3 sc_l_great_right.nd)) (fun _ _ _ _ _ => jts_nil) (fun _ _ _ _ _ => (je_of_jr (jr_met X0.C_Web c_m_Web_feeders hA (hr.mono (by decide)) takes0 (by rw [X0.fl_Web]; decide) (je_v 7) (ja_cons (je_ix hr (je_v 0) (je_v 3)) ja_nil)))) (by decide)) (je_lc rfl sc_l_great_right.nd (ji_range1 rfl X0.b_range je_cint) (blkOk_by (own := [("_law_k", 3)]) (by rfl)) rfl (fun _ _ _ _ _ => (jg_v 3 sc_l_great_right.nd)) (fun _ _ _ _ _ => jts_nil) (fun _ _ _ _ _ => (je_tupleE rfl X0.b_tuple (jb_of (je_rev (je_slice (je_v 0) jp_none (jp_some (je_v 3))))))) (by decide)))))))))
theorem sc_law_ : FnScope ["_law_script", "_law_k", "_law_hand_here", "_law_calls_here", "_law_told", "_law_row"] ["_law_script"] (defScope s_law_) := ⟨rfl, rfl, rfl, by decide +kernel, rfl, by decide +kernel, by decide +kernel⟩
theorem ok_law_ (X0 : Tx K T mg) (c_l_heads : Cal P w K mg base T 1 "_law_heads" g_l_heads []) (c_l_refused : Cal P w K mg base T 10 "_law_refused" g_l_refused ["_law_line"]) (c_l_cell : Cal P w K mg base T 1 "_law_cell" g_l_cell ["_law_script", "_law_k"]) (c_l_hand : Cal P w K mg base T 1 "_law_hand" g_l_hand ["_law_cell_here"]) (c_l_calls : Cal P w K mg base T 2 "_law_calls" g_l_calls ["_law_hand_here", "_law_many"]) (c_l_small_right : Cal P w K mg base T 11 "_law_small_right" g_l_small_right ["_law_a", "_law_b", "_law_c"]) (c_l_stores_right : Cal P w K mg base T 11 "_law_stores_right" g_l_stores_right ["_law_a", "_law_b"]) (c_l_great_right : Cal P w K mg base T 11 "_law_great_right" g_l_great_right ["_law_calls_here"]) (c_p_read_web : Cal P w K mg base T 9 "read_web" g_p_read_web ["text"]) (D0 : FunD K "law" "law" (defArgs s_law_) (defBody s_law_) (defScope s_law_) [] [] f fd) : FnG P w K mg base 12 f fd ["_law_script"] (spG K T g_law_ 1) := by
  refine fnG_def' (h := h_law_) D0 sc_law_ rfl rfl rfl (fun {cdv A outer s H E} hA hr tk po => ?_)
  exact (js_cons (js_if (jt_not (jt_truth (je_all rfl X0.b_all (jb_of (je_lc rfl sc_law_.nd (ji_seq (je_of_jr (jr_def0 c_l_heads hA (hr.mono (by decide)) tk))) (blkOk_by (own := [("_law_row", 5)]) (by rfl)) rfl (fun _ _ _ _ _ => (jg_v 5 sc_law_.nd)) (fun _ _ _ _ _ => jts_nil) (fun _ _ _ _ _ => (je_cmp (cmp_eq hr) (je_of_jr (jr_def c_l_refused hA (hr.mono (by decide)) takes0 (jc_v (je_v 5) jc_nil))) je_cint)) (by decide)))))) (js_one (js_ret je_cbl)) js_nil)
    (js_cons (js_if (jt_not (jt_truth (je_all rfl X0.b_all (jb_of (je_lc rfl sc_law_.nd (ji_seq (je_of_jr (jr_def0 c_l_heads hA (hr.mono (by decide)) tk))) (blkOk_by (own := [("_law_row", 5)]) (by rfl)) rfl (fun _ _ _ _ _ => (jg_v 5 sc_law_.nd)) (fun _ _ _ _ _ => jts_nil) (fun _ _ _ _ _ => (je_cmp (cmp_eq hr) (je_of_jr (jr_def c_l_refused hA (hr.mono (by decide)) takes0 (jc_v (je_add (je_v 5) je_cstr) jc_nil))) je_cint)) (by decide)))))) (js_one (js_ret je_cbl)) js_nil)
    (js_cons (js_for po rfl (ji_range1 rfl X0.b_range (je_max2 rfl X0.b_max (ja_cons je_cint (ja_cons (je_min2 rfl X0.b_min (ja_cons je_cint (ja_cons (je_len X0.b_len (jb_of (je_v 0))) ja_nil))) ja_nil)))) (jg_v 1 sc_law_.nd) (js_cons (js_setF (i := 2) sc_law_.nd rfl (by first | exact Or.inl rfl | exact Or.inr rfl) (jf_of_jr (jr_def c_l_hand hA (hr.mono (by decide)) tk (jc_v (je_of_jr (jr_def c_l_cell hA (hr.mono (by decide)) tk (jc_v (je_v 0) (jc_v (je_v 1) jc_nil)))) jc_nil))))
    (js_cons (js_set (i := 3) sc_law_.nd rfl (by first | exact Or.inl rfl | exact Or.inr rfl) (je_of_jr (jr_def c_l_calls hA (hr.mono (by decide)) tk (jc_l (pv 2) (jc_v je_cint jc_nil)))))
    (js_cons (js_if (jt_of_jw (jw_or (jt_not (jt_truth (je_of_jr (jr_def c_l_small_right hA (hr.mono (by decide)) tk (jc_v (je_ix hr (je_v 3) je_cint) (jc_v (je_ix hr (je_v 3) je_cint) (jc_v (je_ix hr (je_v 3) je_cint) jc_nil))))))) (jw_or1 (jt_not (jt_truth (je_of_jr (jr_def c_l_stores_right hA (hr.mono (by decide)) tk (jc_v (je_ix hr (je_v 3) je_cint) (jc_v (je_ix hr (je_v 3) je_cint) jc_nil))))))))) (js_one (js_ret je_cbl)) js_nil)
    (js_one (js_if (jt_not (jt_truth (je_of_jr (jr_def c_l_great_right hA (hr.mono (by decide)) tk (jc_v (je_v 3) jc_nil))))) (js_one (js_ret je_cbl)) js_nil))))))
    (js_cons (js_set (i := 4) sc_law_.nd rfl (by first | exact Or.inl rfl | exact Or.inr rfl) (je_of_jr (jr_def c_p_read_web hA (hr.mono (by decide)) tk (jc_v je_cstr jc_nil))))
    (js_one (js_ret (je_cmp (cmp_eq hr) (je_fld X0.C_Web (by rw [X0.fl_Web]; rfl) (je_v 4)) (je_tup (ja_cons (je_tup (ja_cons je_cstr (ja_cons (je_tup (ja_cons je_cint ja_nil)) (ja_cons (je_tup ja_nil) ja_nil)))) (ja_cons (je_tup (ja_cons je_cstr (ja_cons (je_tup (ja_cons je_cint ja_nil)) (ja_cons (je_tup (ja_cons je_cstr ja_nil)) ja_nil)))) (ja_cons (je_tup (ja_cons je_cstr (ja_cons (je_tup (ja_cons je_cint ja_nil)) (ja_cons (je_tup (ja_cons je_cstr (ja_cons je_cstr ja_nil))) ja_nil)))) ja_nil)))))))))))
end
end K07
set_option maxHeartbeats 0
namespace VS
open PySem L2
theorem bindsK {K : PySem.W.Frag} {x qual : Str} {params : Arguments} {body : List Stmt} {scope : Scope} {kws : List (Str × V)} {f : Addr} {fd : FuncData} {ps ks : List Str} {idx : List Nat}
    (F : FunD K x qual params body scope [] kws f fd)
    (h : ∀ (a b c : Value) (an : Option Addr) (d e : Value) (ws : List Value), ws.length = ks.length → bindArgs (PySem.W.fnOf x qual params body scope .none a b c an d e) ⟨[], ks.zip ws⟩ = pure (ps.zip (permL idx ws)))
    (s : Shared) (ws : List Value) (_ : K.In s.heap) (hl : ws.length = ks.length) : BindsTo s fd ⟨[], ks.zip ws⟩ (ps.zip (permL idx ws)) := by
  obtain ⟨_, _, _, a, b, c, an, d, e, _, q, _, _, dfl, _⟩ := F.ex
  cases dfl with
  | inl z => rw [q, z.2]; exact .of_eq (h a b c an d e ws hl)
  | inr z => exact absurd rfl z.1
end VS
namespace K07
open PySem L2 PySem.Spec PyProof.Rows VS
def TX (K : PySem.W.Frag) : Txt := { cl := fun n => if n = 0 then He.ga K "Web" else if n = 1 then He.ga K "NoStores" else if n = 2 then He.ga K "NoWeb" else if n = 3 then He.ga K "NoText" else if n = 4 then He.ga K "HearthError" else if n = 5 then He.ga K "NoName" else He.ga K "StateError", fl := fun n => if n = 0 then ["by_name", "stores", "hearths"] else if n = 1 then [] else if n = 2 then ["place"] else if n = 3 then ["row"] else if n = 4 then [] else if n = 5 then ["name"] else [] }
theorem facts {P : Program} {w : World} {K : PySem.W.Frag} {h : Heap} {mg : Str → Option Value} {f : Addr} (X : K.In h) (G : h.Ns mainGlobals mg) (hfa : mg ("law" : Str) = some (.ref f)) (c0 : SaysY fa fn exF w K) :
    ∃ fd : FuncData, (∀ (s : Shared) (v : Value), BindsTo s fd ⟨[v], []⟩ [("_law_script", v)]) ∧ ∀ base : Heap, K.In base → base.Ns mainGlobals mg → FnG P w K mg base 12 f fd ["_law_script"] (spG K (TX K) g_law_ 1) := by
  have c := c0.t.d
  have m := c0.more
  simp only [exF, Bool.and_eq_true] at m
  have C_Web : ClsF K (TX K) 0 := by
    refine ⟨He.cls_ok (c.fact 30 (f := .cls "Web") rfl), fun f hf => ?_, by show List.Nodup _; simp [TX]; decide⟩
    have hf2 : f = ("by_name" : Str) ∨ f = ("stores" : Str) ∨ f = ("hearths" : Str) := by simpa [TX] using hf
    rcases hf2 with rfl | rfl | rfl
    · exact He.noat_ok (c.fact 33 (f := .noat "Web" "by_name") rfl)
    · exact He.noat_ok (c.fact 34 (f := .noat "Web" "stores") rfl)
    · exact He.noat_ok (c.fact 35 (f := .noat "Web" "hearths") rfl)
  have h_xk : Kinds K (TX K) [1, 2, 3, 5] := by
      intro c hc
      simp only [List.mem_cons, List.not_mem_nil, or_false] at hc
      rcases hc with rfl | rfl | rfl | rfl
      · exact exkB_ok m.2.2.2.2.2.2.2.1
      · exact exkB_ok m.2.2.2.2.2.2.2.2.2.2.2.1
      · exact exkB_ok m.2.2.2.2.2.2.2.2.2.2.2.2.2.2.2.1
      · exact exkB_ok m.2.2.2.2.2.2.2.2.2.2.2.2.2.2.2.2.2.2.2.1
  have h_hitR_NoStores : ∀ c ∈ ([1] : List Nat), PySem.W.exmOne K (.ref ((TX K).cl c)) (.ref ((TX K).cl 1)) = some true := by
      intro c hc
      simp only [List.mem_cons, List.not_mem_nil, or_false] at hc
      rcases hc with rfl
      · exact of_decide_eq_true m.2.2.2.2.2.2.2.2.2.2.2.2.2.2.2.2.2.2.2.2.1
  have h_hitR_NoWeb : ∀ c ∈ ([2] : List Nat), PySem.W.exmOne K (.ref ((TX K).cl c)) (.ref ((TX K).cl 2)) = some true := by
      intro c hc
      simp only [List.mem_cons, List.not_mem_nil, or_false] at hc
      rcases hc with rfl
      · exact of_decide_eq_true m.2.2.2.2.2.2.2.2.2.2.2.2.2.2.2.2.2.2.2.2.2.1
  have h_hit2_HearthError_StateError : ∀ c ∈ ([1, 2, 3, 5] : List Nat), PySem.W.exmAny K (.ref ((TX K).cl c)) [.ref ((TX K).cl 4), .ref ((TX K).cl 6)] = some true := by
      intro c hc
      simp only [List.mem_cons, List.not_mem_nil, or_false] at hc
      rcases hc with rfl | rfl | rfl | rfl
      · exact of_decide_eq_true m.2.2.2.2.2.2.2.2.2.2.2.2.2.2.2.2.2.2.2.2.2.2.1
      · exact of_decide_eq_true m.2.2.2.2.2.2.2.2.2.2.2.2.2.2.2.2.2.2.2.2.2.2.2.1
      · exact of_decide_eq_true m.2.2.2.2.2.2.2.2.2.2.2.2.2.2.2.2.2.2.2.2.2.2.2.2.1
      · exact of_decide_eq_true m.2.2.2.2.2.2.2.2.2.2.2.2.2.2.2.2.2.2.2.2.2.2.2.2.2.1
  have h_up_HearthError : upB K ((TX K).cl 4) = true := m.2.2.2.2.2.2.2.2.2.2.2.2.2.2.2.2.2.2.2.2.2.2.2.2.2.2.1
  have h_xk_place : Kinds K (TX K) [2] := by
      intro c hc
      simp only [List.mem_cons, List.not_mem_nil, or_false] at hc
      rcases hc with rfl
      · exact exkB_ok m.2.2.2.2.2.2.2.2.2.2.2.1
  have h_xf_place : ∀ c ∈ ([2] : List Nat), ((TX K).fl c).Nodup ∧ ((TX K).fl c)[0]? = some ("place" : Str) ∧ PySem.W.findIn K (.ref ((TX K).cl c)) "place" = some none := by
      intro c hc
      simp only [List.mem_cons, List.not_mem_nil, or_false] at hc
      rcases hc with rfl
      · exact ⟨by simp [TX], rfl, of_decide_eq_true m.2.2.2.2.2.2.2.2.2.1⟩
  have h_xk_row : Kinds K (TX K) [3] := by
      intro c hc
      simp only [List.mem_cons, List.not_mem_nil, or_false] at hc
      rcases hc with rfl
      · exact exkB_ok m.2.2.2.2.2.2.2.2.2.2.2.2.2.2.2.1
  have h_xf_row : ∀ c ∈ ([3] : List Nat), ((TX K).fl c).Nodup ∧ ((TX K).fl c)[0]? = some ("row" : Str) ∧ PySem.W.findIn K (.ref ((TX K).cl c)) "row" = some none := by
      intro c hc
      simp only [List.mem_cons, List.not_mem_nil, or_false] at hc
      rcases hc with rfl
      · exact ⟨by simp [TX], rfl, of_decide_eq_true m.2.2.2.2.2.2.2.2.2.2.2.2.2.1⟩
  have h_xk_name : Kinds K (TX K) [5] := by
      intro c hc
      simp only [List.mem_cons, List.not_mem_nil, or_false] at hc
      rcases hc with rfl
      · exact exkB_ok m.2.2.2.2.2.2.2.2.2.2.2.2.2.2.2.2.2.2.2.1
  have h_xf_name : ∀ c ∈ ([5] : List Nat), ((TX K).fl c).Nodup ∧ ((TX K).fl c)[0]? = some ("name" : Str) ∧ PySem.W.findIn K (.ref ((TX K).cl c)) "name" = some none := by
      intro c hc
      simp only [List.mem_cons, List.not_mem_nil, or_false] at hc
      rcases hc with rfl
      · exact ⟨by simp [TX], rfl, of_decide_eq_true m.2.2.2.2.2.2.2.2.2.2.2.2.2.2.2.2.2.1⟩
  have h_oex_NoWeb : OexC K ((TX K).cl 2) := oexAll_ok m.2.2.2.2.2.2.2.2.1
  have h_no_NoWeb : PySem.W.findIn K (.ref ((TX K).cl 2)) "place" = some none := of_decide_eq_true m.2.2.2.2.2.2.2.2.2.1
  have h_oex_NoText : OexC K ((TX K).cl 3) := oexAll_ok m.2.2.2.2.2.2.2.2.2.2.2.2.1
  have h_no_NoText : PySem.W.findIn K (.ref ((TX K).cl 3)) "row" = some none := of_decide_eq_true m.2.2.2.2.2.2.2.2.2.2.2.2.2.1
  have h_oex_NoName : OexC K ((TX K).cl 5) := oexAll_ok m.2.2.2.2.2.2.2.2.2.2.2.2.2.2.2.2.1
  have h_no_NoName : PySem.W.findIn K (.ref ((TX K).cl 5)) "name" = some none := of_decide_eq_true m.2.2.2.2.2.2.2.2.2.2.2.2.2.2.2.2.2.1
  have h_isa_NoText : IsaV K (TX K) (.ref ((TX K).cl 3)) (isaF ["NoneType"] [(1, false), (2, false), (3, true), (5, false)]) := by
    refine isaV_of (by
      intro c hc
      simp only [List.mem_cons, List.not_mem_nil, or_false] at hc
      rcases hc with rfl
      · exact of_decide_eq_true m.2.2.2.2.2.2.2.2.2.2.2.2.2.2.2.2.2.2.2.2.2.2.2.2.2.2.2.1) (by
      intro c hc
      simp only [List.mem_cons, List.not_mem_nil, or_false] at hc
      rcases hc with rfl | rfl | rfl | rfl
      · exact of_decide_eq_true m.2.2.2.2.2.2.2.2.2.2.2.2.2.2.2.2.2.2.2.2.2.2.2.2.2.2.2.2.1
      · exact of_decide_eq_true m.2.2.2.2.2.2.2.2.2.2.2.2.2.2.2.2.2.2.2.2.2.2.2.2.2.2.2.2.2.1
      · exact of_decide_eq_true m.2.2.2.2.2.2.2.2.2.2.2.2.2.2.2.2.2.2.2.2.2.2.2.2.2.2.2.2.2.2.1
      · exact of_decide_eq_true m.2.2.2.2.2.2.2.2.2.2.2.2.2.2.2.2.2.2.2.2.2.2.2.2.2.2.2.2.2.2.2.1)
  have h_isa_HearthError : IsaV K (TX K) (.ref ((TX K).cl 4)) (isaF ["NoneType"] [(1, true), (2, true), (3, true), (5, true)]) := by
    refine isaV_of (by
      intro c hc
      simp only [List.mem_cons, List.not_mem_nil, or_false] at hc
      rcases hc with rfl
      · exact of_decide_eq_true m.2.2.2.2.2.2.2.2.2.2.2.2.2.2.2.2.2.2.2.2.2.2.2.2.2.2.2.2.2.2.2.2.1) (by
      intro c hc
      simp only [List.mem_cons, List.not_mem_nil, or_false] at hc
      rcases hc with rfl | rfl | rfl | rfl
      · exact of_decide_eq_true m.2.2.2.2.2.2.2.2.2.2.2.2.2.2.2.2.2.2.2.2.2.2.2.2.2.2.2.2.2.2.2.2.2.1
      · exact of_decide_eq_true m.2.2.2.2.2.2.2.2.2.2.2.2.2.2.2.2.2.2.2.2.2.2.2.2.2.2.2.2.2.2.2.2.2.2.1
      · exact of_decide_eq_true m.2.2.2.2.2.2.2.2.2.2.2.2.2.2.2.2.2.2.2.2.2.2.2.2.2.2.2.2.2.2.2.2.2.2.2.1
      · exact of_decide_eq_true m.2.2.2.2.2.2.2.2.2.2.2.2.2.2.2.2.2.2.2.2.2.2.2.2.2.2.2.2.2.2.2.2.2.2.2.2.1)
  have h_isa_ValueError : IsaV K (TX K) (.ty "ValueError") (isaF ["NoneType"] [(1, true), (2, true), (3, true), (5, true)]) := by
    refine isaV_ty (by
      intro c hc
      simp only [List.mem_cons, List.not_mem_nil, or_false] at hc
      rcases hc with rfl
      · exact of_decide_eq_true m.2.2.2.2.2.2.2.2.2.2.2.2.2.2.2.2.2.2.2.2.2.2.2.2.2.2.2.2.2.2.2.2.2.2.2.2.2.1) (by
      intro c hc
      simp only [List.mem_cons, List.not_mem_nil, or_false] at hc
      rcases hc with rfl | rfl | rfl | rfl
      · exact of_decide_eq_true m.2.2.2.2.2.2.2.2.2.2.2.2.2.2.2.2.2.2.2.2.2.2.2.2.2.2.2.2.2.2.2.2.2.2.2.2.2.2.1
      · exact of_decide_eq_true m.2.2.2.2.2.2.2.2.2.2.2.2.2.2.2.2.2.2.2.2.2.2.2.2.2.2.2.2.2.2.2.2.2.2.2.2.2.2.2.1
      · exact of_decide_eq_true m.2.2.2.2.2.2.2.2.2.2.2.2.2.2.2.2.2.2.2.2.2.2.2.2.2.2.2.2.2.2.2.2.2.2.2.2.2.2.2.2.1
      · exact of_decide_eq_true m.2.2.2.2.2.2.2.2.2.2.2.2.2.2.2.2.2.2.2.2.2.2.2.2.2.2.2.2.2.2.2.2.2.2.2.2.2.2.2.2.2.1)
  have h_isaT_StateError_NoWeb : IsaT K (TX K) [.ref ((TX K).cl 6), .ref ((TX K).cl 2)] (isaF ["NoneType"] [(1, false), (2, true), (3, false), (5, false)]) := by
    refine isaT_of (Cs := [(TX K).cl 6, (TX K).cl 2]) (by
      intro c hc
      simp only [List.mem_cons, List.not_mem_nil, or_false] at hc
      rcases hc with rfl
      · exact of_decide_eq_true m.2.2.2.2.2.2.2.2.2.2.2.2.2.2.2.2.2.2.2.2.2.2.2.2.2.2.2.2.2.2.2.2.2.2.2.2.2.2.2.2.2.2.1) (by
      intro c hc
      simp only [List.mem_cons, List.not_mem_nil, or_false] at hc
      rcases hc with rfl | rfl | rfl | rfl
      · exact of_decide_eq_true m.2.2.2.2.2.2.2.2.2.2.2.2.2.2.2.2.2.2.2.2.2.2.2.2.2.2.2.2.2.2.2.2.2.2.2.2.2.2.2.2.2.2.2.1
      · exact of_decide_eq_true m.2.2.2.2.2.2.2.2.2.2.2.2.2.2.2.2.2.2.2.2.2.2.2.2.2.2.2.2.2.2.2.2.2.2.2.2.2.2.2.2.2.2.2.2.1
      · exact of_decide_eq_true m.2.2.2.2.2.2.2.2.2.2.2.2.2.2.2.2.2.2.2.2.2.2.2.2.2.2.2.2.2.2.2.2.2.2.2.2.2.2.2.2.2.2.2.2.2.1
      · exact of_decide_eq_true m.2.2.2.2.2.2.2.2.2.2.2.2.2.2.2.2.2.2.2.2.2.2.2.2.2.2.2.2.2.2.2.2.2.2.2.2.2.2.2.2.2.2.2.2.2.2.1)
  have X0 : Tx K (TX K) mg := { b_ValueError := He.free_ok X G (c.fact 58 (f := .free "ValueError") rfl), b_abs := He.free_ok X G (c.fact 59 (f := .free "abs") rfl), b_all := He.free_ok X G (c.fact 60 (f := .free "all") rfl), b_any := He.free_ok X G (c.fact 61 (f := .free "any") rfl), b_bool := He.free_ok X G (c.fact 62 (f := .free "bool") rfl), b_divmod := He.free_ok X G (c.fact 63 (f := .free "divmod") rfl), b_enumerate := He.free_ok X G (c.fact 64 (f := .free "enumerate") rfl), b_int := He.free_ok X G (c.fact 65 (f := .free "int") rfl), b_isinstance := He.free_ok X G (c.fact 66 (f := .free "isinstance") rfl), b_len := He.free_ok X G (c.fact 67 (f := .free "len") rfl), b_max := He.free_ok X G (c.fact 69 (f := .free "max") rfl), b_min := He.free_ok X G (c.fact 70 (f := .free "min") rfl), b_range := He.free_ok X G (c.fact 71 (f := .free "range") rfl), b_set := He.free_ok X G (c.fact 72 (f := .free "set") rfl), b_str := He.free_ok X G (c.fact 73 (f := .free "str") rfl), b_tuple := He.free_ok X G (c.fact 74 (f := .free "tuple") rfl), c_LONGEST_NAME := He.int_ok X G (c.fact 3 (f := .int "LONGEST_NAME" 6) rfl), c_MOST := He.int_ok X G (c.fact 0 (f := .int "MOST" 16) rfl), c_MOST_FIGURES := He.int_ok X G (c.fact 4 (f := .int "MOST_FIGURES" 9) rfl), c_MOST_HUNGER := He.int_ok X G (c.fact 2 (f := .int "MOST_HUNGER" 9) rfl), c_MOST_STORES := He.int_ok X G (c.fact 1 (f := .int "MOST_STORES" 3) rfl), fl_Web := rfl, C_Web := C_Web, I_Web := ⟨fun n hn => of_decide_eq_true (List.all_eq_true.mp m.1 n hn), of_decide_eq_true m.2.1, He.eqO_ok m.2.2.1, He.eqO_ok m.2.2.2.2.2.2.2.2.2.2.2.2.2.2.2.2.2.2.2.2.2.2.2.2.2.2.2.2.2.2.2.2.2.2.2.2.2.2.2.2.2.2.2.2.2.2.2.1, of_decide_eq_true m.2.2.2.2.2.2.2.2.2.2.2.2.2.2.2.2.2.2.2.2.2.2.2.2.2.2.2.2.2.2.2.2.2.2.2.2.2.2.2.2.2.2.2.2.2.2.2.2, of_decide_eq_true m.2.2.2.1⟩, g_Web := He.glo_ok X G (c.fact 29 (f := .glo "Web") rfl), S_Web := ⟨He.eqO_ok m.2.2.2.2.1, He.eqO_ok m.2.2.2.2.2.1, of_decide_eq_true m.2.2.2.1⟩, g_NoStores := He.glo_ok X G (c.fact 47 (f := .glo "NoStores") rfl), g_NoWeb := He.glo_ok X G (c.fact 49 (f := .glo "NoWeb") rfl), g_NoText := He.glo_ok X G (c.fact 51 (f := .glo "NoText") rfl), g_NoName := He.glo_ok X G (c.fact 53 (f := .glo "NoName") rfl), g_HearthError := He.glo_ok X G (c.fact 55 (f := .glo "HearthError") rfl), g_StateError := He.glo_ok X G (c.fact 56 (f := .glo "StateError") rfl), xk := h_xk, hitR_NoStores := h_hitR_NoStores, hitR_NoWeb := h_hitR_NoWeb, hit2_HearthError_StateError := h_hit2_HearthError_StateError, up_HearthError := h_up_HearthError, xk_place := h_xk_place, xf_place := h_xf_place, xk_row := h_xk_row, xf_row := h_xf_row, xk_name := h_xk_name, xf_name := h_xf_name, oex_NoWeb := h_oex_NoWeb, no_NoWeb := h_no_NoWeb, oex_NoText := h_oex_NoText, no_NoText := h_no_NoText, oex_NoName := h_oex_NoName, no_NoName := h_no_NoName, isa_NoText := h_isa_NoText, isa_HearthError := h_isa_HearthError, isa_ValueError := h_isa_ValueError, isaT_StateError_NoWeb := h_isaT_StateError_NoWeb }
  obtain ⟨fd_m_NoWeb_init, F_m_NoWeb_init⟩ := c.def_ 35 (d := d_m_NoWeb_init) rfl
  obtain ⟨fd_m_NoText_init, F_m_NoText_init⟩ := c.def_ 37 (d := d_m_NoText_init) rfl
  obtain ⟨fd_m_NoName_init, F_m_NoName_init⟩ := c.def_ 36 (d := d_m_NoName_init) rfl
  obtain ⟨fd_p_is_whole, F_p_is_whole⟩ := c.def_ 0 (d := d_p_is_whole) rfl
  obtain ⟨fd_p_is_name, F_p_is_name⟩ := c.def_ 1 (d := d_p_is_name) rfl
  obtain ⟨fd_p_are_hungers, F_p_are_hungers⟩ := c.def_ 2 (d := d_p_are_hungers) rfl
  obtain ⟨fd_p_are_feeders, F_p_are_feeders⟩ := c.def_ 3 (d := d_p_are_feeders) rfl
  obtain ⟨fd_p_is_hearth, F_p_is_hearth⟩ := c.def_ 4 (d := d_p_is_hearth) rfl
  obtain ⟨fd_p_hearths_by_name, F_p_hearths_by_name⟩ := c.def_ 5 (d := d_p_hearths_by_name) rfl
  obtain ⟨fd_m_Web_init, F_m_Web_init⟩ := c.def_ 7 (d := d_m_Web_init) rfl
  obtain ⟨fd_m_Web_hearth_of, F_m_Web_hearth_of⟩ := c.def_ 8 (d := d_m_Web_hearth_of) rfl
  obtain ⟨fd_m_Web_names, F_m_Web_names⟩ := c.def_ 9 (d := d_m_Web_names) rfl
  obtain ⟨fd_m_Web_hungers, F_m_Web_hungers⟩ := c.def_ 10 (d := d_m_Web_hungers) rfl
  obtain ⟨fd_m_Web_feeders, F_m_Web_feeders⟩ := c.def_ 11 (d := d_m_Web_feeders) rfl
  obtain ⟨fd_m_Web_built, F_m_Web_built⟩ := c.def_ 13 (d := d_m_Web_built) rfl
  obtain ⟨fd_m_Web_len, F_m_Web_len⟩ := c.def_ 15 (d := d_m_Web_len) rfl
  obtain ⟨fd_p_is_number, F_p_is_number⟩ := c.def_ 18 (d := d_p_is_number) rfl
  obtain ⟨fd_p_numbers_ahead, F_p_numbers_ahead⟩ := c.def_ 19 (d := d_p_numbers_ahead) rfl
  obtain ⟨fd_p_are_feeders_told, F_p_are_feeders_told⟩ := c.def_ 20 (d := d_p_are_feeders_told) rfl
  obtain ⟨fd_p_hearth_told, F_p_hearth_told⟩ := c.def_ 21 (d := d_p_hearth_told) rfl
  obtain ⟨fd_p_web_begun, F_p_web_begun⟩ := c.def_ 22 (d := d_p_web_begun) rfl
  obtain ⟨fd_p_web_with_row, F_p_web_with_row⟩ := c.def_ 23 (d := d_p_web_with_row) rfl
  obtain ⟨fd_p_read_web, F_p_read_web⟩ := c.def_ 24 (d := d_p_read_web) rfl
  obtain ⟨fd_l_cell, F_l_cell⟩ := c.def_ 25 (d := d_l_cell) rfl
  obtain ⟨fd_l_hand, F_l_hand⟩ := c.def_ 26 (d := d_l_hand) rfl
  obtain ⟨fd_l_draw, F_l_draw⟩ := c.def_ 27 (d := d_l_draw) rfl
  obtain ⟨fd_l_calls, F_l_calls⟩ := c.def_ 28 (d := d_l_calls) rfl
  obtain ⟨fd_l_refused, F_l_refused⟩ := c.def_ 29 (d := d_l_refused) rfl
  obtain ⟨fd_l_heads, F_l_heads⟩ := c.def_ 30 (d := d_l_heads) rfl
  obtain ⟨fd_l_small_right, F_l_small_right⟩ := c.def_ 31 (d := d_l_small_right) rfl
  obtain ⟨fd_l_stores_right, F_l_stores_right⟩ := c.def_ 32 (d := d_l_stores_right) rfl
  obtain ⟨fd_l_great_right, F_l_great_right⟩ := c.def_ 33 (d := d_l_great_right) rfl
  obtain ⟨fd_law_, F_law_⟩ := c.def_ 34 (d := d_law_) rfl
  have e := hfa.symm.trans (He.glo_ok X G (c.fact 28 (f := .glo "law") rfl))
  cases e
  have bl := FunD.bindsA (ps := ["_law_script"]) F_law_ fun _ _ _ _ _ _ us hl => match us, hl with | [_], _ => rfl
  refine ⟨fd_law_, fun s v => bl s [v] rfl, fun base hK hG => ?_⟩
  have x_NoStores : CalX0 K mg (TX K) "NoStores" 1 := ⟨X0.g_NoStores, (He.exc_ok (c.fact 48 (f := .exc "NoStores") rfl)).1, (He.exc_ok (c.fact 48 (f := .exc "NoStores") rfl)).2.1, (He.exc_ok (c.fact 48 (f := .exc "NoStores") rfl)).2.2.1, (He.exc_ok (c.fact 48 (f := .exc "NoStores") rfl)).2.2.2⟩
  have x_NoWeb : CalXF P w K mg base (TX K) 1 "NoWeb" 2 "place" := ⟨_, _, _, ok_m_NoWeb_init X0 F_m_NoWeb_init, X0.g_NoWeb, X0.oex_NoWeb, (He.meth_ok (c.fact 50 (f := .meth "NoWeb" "__init__") rfl)).at_, of_decide_eq_true m.2.2.2.2.2.2.2.2.2.2.1, F_m_NoWeb_init.bindsN fun _ _ _ _ _ _ us hl => match us, hl with | [_, _], _ => rfl, rfl⟩
  have x_NoText : CalXF P w K mg base (TX K) 1 "NoText" 3 "row" := ⟨_, _, _, ok_m_NoText_init X0 F_m_NoText_init, X0.g_NoText, X0.oex_NoText, (He.meth_ok (c.fact 52 (f := .meth "NoText" "__init__") rfl)).at_, of_decide_eq_true m.2.2.2.2.2.2.2.2.2.2.2.2.2.2.1, F_m_NoText_init.bindsN fun _ _ _ _ _ _ us hl => match us, hl with | [_, _], _ => rfl, rfl⟩
  have y_NoText : CalXH P w K mg base (TX K) 1 "NoText" 3 "row" := ⟨_, _, _, okH_m_NoText_init X0 F_m_NoText_init, X0.g_NoText, X0.oex_NoText, (He.meth_ok (c.fact 52 (f := .meth "NoText" "__init__") rfl)).at_, of_decide_eq_true m.2.2.2.2.2.2.2.2.2.2.2.2.2.2.1, F_m_NoText_init.bindsN fun _ _ _ _ _ _ us hl => match us, hl with | [_, _], _ => rfl, rfl⟩
  have x_NoName : CalX P w K mg base (TX K) 1 "NoName" 5 "name" := ⟨_, _, _, ok_m_NoName_init X0 F_m_NoName_init, X0.g_NoName, X0.oex_NoName, (He.meth_ok (c.fact 54 (f := .meth "NoName" "__init__") rfl)).at_, of_decide_eq_true m.2.2.2.2.2.2.2.2.2.2.2.2.2.2.2.2.2.2.1, F_m_NoName_init.bindsN fun _ _ _ _ _ _ us hl => match us, hl with | [_, _], _ => rfl, rfl⟩
  have c_p_is_whole : Cal P w K mg base (TX K) 1 "is_whole" g_p_is_whole ["thing", "low", "high"] := ⟨_, _, ok_p_is_whole X0 F_p_is_whole, He.glo_ok X G (c.fact 5 (f := .glo "is_whole") rfl), F_p_is_whole.kp, F_p_is_whole.bindsN fun _ _ _ _ _ _ us hl => match us, hl with | [_, _, _], _ => rfl⟩
  have c_p_is_name : Cal P w K mg base (TX K) 1 "is_name" g_p_is_name ["thing"] := ⟨_, _, ok_p_is_name X0 F_p_is_name, He.glo_ok X G (c.fact 6 (f := .glo "is_name") rfl), F_p_is_name.kp, F_p_is_name.bindsN fun _ _ _ _ _ _ us hl => match us, hl with | [_], _ => rfl⟩
  have c_p_are_hungers : Cal P w K mg base (TX K) 2 "are_hungers" g_p_are_hungers ["thing", "stores"] := ⟨_, _, ok_p_are_hungers X0 c_p_is_whole F_p_are_hungers, He.glo_ok X G (c.fact 7 (f := .glo "are_hungers") rfl), F_p_are_hungers.kp, F_p_are_hungers.bindsN fun _ _ _ _ _ _ us hl => match us, hl with | [_, _], _ => rfl⟩
  have c_p_are_feeders : Cal P w K mg base (TX K) 1 "are_feeders" g_p_are_feeders ["thing", "ahead"] := ⟨_, _, ok_p_are_feeders X0 F_p_are_feeders, He.glo_ok X G (c.fact 8 (f := .glo "are_feeders") rfl), F_p_are_feeders.kp, F_p_are_feeders.bindsN fun _ _ _ _ _ _ us hl => match us, hl with | [_, _], _ => rfl⟩
  have c_p_is_hearth : Cal P w K mg base (TX K) 3 "is_hearth" g_p_is_hearth ["thing", "stores", "ahead"] := ⟨_, _, ok_p_is_hearth X0 c_p_is_name c_p_are_hungers c_p_are_feeders F_p_is_hearth, He.glo_ok X G (c.fact 9 (f := .glo "is_hearth") rfl), F_p_is_hearth.kp, F_p_is_hearth.bindsN fun _ _ _ _ _ _ us hl => match us, hl with | [_, _, _], _ => rfl⟩
  have c_p_hearths_by_name : CalN P w K mg base (TX K) 4 "hearths_by_name" g_p_hearths_by_name ["stores", "hearths"] := ⟨_, _, ok_p_hearths_by_name X0 c_p_is_hearth x_NoWeb F_p_hearths_by_name, He.glo_ok X G (c.fact 10 (f := .glo "hearths_by_name") rfl), F_p_hearths_by_name.kp, F_p_hearths_by_name.bindsN fun _ _ _ _ _ _ us hl => match us, hl with | [_, _], _ => rfl⟩
  have b_m_Web_init : Binds K fd_m_Web_init ["self", "stores", "hearths"] [] := by
    obtain ⟨ds, r, hb⟩ := FunD.binds1 (ps := ["self", "stores", "hearths"]) F_m_Web_init 3 1 (by intro z; cases z) rfl (fun T kV doc pm an cdv ct us its hl hi => match us, its, hl, hi with | [_, _, _], [_], _, _ => ⟨_, rfl, rfl⟩)
    cases r
    exact hb
  have c_m_Web_init : CalCN P w K mg base (TX K) 5 "Web" 0 g_m_Web_init ["self", "stores", "hearths"] := ⟨_, _, ok_m_Web_init X0 c_p_is_whole c_p_hearths_by_name x_NoStores F_m_Web_init, X0.g_Web, He.mkr_ok (c.fact 31 (f := .mkr "Web") rfl), b_m_Web_init⟩
  have n1_m_Web_init : CalCDN P w K mg base (TX K) 5 "Web" 0 g_m_Web_init ["self", "stores", "hearths"] [.fru []] := by
    obtain ⟨ds, r, hb⟩ := FunD.binds1 (ps := ["self", "stores", "hearths"]) F_m_Web_init 2 0 (by intro z; cases z) rfl (fun T kV doc pm an cdv ct us its hl hi => match us, its, hl, hi with | [_, _], [_], _, _ => ⟨_, rfl, rfl⟩)
    exact ⟨_, _, ds, _, ok_m_Web_init X0 c_p_is_whole c_p_hearths_by_name x_NoStores F_m_Web_init, X0.g_Web, He.mkr_ok (c.fact 31 (f := .mkr "Web") rfl), hb, r, fun F => ⟨_, _, rfl, noneAt_ok m.2.2.2.2.2.2.1 F, rfl⟩⟩
  have c_m_Web_hearth_of : CalM P w K mg base (TX K) 3 0 "hearth_of" g_m_Web_hearth_of ["self", "name"] := ⟨_, _, ok_m_Web_hearth_of X0 x_NoName F_m_Web_hearth_of, He.meth_ok (c.fact 37 (f := .meth "Web" "hearth_of") rfl), F_m_Web_hearth_of.bindsN fun _ _ _ _ _ _ us hl => match us, hl with | [_, _], _ => rfl⟩
  have c_m_Web_names : CalM P w K mg base (TX K) 1 0 "names" g_m_Web_names ["self"] := ⟨_, _, ok_m_Web_names X0 F_m_Web_names, He.meth_ok (c.fact 38 (f := .meth "Web" "names") rfl), F_m_Web_names.bindsN fun _ _ _ _ _ _ us hl => match us, hl with | [_], _ => rfl⟩
  have c_m_Web_hungers : CalM P w K mg base (TX K) 4 0 "hungers" g_m_Web_hungers ["self", "name"] := ⟨_, _, ok_m_Web_hungers X0 c_m_Web_hearth_of F_m_Web_hungers, He.meth_ok (c.fact 39 (f := .meth "Web" "hungers") rfl), F_m_Web_hungers.bindsN fun _ _ _ _ _ _ us hl => match us, hl with | [_, _], _ => rfl⟩
  have c_m_Web_feeders : CalM P w K mg base (TX K) 4 0 "feeders" g_m_Web_feeders ["self", "name"] := ⟨_, _, ok_m_Web_feeders X0 c_m_Web_hearth_of F_m_Web_feeders, He.meth_ok (c.fact 40 (f := .meth "Web" "feeders") rfl), F_m_Web_feeders.bindsN fun _ _ _ _ _ _ us hl => match us, hl with | [_, _], _ => rfl⟩
  have c_m_Web_built : CalMN P w K mg base (TX K) 7 0 "built" g_m_Web_built ["self", "hearth"] := ⟨_, _, ok_m_Web_built X0 c_m_Web_init F_m_Web_built, He.meth_ok (c.fact 42 (f := .meth "Web" "built") rfl), F_m_Web_built.bindsN fun _ _ _ _ _ _ us hl => match us, hl with | [_, _], _ => rfl⟩
  have c_m_Web_len : CalM P w K mg base (TX K) 1 0 "__len__" g_m_Web_len ["self"] := ⟨_, _, ok_m_Web_len X0 F_m_Web_len, He.meth_ok (c.fact 44 (f := .meth "Web" "__len__") rfl), F_m_Web_len.bindsN fun _ _ _ _ _ _ us hl => match us, hl with | [_], _ => rfl⟩
  have c_p_is_number : Cal P w K mg base (TX K) 1 "is_number" g_p_is_number ["word"] := ⟨_, _, ok_p_is_number X0 F_p_is_number, He.glo_ok X G (c.fact 12 (f := .glo "is_number") rfl), F_p_is_number.kp, F_p_is_number.bindsN fun _ _ _ _ _ _ us hl => match us, hl with | [_], _ => rfl⟩
  have c_p_numbers_ahead : Cal P w K mg base (TX K) 2 "numbers_ahead" g_p_numbers_ahead ["words"] := ⟨_, _, ok_p_numbers_ahead X0 c_p_is_number F_p_numbers_ahead, He.glo_ok X G (c.fact 13 (f := .glo "numbers_ahead") rfl), F_p_numbers_ahead.kp, F_p_numbers_ahead.bindsN fun _ _ _ _ _ _ us hl => match us, hl with | [_], _ => rfl⟩
  have c_p_are_feeders_told : Cal P w K mg base (TX K) 2 "are_feeders_told" g_p_are_feeders_told ["words"] := ⟨_, _, ok_p_are_feeders_told X0 c_p_is_name F_p_are_feeders_told, He.glo_ok X G (c.fact 14 (f := .glo "are_feeders_told") rfl), F_p_are_feeders_told.kp, F_p_are_feeders_told.bindsN fun _ _ _ _ _ _ us hl => match us, hl with | [_], _ => rfl⟩
  have c_p_hearth_told : Cal P w K mg base (TX K) 3 "hearth_told" g_p_hearth_told ["words"] := ⟨_, _, ok_p_hearth_told X0 c_p_is_name c_p_numbers_ahead c_p_are_feeders_told F_p_hearth_told, He.glo_ok X G (c.fact 15 (f := .glo "hearth_told") rfl), F_p_hearth_told.kp, F_p_hearth_told.bindsN fun _ _ _ _ _ _ us hl => match us, hl with | [_], _ => rfl⟩
  have c_p_web_begun : Cal P w K mg base (TX K) 7 "web_begun" g_p_web_begun ["row"] := ⟨_, _, ok_p_web_begun X0 c_p_is_number x_NoText n1_m_Web_init y_NoText F_p_web_begun, He.glo_ok X G (c.fact 16 (f := .glo "web_begun") rfl), F_p_web_begun.kp, F_p_web_begun.bindsN fun _ _ _ _ _ _ us hl => match us, hl with | [_], _ => rfl⟩
  have c_p_web_with_row : Cal P w K mg base (TX K) 8 "web_with_row" g_p_web_with_row ["web", "row", "number"] := ⟨_, _, ok_p_web_with_row X0 c_p_hearth_told c_m_Web_built x_NoText y_NoText F_p_web_with_row, He.glo_ok X G (c.fact 17 (f := .glo "web_with_row") rfl), F_p_web_with_row.kp, F_p_web_with_row.bindsN fun _ _ _ _ _ _ us hl => match us, hl with | [_, _, _], _ => rfl⟩
  have c_p_read_web : Cal P w K mg base (TX K) 9 "read_web" g_p_read_web ["text"] := ⟨_, _, ok_p_read_web X0 c_p_web_begun c_p_web_with_row x_NoText F_p_read_web, He.glo_ok X G (c.fact 18 (f := .glo "read_web") rfl), F_p_read_web.kp, F_p_read_web.bindsN fun _ _ _ _ _ _ us hl => match us, hl with | [_], _ => rfl⟩
  have k_p_read_web_0 : CalK P w K mg base (TX K) 9 "read_web" g_p_read_web ["text"] ["text"] [0] := ⟨_, _, ok_p_read_web X0 c_p_web_begun c_p_web_with_row x_NoText F_p_read_web, He.glo_ok X G (c.fact 18 (f := .glo "read_web") rfl), F_p_read_web.kp, bindsK F_p_read_web fun _ _ _ _ _ _ ws hl => match ws, hl with | [_], _ => rfl⟩
  have c_l_cell : Cal P w K mg base (TX K) 1 "_law_cell" g_l_cell ["_law_script", "_law_k"] := ⟨_, _, ok_l_cell X0 F_l_cell, He.glo_ok X G (c.fact 19 (f := .glo "_law_cell") rfl), F_l_cell.kp, F_l_cell.bindsN fun _ _ _ _ _ _ us hl => match us, hl with | [_, _], _ => rfl⟩
  have c_l_hand : Cal P w K mg base (TX K) 1 "_law_hand" g_l_hand ["_law_cell_here"] := ⟨_, _, ok_l_hand X0 F_l_hand, He.glo_ok X G (c.fact 20 (f := .glo "_law_hand") rfl), F_l_hand.kp, F_l_hand.bindsN fun _ _ _ _ _ _ us hl => match us, hl with | [_], _ => rfl⟩
  have c_l_draw : Cal P w K mg base (TX K) 1 "_law_draw" g_l_draw ["_law_hand_here", "_law_many"] := ⟨_, _, ok_l_draw X0 F_l_draw, He.glo_ok X G (c.fact 21 (f := .glo "_law_draw") rfl), F_l_draw.kp, F_l_draw.bindsN fun _ _ _ _ _ _ us hl => match us, hl with | [_, _], _ => rfl⟩
  have c_l_calls : Cal P w K mg base (TX K) 2 "_law_calls" g_l_calls ["_law_hand_here", "_law_many"] := ⟨_, _, ok_l_calls X0 c_l_draw F_l_calls, He.glo_ok X G (c.fact 22 (f := .glo "_law_calls") rfl), F_l_calls.kp, F_l_calls.bindsN fun _ _ _ _ _ _ us hl => match us, hl with | [_, _], _ => rfl⟩
  have c_l_refused : Cal P w K mg base (TX K) 10 "_law_refused" g_l_refused ["_law_line"] := ⟨_, _, ok_l_refused X0 c_p_read_web k_p_read_web_0 F_l_refused, He.glo_ok X G (c.fact 23 (f := .glo "_law_refused") rfl), F_l_refused.kp, F_l_refused.bindsN fun _ _ _ _ _ _ us hl => match us, hl with | [_], _ => rfl⟩
  have c_l_heads : Cal P w K mg base (TX K) 1 "_law_heads" g_l_heads [] := ⟨_, _, ok_l_heads X0 F_l_heads, He.glo_ok X G (c.fact 24 (f := .glo "_law_heads") rfl), F_l_heads.kp, F_l_heads.bindsN fun _ _ _ _ _ _ us hl => match us, hl with | [], _ => rfl⟩
  have c_l_small_right : Cal P w K mg base (TX K) 11 "_law_small_right" g_l_small_right ["_law_a", "_law_b", "_law_c"] := ⟨_, _, ok_l_small_right X0 c_l_refused c_p_read_web F_l_small_right, He.glo_ok X G (c.fact 25 (f := .glo "_law_small_right") rfl), F_l_small_right.kp, F_l_small_right.bindsN fun _ _ _ _ _ _ us hl => match us, hl with | [_, _, _], _ => rfl⟩
  have c_l_stores_right : Cal P w K mg base (TX K) 11 "_law_stores_right" g_l_stores_right ["_law_a", "_law_b"] := ⟨_, _, ok_l_stores_right X0 c_p_read_web c_m_Web_len c_l_refused c_m_Web_hungers c_m_Web_feeders F_l_stores_right, He.glo_ok X G (c.fact 26 (f := .glo "_law_stores_right") rfl), F_l_stores_right.kp, F_l_stores_right.bindsN fun _ _ _ _ _ _ us hl => match us, hl with | [_, _], _ => rfl⟩
  have c_l_great_right : Cal P w K mg base (TX K) 11 "_law_great_right" g_l_great_right ["_law_calls_here"] := ⟨_, _, ok_l_great_right X0 c_p_read_web c_m_Web_len c_m_Web_names c_l_refused c_m_Web_feeders F_l_great_right, He.glo_ok X G (c.fact 27 (f := .glo "_law_great_right") rfl), F_l_great_right.kp, F_l_great_right.bindsN fun _ _ _ _ _ _ us hl => match us, hl with | [_], _ => rfl⟩
  exact ok_law_ X0 c_l_heads c_l_refused c_l_cell c_l_hand c_l_calls c_l_small_right c_l_stores_right c_l_great_right c_p_read_web F_law_
end K07
set_option maxHeartbeats 2000000
namespace VS
open PySem L2
@[simp] theorem a_mVar (i : Nat) (ρ : VEnv) : mVar i ρ = (match ρ[i]? with
  | some (some (Sl.val d)) => .ok d ρ
  | _ => .stuck) := id rfl
@[simp] theorem a_mC (d : D) (ρ : VEnv) : mC d ρ = .ok d ρ := id rfl
@[simp] theorem a_mOp (f : D → D → Option D) (ga gb : Ev D) (ρ : VEnv) : mOp f ga gb ρ = (ga ρ).bind fun x ρ1 => (gb ρ1).bind fun y ρ2 => R.of (f x y) ρ2 := id rfl
@[simp] theorem a_mOwn (i : Nat) (ρ : VEnv) : mOwn i ρ = (match ρ[i]? with
  | some (some (Sl.own _ m)) => .ok m.frz ρ
  | _ => .stuck) := id rfl
@[simp] theorem a_mOpO (f : D → D → Option D) (i : Nat) (gb : Ev D) (ρ : VEnv) : mOpO f i gb ρ = (match ρ[i]? with
  | some (some (Sl.own _ _)) => (gb ρ).bind fun y ρ2 => (mOwn i ρ2).bind fun x ρ3 => R.of (f x y) ρ3
  | _ => .stuck) := id rfl
@[simp] theorem a_mTest (g : Ev D) (ρ : VEnv) : mTest g ρ = (g ρ).bind asB := id rfl
@[simp] theorem a_asB (b : Bool) (ρ : VEnv) : asB (.bl b) ρ = .ok b ρ := id rfl
@[simp] theorem a_mOr (g h : Ev Bool) (ρ : VEnv) : mOr g h ρ = (g ρ).bind fun b ρ' => if b = true then .ok true ρ' else h ρ' := id rfl
@[simp] theorem a_mIf (t : Ev Bool) (g h : Ev D) (ρ : VEnv) : mIf t g h ρ = (t ρ).bind fun b ρ' => if b = true then g ρ' else h ρ' := id rfl
@[simp] theorem a_mNil (ρ : VEnv) : mNil ρ = .ok [] ρ := id rfl
@[simp] theorem a_mCons (g : Ev D) (h : Ev (List D)) (ρ : VEnv) : mCons g h ρ = (g ρ).bind fun d ρ1 => (h ρ1).bind fun ds ρ2 => .ok (d :: ds) ρ2 := id rfl
@[simp] theorem a_mLst (g : Ev (List D)) (ρ : VEnv) : mLst g ρ = (g ρ).bind fun ds ρ' => if ds.length ≤ lim then .ok (.lst ds) ρ' else .stuck := id rfl
@[simp] theorem a_mLstO (g : Ev (List D)) (ρ : VEnv) : mLstO g ρ = (g ρ).bind fun ds ρ' => if ds.length ≤ lim then .ok (.lst ds) ρ' else .stuck := id rfl
@[simp] theorem a_mCall (f : List D → Option D) (g : Ev (List D)) (ρ : VEnv) : mCall f g ρ = (g ρ).bind fun ds ρ' => R.of (f ds) ρ' := id rfl
@[simp] theorem a_mCall1 (f : D → Option D) (g : Ev D) (ρ : VEnv) : mCall1 f g ρ = (g ρ).bind fun d ρ' => R.of (f d) ρ' := id rfl
@[simp] theorem a_mSeqOf (g : Ev D) (ρ : VEnv) : mSeqOf g ρ = (g ρ).bind fun d ρ' => R.of (seqOf d) ρ' := id rfl
@[simp] theorem a_mRange1 (g : Ev D) (ρ : VEnv) : mRange1 g ρ = (g ρ).bind fun d ρ' => R.of (range1D d) ρ' := id rfl
@[simp] theorem a_mPart (g : Ev D) (ρ : VEnv) : mPart g ρ = (g ρ).bind fun d ρ' => (match d with
  | .int i => .ok (some i) ρ'
  | _ => .stuck) := id rfl
@[simp] theorem a_mNoPart (ρ : VEnv) : mNoPart ρ = .ok none ρ := id rfl
@[simp] theorem a_mSlice (g : Ev D) (lo hi : Ev (Option Int)) (ρ : VEnv) : mSlice g lo hi ρ = (g ρ).bind fun d ρ1 => (lo ρ1).bind fun l ρ2 => (hi ρ2).bind fun u ρ3 => R.of (slD d l u) ρ3 := id rfl
@[simp] theorem a_mCN (ρ : VEnv) : mCN ρ = .ok [] ρ := id rfl
@[simp] theorem a_mCV (g : Ev D) (h : Ev (List AR)) (ρ : VEnv) : mCV g h ρ = (g ρ).bind fun d ρ1 => (h ρ1).bind fun as ρ2 => .ok (.v d :: as) ρ2 := id rfl
@[simp] theorem a_mCL (i : Nat) (h : Ev (List AR)) (ρ : VEnv) : mCL i h ρ = (match ρ[i]? with
  | some (some (Sl.own _ _)) => (h ρ).bind fun as ρ2 => .ok (.l i :: as) ρ2
  | _ => .stuck) := id rfl
@[simp] theorem a_mRes (G : Fn) (n : Nat) (dd : List D) (g : Ev (List AR)) (ρ : VEnv) : mRes G n dd g ρ = (g ρ).bind fun ars ρ1 => callR G n (ars ++ dd.map AR.v) ρ1 := id rfl
@[simp] theorem a_mVal (g : Ev Res) (ρ : VEnv) : mVal g ρ = (g ρ).bind fun r ρ' => (match r with
  | .ok d => .ok d ρ'
  | .nw m => .ok m.frz ρ'
  | .ex _ _ => .stuck) := id rfl
@[simp] theorem a_mSeq (h k : VEnv → RS) (ρ : VEnv) : mSeq h k ρ = (match h ρ with
  | .nx ρ' => k ρ'
  | r => r) := id rfl
@[simp] theorem a_mNext (ρ : VEnv) : mNext ρ = .nx ρ := id rfl
@[simp] theorem a_mRet (g : Ev D) (ρ : VEnv) : mRet g ρ = (g ρ).thenS fun d ρ' => .rt d ρ' := id rfl
@[simp] theorem a_plain (xs : List D) : (MO.lst xs).plain = true := id rfl
@[simp] theorem a_mRetO (i : Nat) (ρ : VEnv) : mRetO i ρ = (match ρ[i]? with
  | some (some (Sl.own false m)) => if m.plain = true then .rn m (ρ.set i none) else .stuck
  | _ => .stuck) := id rfl
@[simp] theorem a_mRetF (g : Ev MO) (ρ : VEnv) : mRetF g ρ = (g ρ).thenM fun m ρ1 => .rn m ρ1 := id rfl
@[simp] theorem a_mIfS (t : Ev Bool) (h k : VEnv → RS) (ρ : VEnv) : mIfS t h k ρ = (t ρ).thenB fun b ρ' => if b = true then h ρ' else k ρ' := id rfl
@[simp] theorem a_mAsg (g : Ev D) (t : D → VEnv → Option VEnv) (ρ : VEnv) : mAsg g t ρ = (g ρ).thenS fun d ρ1 => (match t d ρ1 with
  | some ρ2 => .nx ρ2
  | none => .stuck) := id rfl
@[simp] theorem thenM_ok (m : MO) (ρ : VEnv) (k : MO → VEnv → RS) : (R.ok m ρ).thenM k = k m ρ := id rfl
@[simp] theorem thenL_ok (m : List D) (ρ : VEnv) (k : List D → VEnv → RS) : (R.ok m ρ).thenL k = k m ρ := id rfl
@[simp] theorem a_mFor (src : Ev (List D)) (t : D → VEnv → Option VEnv) (body : VEnv → RS) (ρ : VEnv) : mFor src t body ρ = (src ρ).thenL fun ds ρ' => forGo t body ds ρ' := id rfl
@[simp] theorem a_mAppend (i : Nat) (g : Ev D) (ρ : VEnv) : mAppend i g ρ = (match ρ[i]? with
  | some (some (Sl.own _ (.lst _))) => (g ρ).thenS fun d ρ' => (match ρ'[i]? with
    | some (some (Sl.own l (.lst xs))) => if xs.length < lim then .nx (ρ'.set i (some (Sl.own l (.lst (xs ++ [d]))))) else .stuck
    | _ => .stuck)
  | _ => .stuck) := id rfl
@[simp] theorem a_mParEF (i j : Nat) (ga : Ev D) (gb : Ev MO) (ρ : VEnv) : mParEF i j ga gb ρ = (ga ρ).thenS fun x ρ1 => (gb ρ1).thenM fun y ρ2 => setVS i x ρ2 fun ρ3 => setOS j y ρ3 .nx := id rfl
@[simp] theorem a_mLc (src : Ev (List D)) (vs : List Nat) (t : D → VEnv → Option VEnv) (tt : Ev Bool) (te : Ev D) (ρ : VEnv) : mLc src vs t tt te ρ = (mLcL src vs t tt te ρ).bind fun zs ρf => .ok (.lst zs) ρf := id rfl
@[simp] theorem a_mLcL (src : Ev (List D)) (vs : List Nat) (t : D → VEnv → Option VEnv) (tt : Ev Bool) (te : Ev D) (ρ : VEnv) : mLcL src vs t tt te ρ = (src ρ).bind fun ds ρ' => if cleared ρ' vs = true then (lcGo vs t tt te ds [] (wipeE ρ' vs)).bind fun zs ρf => .ok zs (restoreE ρ' ρf vs) else .stuck := id rfl
end VS
namespace K07
open PySem L2 PySem.Spec PyProof.Rows VS
def Hand (n : Nat) (m : MO) : Prop := ∃ a b c : Int, m = .lst [.int a, .int b, .int c] ∧ 0 ≤ c ∧ c + n ≤ 2 ^ 200
theorem Hand.mono {n k : Nat} {m : MO} (h : Hand n m) (hk : k ≤ n) : Hand k m := by
  obtain ⟨a, b, c, e, h0, h1⟩ := h
  exact ⟨a, b, c, e, h0, by omega⟩
theorem draw_ok {n : Nat} {m : MO} {many : Int} (h : Hand (n + 1) m) (h0 : 0 < many) (h1 : many < 1000000) : ∃ m' k, Hand n m' ∧ 0 ≤ k ∧ k < many ∧ g_l_draw [.l m, .v (.int many)] = some (.ok (.int k), [m']) := by
  obtain ⟨a, b, c, rfl, hc0, hc1⟩ := h
  have hb : many.natAbs < big := by unfold big; omega
  by_cases ha : 0 < a
  · refine ⟨.lst [.int (a / many), .int b, .int (c + 1)], a % many, ⟨_, _, _, rfl, by omega, by omega⟩, Int.emod_nonneg _ (by omega), Int.emod_lt_of_pos _ h0, ?_⟩
    simp [g_l_draw, runG, h_l_draw, startE, slotOf, lents, tgItem, ixD, atI, ixN, addD, gtD, MO.frz, ha, divmodD, h0, hb, tgTup, tgCons, tgNil, setV]
  · have s0 := Int.emod_nonneg b (show (1000000087 : Int) ≠ 0 by decide)
    have s1 := Int.emod_lt_of_pos b (show (0 : Int) < 1000000087 by decide)
    have t0 := Int.emod_nonneg (b % 1000000087) (show (46027 : Int) ≠ 0 by decide)
    have t1 := Int.emod_lt_of_pos (b % 1000000087) (show (0 : Int) < 46027 by decide)
    have e1 : (b % 1000000087).natAbs < big := by unfold big; omega
    have e2 : (b % 1000000087 % 46027 + 30011).natAbs < big := by unfold big; omega
    have e3 : (c + 1).natAbs < big := by unfold big; omega
    have e4 : 80039 < big := by unfold big; decide
    have e5 : 16 < big := by unfold big; decide
    refine ⟨.lst [.int a, .int (b % 1000000087 * (b % 1000000087 % 46027 + 30011) + 80039 * (c + 1)), .int (c + 1)], _, ⟨_, _, _, rfl, by omega, by omega⟩, Int.emod_nonneg ((b % 1000000087 * (b % 1000000087 % 46027 + 30011) + 80039 * (c + 1)) % 1000000087 / 16) (by omega), Int.emod_lt_of_pos _ h0, ?_⟩
    simp [g_l_draw, runG, h_l_draw, startE, slotOf, lents, tgItem, ixD, atI, ixN, addD, gtD, MO.frz, ha, modD, h0, setV, mulE, mulD, fdivD, e1, e2, e3, e4, e5]
end K07
set_option maxHeartbeats 2000000
namespace VS
open PySem L2
@[simp] theorem sv_succ (i : Nat) (d : D) (x : Option Sl) (ρ : VEnv) : setV (i + 1) d (x :: ρ) = (setV i d ρ).map (x :: ·) := by
  unfold setV
  rw [List.getElem?_cons_succ]
  split <;> rename_i h <;> simp [h]
@[simp] theorem sv_none (d : D) (ρ : VEnv) : setV 0 d (none :: ρ) = some (some (.val d) :: ρ) := id rfl
@[simp] theorem sv_val (d e : D) (ρ : VEnv) : setV 0 d (some (.val e) :: ρ) = some (some (.val d) :: ρ) := id rfl
@[simp] theorem sv_map (d : D) (o : Option D) (ρ : VEnv) : setV 0 d (o.map Sl.val :: ρ) = some (some (.val d) :: ρ) := by cases o <;> rfl
@[simp] theorem so_succ (i : Nat) (d : MO) (x : Option Sl) (ρ : VEnv) : setO (i + 1) d (x :: ρ) = (setO i d ρ).map (x :: ·) := by
  unfold setO
  rw [List.getElem?_cons_succ]
  split <;> rename_i h <;> simp [h]
@[simp] theorem so_none (d : MO) (ρ : VEnv) : setO 0 d (none :: ρ) = some (some (.own false d) :: ρ) := id rfl
@[simp] theorem svs_ok (i : Nat) (d : D) (ρ : VEnv) (k : VEnv → RS) : setVS i d ρ k = (match setV i d ρ with
  | some ρ' => k ρ'
  | none => .stuck) := id rfl
@[simp] theorem sos_ok (i : Nat) (d : MO) (ρ : VEnv) (k : VEnv → RS) : setOS i d ρ k = (match setO i d ρ with
  | some ρ' => k ρ'
  | none => .stuck) := id rfl
theorem forGo_inv {t : D → VEnv → Option VEnv} {body : VEnv → RS} (I : Nat → VEnv → Prop) : ∀ (ds : List D) (i : Nat) (ρ : VEnv), I i ρ → (∀ j d ρ, i ≤ j → ds[j - i]? = some d → I j ρ → ∃ ρ1 ρ2, t d ρ = some ρ1 ∧ (body ρ1 = .nx ρ2 ∨ body ρ1 = .ct ρ2) ∧ I (j + 1) ρ2) →
    ∃ ρ', forGo t body ds ρ = .nx ρ' ∧ I (i + ds.length) ρ'
  | [], i, ρ, h0, _ => ⟨ρ, rfl, h0⟩
  | d :: ds, i, ρ, h0, step => by
    obtain ⟨ρ1, ρ2, h1, h2, h3⟩ := step i d ρ (Nat.le_refl _) (by simp) h0
    obtain ⟨ρ', h4, h5⟩ := forGo_inv I ds (i + 1) ρ2 h3 fun j e ρ hj he hI => step j e ρ (by omega) (by
      have : j - i = (j - (i + 1)) + 1 := by omega
      rw [this, List.getElem?_cons_succ]; exact he) hI
    refine ⟨ρ', ?_, by rw [List.length_cons, show i + (ds.length + 1) = i + 1 + ds.length by omega]; exact h5⟩
    rcases h2 with h2 | h2 <;> simp [forGo, h1, h2, h4]
theorem forGo_inv0 {t : D → VEnv → Option VEnv} {body : VEnv → RS} (I : Nat → VEnv → Prop) (ds : List D) (ρ : VEnv) (h0 : I 0 ρ) (step : ∀ j d ρ, ds[j]? = some d → I j ρ → ∃ ρ1 ρ2, t d ρ = some ρ1 ∧ (body ρ1 = .nx ρ2 ∨ body ρ1 = .ct ρ2) ∧ I (j + 1) ρ2) :
    ∃ ρ', forGo t body ds ρ = .nx ρ' ∧ I ds.length ρ' := by
  have := forGo_inv I ds 0 ρ h0 fun j d ρ _ hd hI => step j d ρ (by simpa using hd) hI
  simpa using this
theorem lcGo_inv {vs : List Nat} {t : D → VEnv → Option VEnv} {tt : Ev Bool} {te : Ev D} (I : Nat → List D → VEnv → Prop) : ∀ (ds : List D) (i : Nat) (acc : List D) (ρ : VEnv), acc.length + ds.length ≤ lim → I i acc ρ →
    (∀ j d acc ρ, i ≤ j → ds[j - i]? = some d → I j acc ρ → ∃ ρ1 ρ2 b, t d ρ = some ρ1 ∧ tt ρ1 = .ok b ρ2 ∧ (b = true → ∃ y ρ3, te ρ2 = .ok y ρ3 ∧ I (j + 1) (acc ++ [y]) (wipeE ρ3 vs)) ∧ (b = false → I (j + 1) acc (wipeE ρ2 vs))) →
    ∃ zs ρ', lcGo vs t tt te ds acc ρ = .ok zs ρ' ∧ I (i + ds.length) zs ρ'
  | [], i, acc, ρ, _, h0, _ => ⟨acc, ρ, rfl, h0⟩
  | d :: ds, i, acc, ρ, hl, h0, step => by
    obtain ⟨ρ1, ρ2, b, h1, h2, h3, h4⟩ := step i d acc ρ (Nat.le_refl _) (by simp) h0
    have next : ∀ acc' ρ', acc'.length + ds.length ≤ lim → I (i + 1) acc' ρ' → ∃ zs ρ2, lcGo vs t tt te ds acc' ρ' = .ok zs ρ2 ∧ I (i + (d :: ds).length) zs ρ2 := fun acc' ρ' hl' hI => by
      obtain ⟨zs, ρ3, h5, h6⟩ := lcGo_inv I ds (i + 1) acc' ρ' hl' hI fun j e a ρ hj he hI => step j e a ρ (by omega) (by
        have : j - i = (j - (i + 1)) + 1 := by omega
        rw [this, List.getElem?_cons_succ]; exact he) hI
      exact ⟨zs, ρ3, h5, by rw [List.length_cons, show i + (ds.length + 1) = i + 1 + ds.length by omega]; exact h6⟩
    simp only [List.length_cons] at hl
    cases b with
    | true =>
      obtain ⟨y, ρ3, h5, h6⟩ := h3 rfl
      obtain ⟨zs, ρ4, h7, h8⟩ := next _ _ (by simp; omega) h6
      exact ⟨zs, ρ4, by simp only [lcGo, h1, h2, h5]; rw [if_pos (by omega)]; exact h7, h8⟩
    | false =>
      obtain ⟨zs, ρ4, h7, h8⟩ := next _ _ (by omega) (h4 rfl)
      exact ⟨zs, ρ4, by simp only [lcGo, h1, h2]; exact h7, h8⟩
theorem lcGo_pure {vs : List Nat} {t : D → VEnv → Option VEnv} {tt : Ev Bool} {te : Ev D} {ρ : VEnv} (p : D → Bool) (f : D → D) : ∀ (ds acc : List D), acc.length + ds.length ≤ lim → (∀ d ∈ ds, ∃ ρ1, t d ρ = some ρ1 ∧ tt ρ1 = .ok (p d) ρ1 ∧ (p d = true → te ρ1 = .ok (f d) ρ1) ∧ wipeE ρ1 vs = ρ) →
    lcGo vs t tt te ds acc ρ = .ok (acc ++ (ds.filter p).map f) ρ
  | [], acc, _, _ => by simp [lcGo]
  | d :: ds, acc, hl, h => by
    obtain ⟨ρ1, h1, h2, h3, h4⟩ := h d List.mem_cons_self
    have ih := fun acc' hl' => lcGo_pure (vs := vs) (t := t) (tt := tt) (te := te) (ρ := ρ) p f ds acc' hl' fun e he => h e (List.mem_cons_of_mem _ he)
    simp only [List.length_cons] at hl
    cases q : p d with
    | true =>
      rw [q] at h2
      simp only [lcGo, h1, h2, h3 q, h4]
      rw [if_pos (by omega), ih _ (by simp; omega)]
      simp [q]
    | false =>
      rw [q] at h2
      simp only [lcGo, h1, h2, h4]
      rw [ih _ (by omega)]
      simp [q]
@[simp] theorem lim_le_n (n : Nat) : (n ≤ lim) = (n ≤ 16000000) := id rfl
@[simp] theorem lim_lt_n (n : Nat) : (n < lim) = (n < 16000000) := id rfl
def finG (as : List Arg) : RS → Option (Res × List MO)
  | .nx ρ => (lents 0 as ρ).map fun ms => (.ok .non, ms)
  | .rt d ρ => (lents 0 as ρ).map fun ms => (.ok d, ms)
  | .rn m ρ => (lents 0 as ρ).map fun ms => (.nw m, ms)
  | .ex c ds ρ => (lents 0 as ρ).map fun ms => (.ex c ds, ms)
  | _ => none
theorem runG_fin (n : Nat) (h : VEnv → RS) (as : List Arg) : runG n h as = finG as (h (startE n as)) := by
  unfold runG
  cases h (startE n as) <;> rfl
theorem flats_strs : ∀ ns : List Str, flats (ns.map D.str) = some (ns.map V.str)
  | [] => rfl
  | n :: ns => by simp [flats, flatD, flats_strs ns]
theorem inV_strs (z : Str) : ∀ ns : List Str, inV (.str z) (ns.map V.str) = decide (z ∈ ns)
  | [] => by simp [inV]
  | n :: ns => by
    have ih := inV_strs z ns
    unfold inV at ih ⊢
    rw [List.map_cons, List.any_cons, ih]
    have e : eqV (.str n) (.str z) = decide (z = n) := by
      by_cases h : z = n
      · subst h; simp [eqV]
      · simp [eqV, h, Ne.symm h]
    rw [e]
    simp
theorem in_lst (z : Str) (ns : List Str) : inB (.str z) (.lst (ns.map D.str)) = some (decide (z ∈ ns)) := by simp only [inB, flats_strs, flatD, Option.bind_some, Option.map_some, inV_strs]
theorem strsOf_map : ∀ ns : List Str, strsOf (ns.map D.str) = some ns
  | [] => rfl
  | n :: ns => by simp [strsOf, strsOf_map ns]
theorem blsOf_map : ∀ ns : List Bool, blsOf (ns.map D.bl) = some ns
  | [] => rfl
  | n :: ns => by simp [blsOf, blsOf_map ns]
end VS
namespace K07
open PySem L2 PySem.Spec PyProof.Rows VS
theorem draw0 {n : Nat} {m : MO} {many : Int} (h : Hand (n + 1) m) (h0 : 0 < many) (h1 : many < 1000000) : ∃ m' k, Hand n m' ∧ 0 ≤ k ∧ k < many ∧ ∀ l ρ, callR g_l_draw 2 [AR.l 0, AR.v (.int many)] (some (Sl.own l m) :: ρ) = .ok (.ok (.int k)) (some (Sl.own l m') :: ρ) := by
  obtain ⟨m', k, h2, h3, h4, h5⟩ := draw_ok h h0 h1
  refine ⟨m', k, h2, h3, h4, fun l ρ => ?_⟩
  simp [callR, lentIx, resolve, h5, putBack, setM]
structure IsName (z : Str) : Prop where
  lo : 1 ≤ z.length
  hi : z.length ≤ 6
  az : ∀ c ∈ z.cps.toList, 97 ≤ c ∧ c ≤ 122
end K07
set_option maxHeartbeats 4000000
namespace K07
open PySem L2 VS
def wordsD : List D := [.str "over", .str "hearth", .str "out", .str "kindle", .str "gust", .str "spark", .str "give", .str "back", .str "here", .str "never", .str "to", .str "stores"]
def az : Str := "abcdefghijklmnopqrstuvwxyz"
theorem az_cps : az.cps.toList = (List.range 26).map (97 + ·) := by decide +kernel
theorem az_len : az.length = 26 := by decide +kernel
theorem nm (z : Str) (h : (decide (1 ≤ z.length) && decide (z.length ≤ 6) && z.cps.toList.all fun c => decide (97 ≤ c) && decide (c ≤ 122)) = true) : IsName z := by
  simp only [Bool.and_eq_true, decide_eq_true_eq, List.all_eq_true] at h
  exact ⟨h.1.1, h.1.2, fun c hc => h.2 c hc⟩
theorem word_at {k : Int} (h0 : 0 ≤ k) (h1 : k < 12) : ∃ z, IsName z ∧ ixD (.lst wordsD) (.int k) = some (.str z) := by
  have : k = 0 ∨ k = 1 ∨ k = 2 ∨ k = 3 ∨ k = 4 ∨ k = 5 ∨ k = 6 ∨ k = 7 ∨ k = 8 ∨ k = 9 ∨ k = 10 ∨ k = 11 := by omega
  rcases this with rfl | rfl | rfl | rfl | rfl | rfl | rfl | rfl | rfl | rfl | rfl | rfl
  · exact ⟨"over", nm _ (by decide +kernel), rfl⟩
  · exact ⟨"hearth", nm _ (by decide +kernel), rfl⟩
  · exact ⟨"out", nm _ (by decide +kernel), rfl⟩
  · exact ⟨"kindle", nm _ (by decide +kernel), rfl⟩
  · exact ⟨"gust", nm _ (by decide +kernel), rfl⟩
  · exact ⟨"spark", nm _ (by decide +kernel), rfl⟩
  · exact ⟨"give", nm _ (by decide +kernel), rfl⟩
  · exact ⟨"back", nm _ (by decide +kernel), rfl⟩
  · exact ⟨"here", nm _ (by decide +kernel), rfl⟩
  · exact ⟨"never", nm _ (by decide +kernel), rfl⟩
  · exact ⟨"to", nm _ (by decide +kernel), rfl⟩
  · exact ⟨"stores", nm _ (by decide +kernel), rfl⟩
theorem letter_at {k : Int} (h0 : 0 ≤ k) (h1 : k < 26) : ∃ c : Nat, 97 ≤ c ∧ c ≤ 122 ∧ ixD (.str az) (.int k) = some (.str ⟨#[c]⟩) := by
  refine ⟨97 + k.toNat, by omega, by omega, ?_⟩
  have hl : az.cps.toList.length = 26 := by rw [az_cps]; simp
  have hz : az.length ≤ lim := by rw [az_len]; decide
  simp only [ixD, atI, ixN, hl, hz, if_true]
  rw [if_pos h0, if_pos (by omega), az_cps]
  simp [show k.toNat < 26 by omega]
theorem signs_az : signs az = (List.range 26).map fun i => .str ⟨#[97 + i]⟩ := by
  unfold signs
  rw [az_cps, List.map_map]
  rfl
theorem join_az (cs : List Nat) (hl : cs.length ≤ 6) : joinD "" (.lst (cs.map fun c => .str ⟨#[c]⟩)) = some (.str ⟨cs.toArray⟩) := by
  have e1 : (cs.map fun c => D.str ⟨#[c]⟩) = (cs.map fun c => (⟨#[c]⟩ : Str)).map D.str := by rw [List.map_map]; rfl
  have e2 : ∀ cs : List Nat, TL.joinL (TL.tl "") ((cs.map fun c => (⟨#[c]⟩ : Str)).map TL.tl) = cs := by
    intro cs
    induction cs with
    | nil => rfl
    | cons c r ih =>
      cases r with
      | nil => rfl
      | cons c' r => 
        show TL.tl ⟨#[c]⟩ ++ (TL.tl "" ++ TL.joinL (TL.tl "") (((c' :: r).map fun c => (⟨#[c]⟩ : Str)).map TL.tl)) = _
        rw [ih]; rfl
  have e3 : Txt.join "" (cs.map fun c => (⟨#[c]⟩ : Str)) = ⟨cs.toArray⟩ := by
    rw [TL.join_eq]
    apply str_ext
    have := TL.tl_join "" (cs.map fun c => (⟨#[c]⟩ : Str))
    rw [e2] at this
    simpa using this
  unfold joinD
  simp only [seqOf]
  rw [e1, strsOf_map]
  simp only [Option.bind_some]
  rw [e3, if_pos]
  have e4 : ∀ cs : List Nat, ((cs.map fun c => (⟨#[c]⟩ : Str)).map (·.length)).sum = cs.length := by
    intro cs
    induction cs with
    | nil => rfl
    | cons c r ih => rw [List.map_cons, List.map_cons, List.sum_cons, ih]; simp [Str.length]; omega
  rw [e4]
  have : (Str.ofString "").length = 0 := rfl
  rw [this]; omega
end K07
set_option maxHeartbeats 4000000
namespace K07
open PySem L2 VS
def w5 (w : Str) : Str := cutS w none (some 5)
def cands (w : Str) : List Str := w :: (List.range 26).map fun i => w5 w ++ ⟨#[97 + i]⟩
theorem app_cps (x y : Str) : (x ++ y).cps = x.cps ++ y.cps := rfl
theorem len_cps (x : Str) : x.length = x.cps.toList.length := by simp [Str.length]
theorem w5_cps (w : Str) : (w5 w).cps.toList = w.cps.toList.take 5 := by
  unfold w5 cutS
  simp only [HT.sIx]
  rw [List.drop_zero, len_cps]
  show List.take _ _ = _
  by_cases h : 5 ≤ w.cps.toList.length
  · simp only [show ¬ ((5 : Int) < 0) by decide, if_false]
    congr 1
    omega
  · simp only [show ¬ ((5 : Int) < 0) by decide, if_false]
    rw [List.take_of_length_le (by omega), List.take_of_length_le (by omega)]
theorem cand_name {w : Str} (h : IsName w) : ∀ z ∈ cands w, IsName z := by
  intro z hz
  rcases List.mem_cons.mp hz with e | e
  · rw [e]; exact h
  · obtain ⟨i, hi, rfl⟩ := List.mem_map.mp e
    have hi' := List.mem_range.mp hi
    have h1 := h.lo
    rw [len_cps] at h1
    have e1 : (w5 w ++ (⟨#[97 + i]⟩ : Str)).cps.toList = w.cps.toList.take 5 ++ [97 + i] := by rw [app_cps, Array.toList_append, w5_cps]
    refine ⟨?_, ?_, ?_⟩
    · rw [len_cps, e1]; simp
    · rw [len_cps, e1]; simp; omega
    · rw [e1]
      intro c hc
      rcases List.mem_append.mp hc with q | q
      · exact h.az c (List.mem_of_mem_take q)
      · have : c = 97 + i := by simpa using q
        omega
theorem nodup_sub_len {α : Type} [DecidableEq α] : ∀ {xs ys : List α}, xs.Nodup → (∀ x ∈ xs, x ∈ ys) → xs.length ≤ ys.length
  | [], ys, _, _ => Nat.zero_le _
  | x :: xs, ys, nd, h => by
    obtain ⟨n1, n2⟩ := List.nodup_cons.mp nd
    have hx := h x List.mem_cons_self
    have ih := nodup_sub_len (xs := xs) (ys := ys.erase x) n2 fun y hy => (List.mem_erase_of_ne (fun (z : y = x) => n1 (z ▸ hy))).mpr (h y (List.mem_cons_of_mem _ hy))
    have hl := List.length_erase_of_mem hx
    have hp : 0 < ys.length := List.length_pos_of_mem hx
    simp only [List.length_cons]
    omega
theorem cand_free (w : Str) (names : List Str) (hl : names.length < 26) : ∃ z r, (cands w).filter (fun z => !decide (z ∈ names)) = z :: r := by
  cases q : (cands w).filter (fun z => !decide (z ∈ names)) with
  | cons z r => exact ⟨z, r, rfl⟩
  | nil =>
    exfalso
    have all : ∀ z ∈ cands w, z ∈ names := fun z hz => by
      have := List.filter_eq_nil_iff.mp q z hz
      simpa using this
    have nd : ((List.range 26).map fun i => w5 w ++ (⟨#[97 + i]⟩ : Str)).Nodup := by
      refine List.Pairwise.map _ ?_ List.nodup_range
      intro i j hij e
      have : (w5 w ++ (⟨#[97 + i]⟩ : Str)).cps.toList = (w5 w ++ (⟨#[97 + j]⟩ : Str)).cps.toList := by rw [e]
      rw [app_cps, app_cps, Array.toList_append, Array.toList_append] at this
      have := List.append_cancel_left this
      simp at this
      exact hij this
    have := nodup_sub_len nd fun z hz => all z (List.mem_cons_of_mem _ hz)
    simp at this
    omega
theorem str_len_lim {z : Str} (h : IsName z) : z.length ≤ lim := Nat.le_trans h.hi (by decide)
abbrev callsE (m : MO) (many : Int) (names : List Str) (o5 o6 o7 : Option D) : VEnv :=
  [some (Sl.own true m), some (Sl.val (.int many)), some (Sl.val (.lst wordsD)), some (Sl.val (.str az)), some (Sl.own false (.lst (names.map D.str))), o5.map Sl.val, o6.map Sl.val, o7.map Sl.val, none, none, none]
theorem letters_ok {n : Nat} {m : MO} {many i : Int} {names : List Str} {o7 : Option D} {w0 : D} (k : Nat) (hk : k ≤ 6) (h : Hand (n + k) m) :
    ∃ (m' : MO) (cs : List Nat), Hand n m' ∧ cs.length = k ∧ (∀ c ∈ cs, 97 ≤ c ∧ c ≤ 122) ∧ lcGo [8] (setV 8) mYes (mOp ixD (mVar 3) (mVal (mRes g_l_draw 2 [] (mCL 0 (mCV (mC (.int 26)) mCN))))) (upFrom 0 k) [] (callsE m many names (some (.int i)) (some w0) o7) =
      .ok (cs.map fun c => .str ⟨#[c]⟩) (callsE m' many names (some (.int i)) (some w0) o7) := by
  obtain ⟨zs, ρ', h1, m', cs, h2, h3, h4, h5, h6⟩ := lcGo_inv (vs := [8]) (t := setV 8) (tt := mYes) (te := mOp ixD (mVar 3) (mVal (mRes g_l_draw 2 [] (mCL 0 (mCV (mC (.int 26)) mCN)))))
    (fun j acc ρ => ∃ (m' : MO) (cs : List Nat), Hand (n + (k - j)) m' ∧ cs.length = j ∧ (∀ c ∈ cs, 97 ≤ c ∧ c ≤ 122) ∧ acc = cs.map (fun c => D.str ⟨#[c]⟩) ∧ ρ = callsE m' many names (some (.int i)) (some w0) o7) (upFrom 0 k) 0 [] (callsE m many names (some (.int i)) (some w0) o7)
    (by rw [upFrom_length]; simp; exact Nat.le_trans hk (by decide)) ⟨m, [], h, rfl, by simp, rfl, rfl⟩ (by
      rintro j d acc ρ - hd ⟨m1, cs, a1, a2, a3, rfl, rfl⟩
      have hj : j < k := by have := (List.getElem?_eq_some_iff.mp hd).1; rw [upFrom_length] at this; omega
      obtain ⟨m2, c, b1, b2, b3, b4⟩ := draw0 (n := n + (k - (j + 1))) (m := m1) (many := 26) (a1.mono (by omega)) (by decide) (by decide)
      obtain ⟨c', c1, c2, c3⟩ := letter_at b2 b3
      refine ⟨_, _, true, by simp [callsE]; rfl, rfl, fun _ => ⟨.str ⟨#[c']⟩, _, by simp [callsE, b4, c3]; rfl, m2, cs ++ [c'], b1, by simp [a2], ?_, by simp, ?_⟩, fun z => nomatch z⟩
      · intro x hx
        rcases List.mem_append.mp hx with q | q
        · exact a3 x q
        · have : x = c' := by simpa using q
          omega
      · simp [callsE, wipeE])
  rw [upFrom_length] at h2 h3
  refine ⟨m', cs, h2.mono (by omega), by omega, h4, ?_⟩
  rw [h1, h5, h6]
end K07
set_option maxHeartbeats 4000000
namespace K07
open PySem L2 VS
theorem cands_lc {m : MO} {many j : Int} {names : List Str} {o7 : Option D} {w : Str} (hw : IsName w) :
    lcGo [9] (setV 9) mYes (mOp addD (mSlice (mVar 6) mNoPart (mPart (mC (.int 5)))) (mVar 9)) (signs az) [] (callsE m many names (some (.int j)) (some (.str w)) o7) =
      .ok (((List.range 26).map fun i => w5 w ++ (⟨#[97 + i]⟩ : Str)).map D.str) (callsE m many names (some (.int j)) (some (.str w)) o7) := by
  rw [signs_az]
  have h5 : (w5 w).length ≤ 5 := by rw [len_cps, w5_cps]; simp; omega
  rw [lcGo_pure (fun _ => true) (fun d => match d with
    | .str x => .str (w5 w ++ x)
    | d => d) _ [] (by simp) ?_]
  · rw [List.nil_append, List.filter_eq_self.mpr (fun _ _ => rfl), List.map_map, List.map_map]
    rfl
  · intro d hd
    obtain ⟨i, hi, rfl⟩ := List.mem_map.mp hd
    refine ⟨_, by simp [callsE]; rfl, rfl, fun _ => ?_, by simp [callsE, wipeE]⟩
    have hwl := str_len_lim hw
    have hs : slD (.str w) none (some 5) = some (.str (w5 w)) := by simp only [slD, hwl, if_true, w5]
    have hl : (w5 w).length + (⟨#[97 + i]⟩ : Str).length ≤ 16000000 := by
      have : (⟨#[97 + i]⟩ : Str).length = 1 := rfl
      rw [this]
      omega
    simp [callsE, hs, addD, hl]
theorem tail_ok {m : MO} {many j : Int} {names : List Str} {o7 : Option D} {w : Str} (hw : IsName w) (hl : names.length < 26) :
    ∃ z d7, z ∈ cands w ∧ z ∉ names ∧ (mSeq (mAsg (mOp addD (mLst (mCons (mVar 6) mNil)) (mLc (mSeqOf (mVar 3)) [9] (setV 9) mYes (mOp addD (mSlice (mVar 6) mNoPart (mPart (mC (.int 5)))) (mVar 9)))) (setV 7))
      (mAppend 4 (mOp ixD (mLc (mSeqOf (mVar 7)) [10] (setV 10) (mTest (mOp notInD (mVar 10) (mOwn 4))) (mVar 10)) (mC (.int 0))))) (callsE m many names (some (.int j)) (some (.str w)) o7) =
      .nx (callsE m many (names ++ [z]) (some (.int j)) (some (.str w)) (some d7)) := by
  obtain ⟨z, r, hf⟩ := cand_free w names hl
  have hz : z ∈ (cands w).filter (fun z => !decide (z ∈ names)) := by rw [hf]; exact List.mem_cons_self
  obtain ⟨hz1, hz2⟩ := List.mem_filter.mp hz
  refine ⟨z, .lst ((cands w).map D.str), hz1, by simpa using hz2, ?_⟩
  have c1 := cands_lc (m := m) (many := many) (j := j) (names := names) (o7 := o7) hw
  have c2 : lcGo [10] (setV 10) (mTest (mOp notInD (mVar 10) (mOwn 4))) (mVar 10) ((cands w).map D.str) [] (callsE m many names (some (.int j)) (some (.str w)) (some (.lst ((cands w).map D.str)))) =
      .ok (((cands w).filter fun z => !decide (z ∈ names)).map D.str) (callsE m many names (some (.int j)) (some (.str w)) (some (.lst ((cands w).map D.str)))) := by
    rw [lcGo_pure (fun d => match d with
      | .str x => !decide (x ∈ names)
      | _ => true) id _ [] (by simp [cands]) ?_]
    · rw [List.nil_append, List.map_id, List.filter_map]
      rfl
    · intro d hd
      obtain ⟨x, hx, rfl⟩ := List.mem_map.mp hd
      refine ⟨_, by simp [callsE]; rfl, ?_, fun _ => by simp [callsE], by simp [callsE, wipeE]⟩
      simp [callsE, notInD, MO.frz, in_lst]
  simp only [callsE, List.map_cons, Option.map_some] at c1 c2
  have hl2 : names.length < 16000000 := Nat.lt_trans hl (by decide)
  have e1 : addD (.lst [.str w]) (.lst (((List.range 26).map fun i => w5 w ++ (⟨#[97 + i]⟩ : Str)).map D.str)) = some (.lst ((cands w).map D.str)) := by
    simp only [addD]
    rw [if_pos (by simp)]
    rfl
  have e2 : ixD (.lst (((cands w).filter fun z => !decide (z ∈ names)).map D.str)) (.int 0) = some (.str z) := by
    rw [hf]
    simp [ixD, atI, ixN]
  have e3 : (cleared (callsE m many names (some (.int j)) (some (.str w)) o7) [9]) = true := rfl
  simp [-List.map_map, callsE, seqOf, cleared, wipeE, restoreE, c1, e1, c2, e2, hl2]
end K07
set_option maxHeartbeats 4000000
namespace K07
open PySem L2 VS
theorem range1 {n : Nat} (h : n ≤ 1000000) : range1D (.int n) = some (upFrom 0 n) := by
  have : small (n : Int) = true := by unfold small; simp; omega
  simp [range1D, this]
theorem upFrom_get {n j : Nat} {d : D} (h : (upFrom 0 n)[j]? = some d) : j < n ∧ d = .int (j : Int) := by
  have hj : j < n := by have := (List.getElem?_eq_some_iff.mp h).1; rw [upFrom_length] at this; exact this
  refine ⟨hj, ?_⟩
  unfold upFrom at h
  rw [List.getElem?_map, List.getElem?_range hj] at h
  simpa using h.symm
theorem calls_step {n : Nat} {m : MO} {many : Int} {names : List Str} {o5 o6 o7 : Option D} {j : Nat} (h : Hand (n + 9) m) (hl : names.length < 26) (hd : names.Nodup) (hn : ∀ z ∈ names, IsName z) :
    ∃ ρ1 m' z o6' o7', setV 5 (.int j) (callsE m many names o5 o6 o7) = some ρ1 ∧ Hand n m' ∧ IsName z ∧ z ∉ names ∧
      (mSeq (mAsg (mOp ixD (mVar 2) (mVal (mRes g_l_draw 2 [] (mCL 0 (mCV (mC (.int 12)) mCN))))) (setV 6))
    (mSeq (mIfS (mTest (mOp gtD (mVal (mRes g_l_draw 2 [] (mCL 0 (mCV (mC (.int 3)) mCN)))) (mC (.int 0)))) (mAsg (mCall1 (joinD "") (mLc (mRange1 (mOp addD (mC (.int 1)) (mVal (mRes g_l_draw 2 [] (mCL 0 (mCV (mC (.int 6)) mCN)))))) [8] (setV 8) mYes (mOp ixD (mVar 3) (mVal (mRes g_l_draw 2 [] (mCL 0 (mCV (mC (.int 26)) mCN))))))) (setV 6)) mNext)
    (mSeq (mAsg (mOp addD (mLst (mCons (mVar 6) mNil)) (mLc (mSeqOf (mVar 3)) [9] (setV 9) mYes (mOp addD (mSlice (mVar 6) mNoPart (mPart (mC (.int 5)))) (mVar 9)))) (setV 7))
    (mAppend 4 (mOp ixD (mLc (mSeqOf (mVar 7)) [10] (setV 10) (mTest (mOp notInD (mVar 10) (mOwn 4))) (mVar 10)) (mC (.int 0))))))) ρ1 = .nx (callsE m' many (names ++ [z]) (some (.int j)) o6' o7') := by
  obtain ⟨m1, k1, a1, a2, a3, a4⟩ := draw0 (n := n + 8) (m := m) (many := 12) h (by decide) (by decide)
  obtain ⟨w0, b1, b2⟩ := word_at a2 a3
  obtain ⟨m2, k2, c1, c2, c3, c4⟩ := draw0 (n := n + 7) (m := m1) (many := 3) a1 (by decide) (by decide)
  have fin : ∀ m' w, Hand n m' → IsName w → ∃ z d7, IsName z ∧ z ∉ names ∧ (mSeq (mAsg (mOp addD (mLst (mCons (mVar 6) mNil)) (mLc (mSeqOf (mVar 3)) [9] (setV 9) mYes (mOp addD (mSlice (mVar 6) mNoPart (mPart (mC (.int 5)))) (mVar 9)))) (setV 7))
      (mAppend 4 (mOp ixD (mLc (mSeqOf (mVar 7)) [10] (setV 10) (mTest (mOp notInD (mVar 10) (mOwn 4))) (mVar 10)) (mC (.int 0))))) (callsE m' many names (some (.int j)) (some (.str w)) o7) = .nx (callsE m' many (names ++ [z]) (some (.int j)) (some (.str w)) (some d7)) := fun m' w hm hw => by
    obtain ⟨z, d7, e1, e2, e3⟩ := tail_ok (m := m') (many := many) (j := j) (names := names) (o7 := o7) hw hl
    exact ⟨z, d7, cand_name hw z e1, e2, e3⟩
  by_cases hk : 0 < k2
  · obtain ⟨m3, k3, d1, d2, d3, d4⟩ := draw0 (n := n + 6) (m := m2) (many := 6) c1 (by decide) (by decide)
    obtain ⟨q, rfl⟩ : ∃ q : Nat, k3 = (q : Int) := ⟨k3.toNat, by omega⟩
    obtain ⟨m4, cs, f1, f2, f3, f4⟩ := letters_ok (n := n) (m := m3) (many := many) (i := j) (names := names) (o7 := o7) (w0 := .str w0) (1 + q) (by omega) (d1.mono (by omega))
    have hw : IsName ⟨cs.toArray⟩ := ⟨by simp [Str.length]; omega, by simp [Str.length]; omega, by simpa using f3⟩
    obtain ⟨z, d7, g1, g2, g3⟩ := fin m4 _ f1 hw
    have e1 := join_az cs (by omega)
    have e2 : addD (.int 1) (.int q) = some (.int (1 + (q : Int))) := rfl
    have e3 : range1D (.int (1 + (q : Int))) = some (upFrom 0 (1 + q)) := by
      have := range1 (n := 1 + q) (by omega)
      rwa [Int.natCast_add] at this
    have e4 : gtD (.int k2) (.int 0) = some (.bl true) := by simp [gtD, hk]
    refine ⟨_, m4, z, some (.str ⟨cs.toArray⟩), some d7, by simp [callsE]; rfl, f1, g1, g2, ?_⟩
    have s0 : (mVal (mRes g_l_draw 2 [] (mCL 0 (mCV (mC (.int 6)) mCN)))) (callsE m2 many names (some (.int j)) (some (.str w0)) o7) = .ok (.int q) (callsE m3 many names (some (.int j)) (some (.str w0)) o7) := by
      simp [callsE, d4]
    have s1 : (mRange1 (mOp addD (mC (.int 1)) (mVal (mRes g_l_draw 2 [] (mCL 0 (mCV (mC (.int 6)) mCN)))))) (callsE m2 many names (some (.int j)) (some (.str w0)) o7) = .ok (upFrom 0 (1 + q)) (callsE m3 many names (some (.int j)) (some (.str w0)) o7) := by
      rw [a_mRange1, a_mOp, a_mC, R.bind_ok, s0, R.bind_ok, e2, R.of_some, R.bind_ok, e3, R.of_some]
    have s2 : (mLc (mRange1 (mOp addD (mC (.int 1)) (mVal (mRes g_l_draw 2 [] (mCL 0 (mCV (mC (.int 6)) mCN)))))) [8] (setV 8) mYes (mOp ixD (mVar 3) (mVal (mRes g_l_draw 2 [] (mCL 0 (mCV (mC (.int 26)) mCN)))))) (callsE m2 many names (some (.int j)) (some (.str w0)) o7) = .ok (.lst (cs.map fun c => .str ⟨#[c]⟩)) (callsE m4 many names (some (.int j)) (some (.str w0)) o7) := by
      rw [a_mLc, a_mLcL, s1, R.bind_ok, if_pos (by rfl), show wipeE (callsE m3 many names (some (.int j)) (some (.str w0)) o7) [8] = callsE m3 many names (some (.int j)) (some (.str w0)) o7 from rfl, f4]
      rfl
    have s3 : (mIfS (mTest (mOp gtD (mVal (mRes g_l_draw 2 [] (mCL 0 (mCV (mC (.int 3)) mCN)))) (mC (.int 0)))) (mAsg (mCall1 (joinD "") (mLc (mRange1 (mOp addD (mC (.int 1)) (mVal (mRes g_l_draw 2 [] (mCL 0 (mCV (mC (.int 6)) mCN)))))) [8] (setV 8) mYes (mOp ixD (mVar 3) (mVal (mRes g_l_draw 2 [] (mCL 0 (mCV (mC (.int 26)) mCN))))))) (setV 6)) mNext) (callsE m1 many names (some (.int j)) (some (.str w0)) o7) = .nx (callsE m4 many names (some (.int j)) (some (.str ⟨cs.toArray⟩)) o7) := by
      have s4 : (mVal (mRes g_l_draw 2 [] (mCL 0 (mCV (mC (.int 3)) mCN)))) (callsE m1 many names (some (.int j)) (some (.str w0)) o7) = .ok (.int k2) (callsE m2 many names (some (.int j)) (some (.str w0)) o7) := by
        simp [callsE, c4]
      rw [a_mIfS, a_mTest, a_mOp, s4, R.bind_ok, a_mC, R.bind_ok, e4, R.of_some, R.bind_ok, a_asB, R.thenB_ok, if_pos rfl, a_mAsg, a_mCall1, s2, R.bind_ok, e1, R.of_some, R.thenS_ok]
      rfl
    rw [a_mSeq]
    simp only [callsE, Option.map_some] at s3 g3
    simp [-a_mSeq, -List.map_append, callsE, a4, b2]
    rw [a_mSeq, s3]
    exact g3
  · have e4 : gtD (.int k2) (.int 0) = some (.bl false) := by simp [gtD, hk]
    obtain ⟨z, d7, g1, g2, g3⟩ := fin m2 w0 (c1.mono (by omega)) b1
    refine ⟨_, m2, z, some (.str w0), some d7, by simp [callsE]; rfl, c1.mono (by omega), g1, g2, ?_⟩
    simp only [callsE, Option.map_some] at g3
    rw [a_mSeq]
    simp [-a_mSeq, -List.map_append, callsE, a4, b2]
    rw [a_mSeq]
    simp [-a_mSeq, -List.map_append, callsE, c4, e4]
    exact g3
end K07
set_option maxHeartbeats 4000000
namespace K07
open PySem L2 VS
theorem for_range {g : Ev D} {t : D → VEnv → Option VEnv} {body : VEnv → RS} {ρ ρ' : VEnv} {n : Nat} (hg : g ρ = .ok (.int n) ρ') (h : n ≤ 1000000) : mFor (mRange1 g) t body ρ = forGo t body (upFrom 0 n) ρ' := by
  rw [a_mFor, a_mRange1, hg, R.bind_ok, range1 h, R.of_some, thenL_ok]
theorem seq_nx {h k : VEnv → RS} {ρ ρ' : VEnv} (e : h ρ = .nx ρ') : mSeq h k ρ = k ρ' := by rw [a_mSeq, e]
theorem calls_ok {n : Nat} {m : MO} {many : Nat} (hm : many ≤ 17) (h : Hand (n + 9 * many) m) : ∃ (m' : MO) (names : List Str), Hand n m' ∧ names.length = many ∧ names.Nodup ∧ (∀ z ∈ names, IsName z) ∧
    g_l_calls [.l m, .v (.int many)] = some (.nw (.lst (names.map D.str)), [m']) := by
  obtain ⟨ρ', h1, m', names, o5, o6, o7, a1, a2, a3, a4, rfl⟩ := forGo_inv0 (t := setV 5) (body := _) (fun j ρ => ∃ (m' : MO) (names : List Str) (o5 o6 o7 : Option D), Hand (n + 9 * (many - j)) m' ∧ names.length = j ∧ names.Nodup ∧ (∀ z ∈ names, IsName z) ∧ ρ = callsE m' many names o5 o6 o7)
    (upFrom 0 many) (callsE m many [] none none none) ⟨m, [], none, none, none, h, rfl, .nil, by simp, rfl⟩ (by
      rintro j d ρ hd ⟨m1, names, o5, o6, o7, b1, b2, b3, b4, rfl⟩
      obtain ⟨hj, rfl⟩ := upFrom_get hd
      obtain ⟨ρ1, m2, z, o6', o7', c1, c2, c3, c4, c5⟩ := calls_step (n := n + 9 * (many - (j + 1))) (m := m1) (many := many) (o5 := o5) (o6 := o6) (o7 := o7) (j := j) (b1.mono (by omega)) (by omega) b3 b4
      refine ⟨ρ1, _, c1, .inl c5, m2, names ++ [z], _, _, _, c2, by simp [b2], ?_, ?_, rfl⟩
      · exact List.nodup_append.mpr ⟨b3, by simp, fun a ha b hb e => by
          obtain rfl : b = z := by simpa using hb
          exact c4 (e ▸ ha)⟩
      · intro y hy
        rcases List.mem_append.mp hy with q | q
        · exact b4 y q
        · have : y = z := by simpa using q
          rw [this]; exact c3)
  rw [upFrom_length] at a1 a2
  refine ⟨m', names, a1.mono (by omega), a2, a3, a4, ?_⟩
  rw [g_l_calls, runG_fin, h_l_calls]
  have s1 : ∀ k, mSeq (mAsg (mLst (mCons (mC (.str "over")) (mCons (mC (.str "hearth")) (mCons (mC (.str "out")) (mCons (mC (.str "kindle")) (mCons (mC (.str "gust")) (mCons (mC (.str "spark")) (mCons (mC (.str "give")) (mCons (mC (.str "back")) (mCons (mC (.str "here")) (mCons (mC (.str "never")) (mCons (mC (.str "to")) (mCons (mC (.str "stores")) mNil))))))))))))) (setV 2)) k (startE 11 [.l m, .v (.int many)]) = k [some (Sl.own true m), some (Sl.val (.int many)), some (Sl.val (.lst wordsD)), none, none, none, none, none, none, none, none] := fun k => seq_nx (by simp [startE, slotOf, wordsD])
  have s2 : ∀ k, mSeq (mParEF 3 4 (mC (.str "abcdefghijklmnopqrstuvwxyz")) (mLstO mNil)) k [some (Sl.own true m), some (Sl.val (.int many)), some (Sl.val (.lst wordsD)), none, none, none, none, none, none, none, none] = k (callsE m many [] none none none) := fun k => seq_nx (by simp [callsE, az])
  rw [s1, s2, a_mSeq, for_range (g := mVar 1) (ρ' := callsE m many [] none none none) (n := many) rfl (by omega), h1]
  simp [finG, lents, callsE]
end K07
set_option maxHeartbeats 4000000
namespace K07
open PySem L2 VS
theorem hand_ok (z : Int) : ∃ m, Hand 1000000 m ∧ g_l_hand [.v (.int z)] = some (.nw m, []) := by
  have p18 : powD (.int 10) (.int 18) = some (.int 1000000000000000000) := by simp [powD]
  have b0 := Int.emod_nonneg z (show (1000000087 : Int) ≠ 0 by decide)
  have b1 := Int.emod_lt_of_pos z (show (0 : Int) < 1000000087 by decide)
  have e1 : modD (.int z) (.int 1000000087) = some (.int (z % 1000000087)) := by simp [modD]
  have e2 : mulE (.int (z % 1000000087)) (.int 7013) = some (.int (z % 1000000087 * 7013)) := by
    simp only [mulE, mulD]
    rw [if_pos ⟨by unfold big; omega, by unfold big; decide⟩]
  have e3 : addD (.int (z % 1000000087 * 7013)) (.int 4007) = some (.int (z % 1000000087 * 7013 + 4007)) := rfl
  have h1 : ltD (.int z) (.int 0) = some (.bl (decide (z < 0))) := rfl
  have h2 : geD (.int z) (.int 1000000000000000000) = some (.bl (decide (1000000000000000000 ≤ z))) := rfl
  have h3 : absD (.int z) = some (.int (if z < 0 then -z else z)) := rfl
  have fin : ∀ a : Int, Hand 1000000 (.lst [.int a, .int (z % 1000000087 * 7013 + 4007), .int 0]) := fun a => ⟨_, _, _, rfl, by decide, by decide⟩
  by_cases c1 : z < 0
  · refine ⟨.lst [.int (if z < 0 then -z else z), .int (z % 1000000087 * 7013 + 4007), .int 0], fin _, ?_⟩
    rw [g_l_hand, runG_fin, h_l_hand]
    simp [startE, slotOf, finG, lents, p18, e1, e2, e3, h1, h2, h3, c1]
  · by_cases c2 : 1000000000000000000 ≤ z
    · refine ⟨.lst [.int (if z < 0 then -z else z), .int (z % 1000000087 * 7013 + 4007), .int 0], fin _, ?_⟩
      rw [g_l_hand, runG_fin, h_l_hand]
      simp [startE, slotOf, finG, lents, p18, e1, e2, e3, h1, h2, h3, c1, c2]
    · refine ⟨.lst [.int 0, .int (z % 1000000087 * 7013 + 4007), .int 0], fin _, ?_⟩
      rw [g_l_hand, runG_fin, h_l_hand]
      simp [startE, slotOf, finG, lents, p18, e1, e2, e3, h1, h2, h3, c1, c2]
end K07
set_option maxHeartbeats 4000000
namespace K07
open PySem L2 VS
theorem ixN_lt {n : Nat} {k : Int} (h0 : 0 ≤ k) (h1 : k < n) : ixN n k = some k.toNat := by unfold ixN; rw [if_pos h0, if_pos h1]
end K07
namespace K07
open PySem L2 VS
theorem cell_ok (ns : List Int) (k : Nat) (hk : k ≤ 1000) : ∃ z : Int, g_l_cell [.v (.frl (ns.map D.int)), .v (.int k)] = some (.ok (.int z), []) := by
  have e1 : ltD (.int (k : Int)) (.int (ns.length : Int)) = some (.bl (decide ((k : Int) < ns.length))) := rfl
  by_cases c : k < ns.length
  · refine ⟨ns[k], ?_⟩
    have e2 : ixD (.frl (ns.map D.int)) (.int (k : Int)) = some (.int ns[k]) := by
      simp only [ixD, atI]
      rw [ixN_lt (by omega) (by rw [List.length_map]; omega)]
      simp [c]
    have e3 : lenD (.frl (ns.map D.int)) = some (.int (ns.length : Int)) := by simp [lenD]
    rw [g_l_cell, runG_fin, h_l_cell, a_mSeq]
    simp [-a_mSeq, startE, slotOf, e3, e1, c, e2, finG, lents]
  · have e3 : lenD (.frl (ns.map D.int)) = some (.int (ns.length : Int)) := by simp [lenD]
    let z0 : Int := 60037 * ((k : Int) * k + 7 * k + 5) % 1000000087
    have hkk : (k : Int) * k ≤ 1000 * 1000 := by
      have : k * k ≤ 1000 * 1000 := Nat.mul_le_mul hk hk
      exact_mod_cast this
    have hk0 : (0 : Int) ≤ (k : Int) * k := by exact_mod_cast Nat.zero_le (k * k)
    have m1 : mulE (.int (k : Int)) (.int (k : Int)) = some (.int ((k : Int) * k)) := by
      simp only [mulE, mulD]; rw [if_pos ⟨by unfold big; omega, by unfold big; omega⟩]
    have m2 : mulE (.int 7) (.int (k : Int)) = some (.int (7 * k)) := by
      simp only [mulE, mulD]; rw [if_pos ⟨by unfold big; decide, by unfold big; omega⟩]
    have m3 : mulE (.int 60037) (.int ((k : Int) * k + 7 * k + 5)) = some (.int (60037 * ((k : Int) * k + 7 * k + 5))) := by
      simp only [mulE, mulD]; rw [if_pos ⟨by unfold big; decide, by unfold big; omega⟩]
    have a1 : ∀ x y : Int, addD (.int x) (.int y) = some (.int (x + y)) := fun _ _ => rfl
    have d1 : ∀ x : Int, modD (.int x) (.int 1000000087) = some (.int (x % 1000000087)) := fun x => by simp [modD]
    let E : Int → Option D → VEnv := fun z o => [some (Sl.val (.frl (ns.map D.int))), some (Sl.val (.int k)), some (Sl.val (.int z)), o.map Sl.val]
    have sl : slD (.frl (ns.map D.int)) none (some 4) = some (.lst ((ns.take 4).map D.int)) := by
      simp only [slD, cutD, HT.sIx]
      rw [List.drop_zero]
      simp only [show ¬ ((4 : Int) < 0) by decide, if_false]
      congr 2
      rw [← List.map_take]
      congr 1
      rw [List.length_map]
      have : min (Int.toNat 4) ns.length - 0 = min 4 ns.length := by simp
      rw [this]
      by_cases h4 : 4 ≤ ns.length
      · rw [Nat.min_eq_left h4]
      · rw [Nat.min_eq_right (by omega), List.take_of_length_le (Nat.le_refl _), List.take_of_length_le (by omega)]
    obtain ⟨ρ', l1, z, o, l2, l3, rfl⟩ := forGo_inv0 (t := setV 3) (body := (mAsg (mOp modD (mOp addD (mOp mulE (mVar 2) (mC (.int 30013))) (mVar 3)) (mC (.int 1000000087))) (setV 2))) (fun _ ρ => ∃ (z : Int) (o : Option D), 0 ≤ z ∧ z < 1000000087 ∧ ρ = E z o)
      ((ns.take 4).map D.int) (E z0 none) ⟨z0, none, Int.emod_nonneg _ (by decide), Int.emod_lt_of_pos _ (by decide), rfl⟩ (by
        rintro j d ρ hd ⟨z, o, b1, b2, rfl⟩
        rw [List.getElem?_map] at hd
        cases q : (ns.take 4)[j]? with
        | none => rw [q] at hd; cases hd
        | some y =>
          rw [q] at hd
          cases hd
          have m4 : mulE (.int z) (.int 30013) = some (.int (z * 30013)) := by
            simp only [mulE, mulD]; rw [if_pos ⟨by unfold big; omega, by unfold big; decide⟩]
          refine ⟨E z (some (.int y)), E ((z * 30013 + y) % 1000000087) (some (.int y)), by simp [E], .inl (by simp [E, m4, a1, d1]), _, _, Int.emod_nonneg _ (by decide), Int.emod_lt_of_pos _ (by decide), rfl⟩)
    refine ⟨z, ?_⟩
    have c' : ¬ ((k : Int) < ns.length) := by omega
    have s1 : ∀ k', mSeq (mIfS (mTest (mOp ltD (mVar 1) (mCall1 lenD (mVar 0)))) (mRet (mOp ixD (mVar 0) (mVar 1))) mNext) k' (startE 4 [.v (.frl (ns.map D.int)), .v (.int k)]) = k' [some (Sl.val (.frl (ns.map D.int))), some (Sl.val (.int k)), none, none] := fun k' => seq_nx (by simp [startE, slotOf, e3, e1, c])
    have s2 : ∀ k', mSeq (mAsg (mOp modD (mOp mulE (mC (.int 60037)) (mOp addD (mOp addD (mOp mulE (mVar 1) (mVar 1)) (mOp mulE (mC (.int 7)) (mVar 1))) (mC (.int 5)))) (mC (.int 1000000087))) (setV 2)) k' [some (Sl.val (.frl (ns.map D.int))), some (Sl.val (.int k)), none, none] = k' (E z0 none) := fun k' => seq_nx (by simp [m1, m2, m3, a1, d1, E, z0])
    rw [g_l_cell, runG_fin, h_l_cell, s1, s2, a_mSeq, a_mFor, a_mSeqOf, a_mSlice]
    rw [show mVar 0 (E z0 none) = .ok (.frl (ns.map D.int)) (E z0 none) by simp [E], R.bind_ok, a_mNoPart, R.bind_ok, a_mPart, a_mC, R.bind_ok, R.bind_ok, sl, R.of_some, R.bind_ok, show seqOf (.lst ((ns.take 4).map D.int)) = some ((ns.take 4).map D.int) from rfl, R.of_some, thenL_ok, l1]
    simp [E, finG, lents]
end K07
set_option maxHeartbeats 2000000
namespace VS
open PySem L2
abbrev EX := Nat → List D → VEnv → Prop
structure Tag {α : Sort u} (a : α) : Type where
  n : Nat
def wR {α : Type} (r : R α) (Q : α → VEnv → Prop) (E : EX) (_ : Tag Q := ⟨0⟩) (_ : Tag E := ⟨0⟩) : Prop := match r with
  | .ok a ρ => Q a ρ
  | .ex c ds ρ => E c ds ρ
  | .stuck => False
def wO {α : Type} (o : Option α) (Q : α → Prop) (_ : Tag Q := ⟨0⟩) : Prop := match o with
  | some a => Q a
  | none => False
def wS (r : RS) (N : VEnv → Prop) (Z : RS → Prop) (_ : Tag N := ⟨0⟩) (_ : Tag Z := ⟨0⟩) : Prop := match r with
  | .nx ρ => N ρ
  | .stuck => False
  | r => Z r
def wB (b : Bool) (P Q : Prop) (_ : Tag P := ⟨0⟩) (_ : Tag Q := ⟨0⟩) : Prop := if b = true then P else Q
def wC (p : Prop) (K : Prop) (_ : Tag K := ⟨0⟩) : Prop := p ∧ K
def wF (o : Option (Res × List MO)) (K : Res → List MO → Prop) (_ : Tag K := ⟨0⟩) : Prop := match o with
  | some (r, ms) => K r ms
  | none => False
def wP {α β : Type} (p : α × β) (K : α → β → Prop) (_ : Tag K := ⟨0⟩) : Prop := K p.1 p.2
@[simp ↓] theorem wP_mk {α β : Type} (a : α) (b : β) (K : α → β → Prop) : wP (a, b) K = K a b := id rfl
def wSet (i : Nat) (s : Option Sl) (ρ : VEnv) (K : VEnv → Prop) (_ : Tag K := ⟨0⟩) : Prop := K (ρ.set i s)
def wWipe (ρ : VEnv) (vs : List Nat) (K : VEnv → Prop) (_ : Tag K := ⟨0⟩) : Prop := K (wipeE ρ vs)
def wRest (ρ0 ρ : VEnv) (vs : List Nat) (K : VEnv → Prop) (_ : Tag K := ⟨0⟩) : Prop := K (restoreE ρ0 ρ vs)
def wPut (ρ : VEnv) (as : List AR) (ms : List MO) (K : VEnv → Prop) (_ : Tag K := ⟨0⟩) : Prop := K (putBack ρ as ms)
def wRes (r : Res) (K : D → Prop) (_ : Tag K := ⟨0⟩) : Prop := match r with
  | .ok d => K d
  | .nw m => K m.frz
  | .ex _ _ => False
def wNew (r : Res) (K : MO → Prop) (_ : Tag K := ⟨0⟩) : Prop := match r with
  | .nw m => K m
  | _ => False
def Hide (p : Prop) (_ : Tag p := ⟨0⟩) : Prop := p
theorem hide {p : Prop} (h : p) : Hide p := h
section
variable {α β : Type} {Q : α → VEnv → Prop} {E : EX} {N : VEnv → Prop} {Z : RS → Prop} {ρ ρ' ρ0 : VEnv} {P P' : Prop}
@[simp] theorem wR_ok (a : α) : wR (.ok a ρ) Q E = Q a ρ := id rfl
@[simp] theorem wR_stuck : wR (.stuck : R α) Q E = False := id rfl
@[simp] theorem wO_some (a : α) (K : α → Prop) : wO (some a) K = K a := id rfl
@[simp] theorem wO_none (K : α → Prop) : wO none K = False := id rfl
@[simp] theorem wS_nx : wS (.nx ρ) N Z = N ρ := id rfl
@[simp] theorem wS_rt (d : D) : wS (.rt d ρ) N Z = Z (.rt d ρ) := id rfl
@[simp] theorem wS_rn (d : MO) : wS (.rn d ρ) N Z = Z (.rn d ρ) := id rfl
@[simp] theorem wS_bk : wS (.bk ρ) N Z = Z (.bk ρ) := id rfl
@[simp] theorem wS_ct : wS (.ct ρ) N Z = Z (.ct ρ) := id rfl
@[simp] theorem wS_ex (c : Nat) (ds : List D) : wS (.ex c ds ρ) N Z = Z (.ex c ds ρ) := id rfl
@[simp] theorem wS_stuck : wS .stuck N Z = False := id rfl
@[simp] theorem wB_true : wB true P P' = P := by simp [wB]
@[simp] theorem wB_false : wB false P P' = P' := by simp [wB]
@[simp] theorem wC_true : wC True P = P := by simp [wC]
@[simp] theorem wC_false : wC False P = False := by simp [wC]
@[simp] theorem wF_some (r : Res) (ms : List MO) (K : Res → List MO → Prop) : wF (some (r, ms)) K = K r ms := id rfl
@[simp] theorem wRes_ok (d : D) (K : D → Prop) : wRes (.ok d) K = K d := id rfl
@[simp] theorem wRes_nw (d : MO) (K : D → Prop) : wRes (.nw d) K = K d.frz := id rfl
@[simp] theorem wNew_nw (d : MO) (K : MO → Prop) : wNew (.nw d) K = K d := id rfl
@[simp] theorem frz_lst (xs : List D) : (MO.lst xs).frz = .lst xs := id rfl
@[simp] theorem plain_dct (xs : List (Key × D)) : (MO.dct xs).plain = true := id rfl
@[simp] theorem frz_dct (xs : List (Key × D)) : (MO.dct xs).frz = .dct xs := id rfl
theorem wR_bind {r : R β} {k : β → VEnv → R α} : wR (r.bind k) Q E = wR r (fun x ρ1 => wR (k x ρ1) Q E) E := by cases r <;> rfl
theorem wR_of {o : Option α} : wR (R.of o ρ) Q E = wO o fun a => Q a ρ := by cases o <;> rfl
theorem wS_thenS {r : R D} {k : D → VEnv → RS} : wS (r.thenS k) N Z = wR r (fun x ρ1 => wS (k x ρ1) N Z) fun c ds ρ => Z (.ex c ds ρ) := by cases r <;> rfl
theorem wS_thenB {r : R Bool} {k : Bool → VEnv → RS} : wS (r.thenB k) N Z = wR r (fun x ρ1 => wS (k x ρ1) N Z) fun c ds ρ => Z (.ex c ds ρ) := by cases r <;> rfl
theorem wS_thenM {r : R MO} {k : MO → VEnv → RS} : wS (r.thenM k) N Z = wR r (fun x ρ1 => wS (k x ρ1) N Z) fun c ds ρ => Z (.ex c ds ρ) := by cases r <;> rfl
theorem wS_thenL {r : R (List D)} {k : List D → VEnv → RS} : wS (r.thenL k) N Z = wR r (fun x ρ1 => wS (k x ρ1) N Z) fun c ds ρ => Z (.ex c ds ρ) := by cases r <;> rfl
theorem wR_ext {r : R α} {Q' : α → VEnv → Prop} (h : ∀ a ρ, Q a ρ = Q' a ρ) : wR r Q E = wR r Q' E := by
  have : Q = Q' := funext fun a => funext fun ρ => h a ρ
  subst this; rfl
theorem wO_ext {o : Option α} {K K' : α → Prop} (h : ∀ a, K a = K' a) : wO o K = wO o K' := by
  have : K = K' := funext h
  subst this; rfl
def rdV (i : Nat) (ρ : VEnv) : Option D := match ρ[i]? with
  | some (some (Sl.val d)) => some d
  | _ => none
def rdO (i : Nat) (ρ : VEnv) : Option MO := match ρ[i]? with
  | some (some (Sl.own _ m)) => some m
  | _ => none
def rdL (i : Nat) (ρ : VEnv) : Option (Bool × MO) := match ρ[i]? with
  | some (some (Sl.own l m)) => some (l, m)
  | _ => none
@[simp ↓] theorem rdV_0 (d : D) (K : D → Prop) : wO (rdV 0 (some (.val d) :: ρ)) K = K d := id rfl
@[simp ↓] theorem rdV_S (i : Nat) (x : Option Sl) (K : D → Prop) : wO (rdV (i + 1) (x :: ρ)) K = wO (rdV i ρ) K := by simp [rdV]
@[simp ↓] theorem rdO_0 (l : Bool) (d : MO) (K : MO → Prop) : wO (rdO 0 (some (.own l d) :: ρ)) K = K d := id rfl
@[simp ↓] theorem rdO_S (i : Nat) (x : Option Sl) (K : MO → Prop) : wO (rdO (i + 1) (x :: ρ)) K = wO (rdO i ρ) K := by simp [rdO]
@[simp ↓] theorem rdL_0 (l : Bool) (d : MO) (K : Bool × MO → Prop) : wO (rdL 0 (some (.own l d) :: ρ)) K = K (l, d) := id rfl
@[simp ↓] theorem rdL_S (i : Nat) (x : Option Sl) (K : Bool × MO → Prop) : wO (rdL (i + 1) (x :: ρ)) K = wO (rdL i ρ) K := by simp [rdL]
@[simp ↓] theorem wSet_0 (s x : Option Sl) (K : VEnv → Prop) : wSet 0 s (x :: ρ) K = K (s :: ρ) := id rfl
@[simp ↓] theorem wSet_S (i : Nat) (s x : Option Sl) (K : VEnv → Prop) : wSet (i + 1) s (x :: ρ) K = wSet i s ρ fun ρ' => K (x :: ρ') := id rfl
@[simp ↓] theorem wsv_S (i : Nat) (d : D) (x : Option Sl) (K : VEnv → Prop) : wO (setV (i + 1) d (x :: ρ)) K = wO (setV i d ρ) fun ρ' => K (x :: ρ') := by
  unfold setV
  rw [List.getElem?_cons_succ]
  split <;> rename_i h <;> simp [h]
@[simp ↓] theorem wsv_n (d : D) (K : VEnv → Prop) : wO (setV 0 d (none :: ρ)) K = K (some (.val d) :: ρ) := id rfl
@[simp ↓] theorem wsv_v (d e : D) (K : VEnv → Prop) : wO (setV 0 d (some (.val e) :: ρ)) K = K (some (.val d) :: ρ) := id rfl
@[simp ↓] theorem wsv_m (d : D) (o : Option D) (K : VEnv → Prop) : wO (setV 0 d (o.map Sl.val :: ρ)) K = K (some (.val d) :: ρ) := by cases o <;> rfl
@[simp ↓] theorem wso_S (i : Nat) (d : MO) (x : Option Sl) (K : VEnv → Prop) : wO (setO (i + 1) d (x :: ρ)) K = wO (setO i d ρ) fun ρ' => K (x :: ρ') := by
  unfold setO
  rw [List.getElem?_cons_succ]
  split <;> rename_i h <;> simp [h]
@[simp ↓] theorem wso_n (d : MO) (K : VEnv → Prop) : wO (setO 0 d (none :: ρ)) K = K (some (.own false d) :: ρ) := id rfl
@[simp ↓] theorem wso_M (d : MO) (o : Option MO) (K : VEnv → Prop) : wO (setO 0 d (o.map (Sl.own false) :: ρ)) K = K (some (.own false d) :: ρ) := by cases o <;> rfl
@[simp ↓] theorem wso_o (d m : MO) (K : VEnv → Prop) : wO (setO 0 d (some (.own false m) :: ρ)) K = K (some (.own false d) :: ρ) := id rfl
@[simp ↓] theorem wsm_S (i : Nat) (m : MO) (x : Option Sl) (K : VEnv → Prop) : K (setM (i + 1) m (x :: ρ)) = (fun ρ' => K (x :: ρ')) (setM i m ρ) := by
  unfold setM
  rw [List.getElem?_cons_succ]
  split <;> rename_i h <;> simp [h]
def wSM (i : Nat) (m : MO) (ρ : VEnv) (K : VEnv → Prop) (_ : Tag K := ⟨0⟩) : Prop := K (setM i m ρ)
@[simp ↓] theorem wSM_S (i : Nat) (m : MO) (x : Option Sl) (K : VEnv → Prop) : wSM (i + 1) m (x :: ρ) K = wSM i m ρ fun ρ' => K (x :: ρ') := wsm_S i m x K
@[simp ↓] theorem wSM_0 (m m0 : MO) (l : Bool) (K : VEnv → Prop) : wSM 0 m (some (.own l m0) :: ρ) K = K (some (.own l m) :: ρ) := id rfl
@[simp ↓] theorem wWipe_n (K : VEnv → Prop) : wWipe ρ [] K = K ρ := id rfl
@[simp ↓] theorem wWipe_c (v : Nat) (vs : List Nat) (K : VEnv → Prop) : wWipe ρ (v :: vs) K = wWipe ρ vs fun ρ' => wSet v none ρ' K := id rfl
def wKeep (i : Nat) (ρ : VEnv) (K : Option Sl → Prop) (_ : Tag K := ⟨0⟩) : Prop := K (match ρ[i]? with
    | some (some (Sl.val d)) => some (Sl.val d)
    | _ => none)
@[simp ↓] theorem wKeep_n (K : Option Sl → Prop) : wKeep 0 (none :: ρ) K = K none := id rfl
@[simp ↓] theorem wKeep_m (o : Option D) (K : Option Sl → Prop) : wKeep 0 (o.map Sl.val :: ρ) K = K (o.map Sl.val) := by cases o <;> rfl
@[simp ↓] theorem wKeep_S (i : Nat) (x : Option Sl) (K : Option Sl → Prop) : wKeep (i + 1) (x :: ρ) K = wKeep i ρ K := by simp [wKeep]
@[simp ↓] theorem wRest_n (K : VEnv → Prop) : wRest ρ0 ρ [] K = K ρ := id rfl
@[simp ↓] theorem wRest_c (v : Nat) (vs : List Nat) (K : VEnv → Prop) : wRest ρ0 ρ (v :: vs) K = wRest ρ0 ρ vs fun ρ' => wKeep v ρ0 fun s => wSet v s ρ' K := id rfl
@[simp ↓] theorem wPut_n (ms : List MO) (K : VEnv → Prop) : wPut ρ [] ms K = K ρ := by simp [wPut, putBack]
@[simp ↓] theorem wPut_v (d : D) (as : List AR) (ms : List MO) (K : VEnv → Prop) : wPut ρ (.v d :: as) ms K = wPut ρ as ms K := by simp [wPut, putBack]
@[simp ↓] theorem wPut_l (i : Nat) (as : List AR) (m : MO) (ms : List MO) (K : VEnv → Prop) : wPut ρ (.l i :: as) (m :: ms) K = wSM i m ρ fun ρ' => wPut ρ' as ms K := by simp [wPut, putBack, wSM]
def wClr (i : Nat) (ρ : VEnv) (P P' : Prop) (_ : Tag P := ⟨0⟩) (_ : Tag P' := ⟨0⟩) : Prop := match ρ[i]? with
  | some (some (Sl.own _ _)) => P'
  | _ => P
@[simp ↓] theorem wClr_n : wClr 0 (none :: ρ) P P' = P := id rfl
@[simp ↓] theorem wClr_v (d : D) : wClr 0 (some (.val d) :: ρ) P P' = P := id rfl
@[simp ↓] theorem wClr_m (o : Option D) : wClr 0 (o.map Sl.val :: ρ) P P' = P := by cases o <;> rfl
@[simp ↓] theorem wClr_S (i : Nat) (x : Option Sl) : wClr (i + 1) (x :: ρ) P P' = wClr i ρ P P' := by simp [wClr]
@[simp ↓] theorem wB_clr_n : wB (cleared ρ []) P P' = P := by simp [cleared]
@[simp ↓] theorem wB_clr_c (v : Nat) (vs : List Nat) : wB (cleared ρ (v :: vs)) P P' = wClr v ρ (wB (cleared ρ vs) P P') P' := by
  unfold cleared wClr
  rw [List.all_cons]
  generalize ρ[v]? = o
  rcases o with _ | (_ | (d | ⟨_ | _, m⟩)) <;> simp
@[simp ↓] theorem w_var (i : Nat) (Q : D → VEnv → Prop) : wR (mVar i ρ) Q E = wO (rdV i ρ) fun d => Q d ρ := by
  unfold mVar rdV
  generalize ρ[i]? = o
  rcases o with _ | (_ | (d | ⟨l, m⟩)) <;> rfl
@[simp ↓] theorem w_c (d : D) (Q : D → VEnv → Prop) : wR (mC d ρ) Q E = Q d ρ := id rfl
@[simp ↓] theorem w_op (f : D → D → Option D) (ga gb : Ev D) (Q : D → VEnv → Prop) : wR (mOp f ga gb ρ) Q E = wR (ga ρ) (fun x ρ1 => wR (gb ρ1) (fun y ρ2 => wO (f x y) fun z => Q z ρ2) E) E := by
  unfold mOp; rw [wR_bind]; exact wR_ext fun _ _ => by rw [wR_bind]; exact wR_ext fun _ _ => wR_of
@[simp ↓] theorem w_own (i : Nat) (Q : D → VEnv → Prop) : wR (mOwn i ρ) Q E = wO (rdO i ρ) fun m => Q m.frz ρ := by
  unfold mOwn rdO
  generalize ρ[i]? = o
  rcases o with _ | (_ | (d | ⟨l, m⟩)) <;> rfl
@[simp ↓] theorem w_opO (f : D → D → Option D) (i : Nat) (gb : Ev D) (Q : D → VEnv → Prop) : wR (mOpO f i gb ρ) Q E = wO (rdO i ρ) fun _ => wR (gb ρ) (fun y ρ2 => wO (rdO i ρ2) fun m => wO (f m.frz y) fun z => Q z ρ2) E := by
  unfold mOpO
  split
  · rename_i l m h
    have : rdO i ρ = some m := by unfold rdO; rw [h]
    rw [this, wO_some, wR_bind]
    refine wR_ext fun y ρ2 => ?_
    rw [wR_bind, w_own]
    exact wO_ext fun m => wR_of
  · rename_i h
    have : rdO i ρ = none := by
      unfold rdO
      split
      · rename_i l m q; exact absurd q (h l m)
      · rfl
    rw [this]; rfl
@[simp ↓] theorem w_test (g : Ev D) (Q : Bool → VEnv → Prop) : wR (mTest g ρ) Q E = wR (g ρ) (fun d ρ1 => wR (asB d ρ1) Q E) E := by unfold mTest; rw [wR_bind]
@[simp] theorem w_asB (b : Bool) (Q : Bool → VEnv → Prop) : wR (asB (.bl b) ρ) Q E = Q b ρ := id rfl
@[simp ↓] theorem w_truth (g : Ev D) (Q : Bool → VEnv → Prop) : wR (mTruth g ρ) Q E = wR (g ρ) (fun d ρ1 => wO (truD d) fun b => Q b ρ1) E := by unfold mTruth; rw [wR_bind]; exact wR_ext fun _ _ => wR_of
theorem wR_itp {p : Prop} [Decidable p] {r : R α} : wR (if p then r else .stuck) Q E = wC p (wR r Q E) := by
  by_cases h : p <;> simp [h]
@[simp ↓] theorem w_and (g h : Ev Bool) (Q : Bool → VEnv → Prop) : wR (mAnd g h ρ) Q E = wR (g ρ) (fun b ρ1 => wB b (wR (h ρ1) Q E) (Q false ρ1)) E := by unfold mAnd; rw [wR_bind]; exact wR_ext fun b _ => by cases b <;> rfl
@[simp ↓] theorem w_or (g h : Ev Bool) (Q : Bool → VEnv → Prop) : wR (mOr g h ρ) Q E = wR (g ρ) (fun b ρ1 => wB b (Q true ρ1) (wR (h ρ1) Q E)) E := by unfold mOr; rw [wR_bind]; exact wR_ext fun b _ => by cases b <;> rfl
@[simp ↓] theorem w_not (g : Ev Bool) (Q : Bool → VEnv → Prop) : wR (mNot g ρ) Q E = wR (g ρ) (fun b ρ1 => Q (!b) ρ1) E := by unfold mNot; rw [wR_bind]; rfl
@[simp ↓] theorem w_andV (g h : Ev D) (Q : D → VEnv → Prop) : wR (mAndV g h ρ) Q E = wR (g ρ) (fun d ρ1 => wO (truD d) fun b => wB b (wR (h ρ1) Q E) (Q d ρ1)) E := by
  unfold mAndV; rw [wR_bind]; refine wR_ext fun d ρ1 => ?_
  cases q : truD d with
  | none => rfl
  | some b => cases b <;> simp
@[simp ↓] theorem w_orV (g h : Ev D) (Q : D → VEnv → Prop) : wR (mOrV g h ρ) Q E = wR (g ρ) (fun d ρ1 => wO (truD d) fun b => wB b (Q d ρ1) (wR (h ρ1) Q E)) E := by
  unfold mOrV; rw [wR_bind]; refine wR_ext fun d ρ1 => ?_
  cases q : truD d with
  | none => rfl
  | some b => cases b <;> simp
@[simp ↓] theorem w_notV (g : Ev D) (Q : D → VEnv → Prop) : wR (mNotV g ρ) Q E = wR (g ρ) (fun d ρ1 => wO (truD d) fun b => Q (.bl (!b)) ρ1) E := by
  unfold mNotV; rw [wR_bind]; refine wR_ext fun d ρ1 => ?_
  rw [wR_of]
  cases q : truD d <;> rfl
@[simp ↓] theorem w_nil (Q : List D → VEnv → Prop) : wR (mNil ρ) Q E = Q [] ρ := id rfl
@[simp ↓] theorem w_cons (g : Ev D) (h : Ev (List D)) (Q : List D → VEnv → Prop) : wR (mCons g h ρ) Q E = wR (g ρ) (fun d ρ1 => wR (h ρ1) (fun ds ρ2 => Q (d :: ds) ρ2) E) E := by unfold mCons; rw [wR_bind]; exact wR_ext fun _ _ => by rw [wR_bind]; rfl
@[simp ↓] theorem w_tup (g : Ev (List D)) (Q : D → VEnv → Prop) : wR (mTup g ρ) Q E = wR (g ρ) (fun ds ρ1 => wC (ds.length ≤ lim) (Q (.tup ds) ρ1)) E := by unfold mTup; rw [wR_bind]; exact wR_ext fun _ _ => by rw [wR_itp]; rfl
@[simp ↓] theorem w_lst (g : Ev (List D)) (Q : D → VEnv → Prop) : wR (mLst g ρ) Q E = wR (g ρ) (fun ds ρ1 => wC (ds.length ≤ lim) (Q (.lst ds) ρ1)) E := by unfold mLst; rw [wR_bind]; exact wR_ext fun _ _ => by rw [wR_itp]; rfl
@[simp ↓] theorem w_lstO (g : Ev (List D)) (Q : MO → VEnv → Prop) : wR (mLstO g ρ) Q E = wR (g ρ) (fun ds ρ1 => wC (ds.length ≤ lim) (Q (.lst ds) ρ1)) E := by unfold mLstO; rw [wR_bind]; exact wR_ext fun _ _ => by rw [wR_itp]; rfl
@[simp ↓] theorem w_dictO (Q : MO → VEnv → Prop) : wR (mDictO ρ) Q E = Q (.dct []) ρ := id rfl
@[simp ↓] theorem w_call (f : List D → Option D) (g : Ev (List D)) (Q : D → VEnv → Prop) : wR (mCall f g ρ) Q E = wR (g ρ) (fun ds ρ1 => wO (f ds) fun z => Q z ρ1) E := by unfold mCall; rw [wR_bind]; exact wR_ext fun _ _ => wR_of
@[simp ↓] theorem w_call1 (f : D → Option D) (g : Ev D) (Q : D → VEnv → Prop) : wR (mCall1 f g ρ) Q E = wR (g ρ) (fun ds ρ1 => wO (f ds) fun z => Q z ρ1) E := by unfold mCall1; rw [wR_bind]; exact wR_ext fun _ _ => wR_of
@[simp ↓] theorem w_isi (f : D → Option Bool) (g : Ev D) (Q : D → VEnv → Prop) : wR (mIsi f g ρ) Q E = wR (g ρ) (fun d ρ1 => wO (f d) fun b => Q (.bl b) ρ1) E := by
  unfold mIsi; rw [wR_bind]; refine wR_ext fun d ρ1 => ?_
  rw [wR_of]
  cases q : f d <;> rfl
@[simp ↓] theorem w_chain (f f' : D → D → Option D) (ga gb gc : Ev D) (Q : D → VEnv → Prop) : wR (mChain f f' ga gb gc ρ) Q E =
    wR (ga ρ) (fun x ρ1 => wR (gb ρ1) (fun y ρ2 => wO (f x y) fun t => wR (asB t ρ2) (fun b ρ3 => wB b (wR (gc ρ3) (fun z ρ4 => wO (f' y z) fun u => Q u ρ4) E) (Q (.bl false) ρ3)) E) E) E := by
  unfold mChain; rw [wR_bind]; refine wR_ext fun x ρ1 => ?_
  rw [wR_bind]; refine wR_ext fun y ρ2 => ?_
  cases q : f x y with
  | none => rfl
  | some t =>
    cases t with
    | bl b =>
      cases b
      · rfl
      · simp only [wO_some, w_asB, wB_true]
        rw [wR_bind]
        exact wR_ext fun z ρ3 => wR_of
    | _ => rfl
@[simp ↓] theorem w_seqOf (g : Ev D) (Q : List D → VEnv → Prop) : wR (mSeqOf g ρ) Q E = wR (g ρ) (fun d ρ1 => wO (seqOf d) fun ds => Q ds ρ1) E := by unfold mSeqOf; rw [wR_bind]; exact wR_ext fun _ _ => wR_of
@[simp ↓] theorem w_range1 (g : Ev D) (Q : List D → VEnv → Prop) : wR (mRange1 g ρ) Q E = wR (g ρ) (fun d ρ1 => wO (range1D d) fun ds => Q ds ρ1) E := by unfold mRange1; rw [wR_bind]; exact wR_ext fun _ _ => wR_of
@[simp ↓] theorem w_range2 (g : Ev (List D)) (Q : List D → VEnv → Prop) : wR (mRange2 g ρ) Q E = wR (g ρ) (fun d ρ1 => wO (range2D d) fun ds => Q ds ρ1) E := by unfold mRange2; rw [wR_bind]; exact wR_ext fun _ _ => wR_of
@[simp ↓] theorem w_part (g : Ev D) (Q : Option Int → VEnv → Prop) : wR (mPart g ρ) Q E = wR (g ρ) (fun d ρ1 => wO (match d with
    | .int i => some i
    | _ => none) fun i => Q (some i) ρ1) E := by
  unfold mPart; rw [wR_bind]; refine wR_ext fun d ρ1 => ?_
  cases d <;> rfl
@[simp ↓] theorem w_noPart (Q : Option Int → VEnv → Prop) : wR (mNoPart ρ) Q E = Q none ρ := id rfl
@[simp ↓] theorem w_slice (g : Ev D) (lo hi : Ev (Option Int)) (Q : D → VEnv → Prop) : wR (mSlice g lo hi ρ) Q E = wR (g ρ) (fun d ρ1 => wR (lo ρ1) (fun l ρ2 => wR (hi ρ2) (fun u ρ3 => wO (slD d l u) fun z => Q z ρ3) E) E) E := by unfold mSlice; rw [wR_bind]; exact wR_ext fun _ _ => by rw [wR_bind]; exact wR_ext fun _ _ => by rw [wR_bind]; exact wR_ext fun _ _ => wR_of
@[simp ↓] theorem w_cn (Q : List AR → VEnv → Prop) : wR (mCN ρ) Q E = Q [] ρ := id rfl
@[simp ↓] theorem w_cv (g : Ev D) (h : Ev (List AR)) (Q : List AR → VEnv → Prop) : wR (mCV g h ρ) Q E = wR (g ρ) (fun d ρ1 => wR (h ρ1) (fun as ρ2 => Q (.v d :: as) ρ2) E) E := by unfold mCV; rw [wR_bind]; exact wR_ext fun _ _ => by rw [wR_bind]; rfl
@[simp ↓] theorem w_cl (i : Nat) (h : Ev (List AR)) (Q : List AR → VEnv → Prop) : wR (mCL i h ρ) Q E = wO (rdO i ρ) fun _ => wR (h ρ) (fun as ρ2 => Q (.l i :: as) ρ2) E := by
  unfold mCL rdO
  generalize ρ[i]? = o
  rcases o with _ | (_ | (d | ⟨l, m⟩))
  · rfl
  · rfl
  · rfl
  · rw [wO_some, wR_bind]; rfl
def wEnd (r : Res) (Q : Res → VEnv → Prop) (E : EX) (ρ : VEnv) : Prop := match r with
  | .ex c ds => E c ds ρ
  | r => Q r ρ
@[simp ↓] theorem wEnd_ok (d : D) (Q : Res → VEnv → Prop) : wEnd (.ok d) Q E ρ = Q (.ok d) ρ := id rfl
@[simp ↓] theorem wEnd_nw (d : MO) (Q : Res → VEnv → Prop) : wEnd (.nw d) Q E ρ = Q (.nw d) ρ := id rfl
@[simp ↓] theorem wEnd_ex (c : Nat) (d : List D) (Q : Res → VEnv → Prop) : wEnd (.ex c d) Q E ρ = E c d ρ := id rfl
def wCall (G : Fn) (n : Nat) (ars : List AR) (ρ : VEnv) (Q : Res → VEnv → Prop) (E : EX) : Prop := wC ((lentIx ars).Nodup ∧ ars.length = n) (wO (resolve ρ ars) fun as => wF (G as) fun r ms => wPut ρ ars ms fun ρ' => wEnd r Q E ρ')
@[simp ↓] theorem wCall_ (G : Fn) (n : Nat) (ars : List AR) (Q : Res → VEnv → Prop) : wCall G n ars ρ Q E = wC ((lentIx ars).Nodup ∧ ars.length = n) (wO (resolve ρ ars) fun as => wF (G as) fun r ms => wPut ρ ars ms fun ρ' => wEnd r Q E ρ') := id rfl
@[simp] theorem lentIx_n : lentIx [] = [] := id rfl
@[simp] theorem lentIx_v (d : D) (as : List AR) : lentIx (.v d :: as) = lentIx as := id rfl
@[simp] theorem lentIx_l (i : Nat) (as : List AR) : lentIx (.l i :: as) = i :: lentIx as := id rfl
theorem w_callR (G : Fn) (n : Nat) (ars : List AR) (Q : Res → VEnv → Prop) : wR (callR G n ars ρ) Q E = wCall G n ars ρ Q E := by
  unfold callR wCall
  by_cases h : (lentIx ars).Nodup ∧ ars.length = n
  · rw [if_pos h]
    simp only [h, and_self, wC_true]
    cases resolve ρ ars with
    | none => rfl
    | some as =>
      simp only [wO_some]
      cases G as with
      | none => rfl
      | some p => obtain ⟨r, ms⟩ := p; cases r <;> rfl
  · rw [if_neg h]; simp [h]
@[simp ↓] theorem w_res (G : Fn) (n : Nat) (dd : List D) (g : Ev (List AR)) (Q : Res → VEnv → Prop) : wR (mRes G n dd g ρ) Q E = wR (g ρ) (fun ars ρ1 => wCall G n (ars ++ dd.map AR.v) ρ1 Q E) E := by unfold mRes; rw [wR_bind]; exact wR_ext fun _ _ => by rw [w_callR]
@[simp ↓ high] theorem w_res0 (G : Fn) (n : Nat) (g : Ev (List AR)) (Q : Res → VEnv → Prop) : wR (mRes G n [] g ρ) Q E = wR (g ρ) (fun ars ρ1 => wCall G n ars ρ1 Q E) E := by rw [w_res]; exact wR_ext fun _ _ => by rw [List.map_nil, List.append_nil]
@[simp ↓] theorem wPut_map (ds : List D) (ms : List MO) (K : VEnv → Prop) : wPut ρ (ds.map AR.v) ms K = K ρ := by
  induction ds with
  | nil => exact wPut_n ms K
  | cons d ds ih => rw [List.map_cons, wPut_v]; exact ih
@[simp ↓] theorem w_resK (G : Fn) (n kn : Nat) (idx : List Nat) (g : Ev (List D)) (Q : Res → VEnv → Prop) : wR (mResK G n kn idx g ρ) Q E = wR (g ρ) (fun ds ρ1 => wC (ds.length = kn) (wCall G n ((permL idx ds).map AR.v) ρ1 Q E)) E := by unfold mResK; rw [wR_bind]; exact wR_ext fun _ _ => by rw [wR_itp, w_callR]
@[simp ↓] theorem w_val (g : Ev Res) (Q : D → VEnv → Prop) : wR (mVal g ρ) Q E = wR (g ρ) (fun r ρ1 => wRes r fun d => Q d ρ1) E := by
  unfold mVal; rw [wR_bind]; refine wR_ext fun r ρ1 => ?_
  cases r <;> rfl
@[simp ↓] theorem w_new (g : Ev Res) (Q : MO → VEnv → Prop) : wR (mNew g ρ) Q E = wR (g ρ) (fun r ρ1 => wNew r fun d => Q d ρ1) E := by
  unfold mNew; rw [wR_bind]; refine wR_ext fun r ρ1 => ?_
  cases r <;> rfl
@[simp ↓] theorem wres_n (K : List Arg → Prop) : wO (resolve ρ []) K = K [] := id rfl
@[simp ↓] theorem wres_v (d : D) (as : List AR) (K : List Arg → Prop) : wO (resolve ρ (.v d :: as)) K = wO (resolve ρ as) fun r => K (.v d :: r) := by
  rw [resolve]; cases resolve ρ as <;> rfl
@[simp ↓] theorem wres_l (i : Nat) (as : List AR) (K : List Arg → Prop) : wO (resolve ρ (.l i :: as)) K = wO (rdO i ρ) fun m => wO (resolve ρ as) fun r => K (.l m :: r) := by
  rw [resolve]
  unfold rdO
  generalize ρ[i]? = o
  rcases o with _ | (_ | (d | ⟨l, m⟩))
  · rfl
  · rfl
  · rfl
  · cases resolve ρ as <;> rfl
@[simp ↓] theorem wres_map (ds : List D) (K : List Arg → Prop) : wO (resolve ρ (ds.map AR.v)) K = K (ds.map Arg.v) := by
  induction ds generalizing K with
  | nil => rfl
  | cons d ds ih => rw [List.map_cons, wres_v, ih]; rfl
@[simp ↓] theorem wlen_n (i : Nat) (K : List MO → Prop) : wO (lents i [] ρ) K = K [] := id rfl
@[simp ↓] theorem wlen_v (i : Nat) (d : D) (as : List Arg) (K : List MO → Prop) : wO (lents i (.v d :: as) ρ) K = wO (lents (i + 1) as ρ) K := id rfl
def rdT' (i : Nat) (ρ : VEnv) : Option MO := match ρ[i]? with
  | some (some (Sl.own true m)) => some m
  | _ => none
@[simp ↓] theorem rdT'_0 (d : MO) (K : MO → Prop) : wO (rdT' 0 (some (.own true d) :: ρ)) K = K d := id rfl
@[simp ↓] theorem rdT'_S (i : Nat) (x : Option Sl) (K : MO → Prop) : wO (rdT' (i + 1) (x :: ρ)) K = wO (rdT' i ρ) K := by simp [rdT']
@[simp ↓] theorem wlen_l (i : Nat) (m : MO) (as : List Arg) (K : List MO → Prop) : wO (lents i (.l m :: as) ρ) K = wO (rdT' i ρ) fun m' => wO (lents (i + 1) as ρ) fun ms => K (m' :: ms) := by
  rw [lents]
  unfold rdT'
  generalize ρ[i]? = o
  rcases o with _ | (_ | (d | ⟨_ | _, m⟩))
  · rfl
  · rfl
  · rfl
  · rfl
  · cases lents (i + 1) as ρ <;> rfl
@[simp ↓] theorem w_seq (h k : VEnv → RS) : wS (mSeq h k ρ) N Z = wS (h ρ) (fun ρ1 => wS (k ρ1) N Z) Z := by
  unfold mSeq; cases q : h ρ <;> simp
@[simp ↓] theorem w_next : wS (mNext ρ) N Z = N ρ := id rfl
@[simp ↓] theorem w_expr (g : Ev D) : wS (mExpr g ρ) N Z = wR (g ρ) (fun _ ρ1 => N ρ1) fun c ds ρ1 => Z (.ex c ds ρ1) := by unfold mExpr; rw [wS_thenS]; rfl
@[simp ↓] theorem w_ret (g : Ev D) : wS (mRet g ρ) N Z = wR (g ρ) (fun d ρ1 => Z (.rt d ρ1)) fun c ds ρ1 => Z (.ex c ds ρ1) := by unfold mRet; rw [wS_thenS]; rfl
def rdF' (i : Nat) (ρ : VEnv) : Option MO := match ρ[i]? with
  | some (some (Sl.own false m)) => some m
  | _ => none
@[simp ↓] theorem rdF'_0 (d : MO) (K : MO → Prop) : wO (rdF' 0 (some (.own false d) :: ρ)) K = K d := id rfl
@[simp ↓] theorem rdF'_S (i : Nat) (x : Option Sl) (K : MO → Prop) : wO (rdF' (i + 1) (x :: ρ)) K = wO (rdF' i ρ) K := by simp [rdF']
@[simp ↓] theorem w_retO (i : Nat) : wS (mRetO i ρ) N Z = wO (rdF' i ρ) fun m => wC (m.plain = true) (wSet i none ρ fun ρ1 => Z (.rn m ρ1)) := by
  unfold mRetO rdF'
  generalize ρ[i]? = o
  rcases o with _ | (_ | (d | ⟨_ | _, m⟩)) <;> first
    | rfl
    | (by_cases hp : m.plain = true
       · show wS (if m.plain = true then _ else _) N Z = _
         rw [if_pos hp]
         exact propext ⟨fun h => ⟨hp, h⟩, fun h => h.2⟩
       · show wS (if m.plain = true then _ else _) N Z = _
         rw [if_neg hp]
         exact propext ⟨fun h => h.elim, fun h => absurd h.1 hp⟩)
@[simp ↓] theorem w_ifS (t : Ev Bool) (h k : VEnv → RS) : wS (mIfS t h k ρ) N Z = wR (t ρ) (fun b ρ1 => wB b (wS (h ρ1) N Z) (wS (k ρ1) N Z)) fun c ds ρ1 => Z (.ex c ds ρ1) := by unfold mIfS; rw [wS_thenB]; exact wR_ext fun b _ => by cases b <;> rfl
@[simp ↓] theorem w_asg (g : Ev D) (t : D → VEnv → Option VEnv) : wS (mAsg g t ρ) N Z = wR (g ρ) (fun d ρ1 => wO (t d ρ1) N) fun c ds ρ1 => Z (.ex c ds ρ1) := by
  unfold mAsg; rw [wS_thenS]; exact wR_ext fun d ρ1 => by cases t d ρ1 <;> rfl
@[simp ↓] theorem w_setO (i : Nat) (g : Ev MO) : wS (mSetO i g ρ) N Z = wR (g ρ) (fun m ρ1 => wO (setO i m ρ1) N) fun c ds ρ1 => Z (.ex c ds ρ1) := by
  unfold mSetO; rw [wS_thenM]; exact wR_ext fun d ρ1 => by cases setO i d ρ1 <;> rfl
def lstOf (p : Bool × MO) : Option (Bool × List D) := match p with
  | (l, .lst xs) => some (l, xs)
  | _ => none
@[simp] theorem lstOf_l (l : Bool) (xs : List D) : lstOf (l, .lst xs) = some (l, xs) := id rfl
def rdLL (i : Nat) (ρ : VEnv) : Option (Bool × List D) := (rdL i ρ).bind lstOf
@[simp ↓] theorem rdLL_ (i : Nat) (K : Bool × List D → Prop) : wO (rdLL i ρ) K = wO (rdL i ρ) fun p => wO (lstOf p) K := by
  unfold rdLL; cases rdL i ρ <;> rfl
@[simp ↓] theorem w_append (i : Nat) (g : Ev D) : wS (mAppend i g ρ) N Z = wO (rdLL i ρ) fun _ => wR (g ρ) (fun d ρ1 => wO (rdLL i ρ1) fun p => wP p fun l xs => wC (xs.length < lim) (wSet i (some (.own l (.lst (xs ++ [d])))) ρ1 N)) fun c ds ρ1 => Z (.ex c ds ρ1) := by
  have inner : ∀ (d : D) (ρ' : VEnv), wS (match ρ'[i]? with
      | some (some (Sl.own l (.lst xs))) => if xs.length < lim then .nx (ρ'.set i (some (Sl.own l (.lst (xs ++ [d]))))) else .stuck
      | _ => .stuck) N Z = wO (rdLL i ρ') fun p => wP p fun l xs => wC (xs.length < lim) (wSet i (some (.own l (.lst (xs ++ [d])))) ρ' N) := by
    intro d ρ'
    unfold rdLL rdL wSet
    generalize ρ'[i]? = o
    rcases o with _ | (_ | (e | ⟨l, m⟩))
    · rfl
    · rfl
    · rfl
    · cases m with
      | lst xs =>
        simp only [Option.bind_some, lstOf_l, wO_some, wP_mk]
        by_cases h : xs.length < lim
        · simp only [h, if_true, wS_nx, wC_true]
        · simp only [h, if_false, wS_stuck, wC_false]
      | _ => rfl
  unfold mAppend
  have e : wO (rdLL i ρ) (fun _ => wR (g ρ) (fun d ρ1 => wO (rdLL i ρ1) fun p => wP p fun l xs => wC (xs.length < lim) (wSet i (some (.own l (.lst (xs ++ [d])))) ρ1 N)) fun c ds ρ1 => Z (.ex c ds ρ1)) =
      wO (rdLL i ρ) (fun _ => wS ((g ρ).thenS fun d ρ' => match ρ'[i]? with
      | some (some (Sl.own l (.lst xs))) => if xs.length < lim then .nx (ρ'.set i (some (Sl.own l (.lst (xs ++ [d]))))) else .stuck
      | _ => .stuck) N Z) := by
    refine wO_ext fun _ => ?_
    rw [wS_thenS]
    exact wR_ext fun d ρ1 => (inner d ρ1).symm
  rw [e]
  unfold rdLL rdL
  generalize ρ[i]? = o
  rcases o with _ | (_ | (e | ⟨l, m⟩))
  · rfl
  · rfl
  · rfl
  · cases m <;> rfl
end
end VS
set_option maxHeartbeats 2000000
namespace VS
open PySem L2
section
variable {α β : Type} {Q : α → VEnv → Prop} {E : EX} {N : VEnv → Prop} {Z : RS → Prop} {ρ ρ' ρ0 : VEnv} {P P' : Prop}
theorem wR_mono {r : R α} {Q' : α → VEnv → Prop} (h : wR r Q E) (k : ∀ a ρ, Q a ρ → Q' a ρ) : wR r Q' E := by
  cases r with
  | ok a ρ => exact k _ _ h
  | ex c ds ρ => exact h
  | stuck => exact h
theorem wS_mono {r : RS} {N' : VEnv → Prop} {Z' : RS → Prop} (h : wS r N Z) (k : ∀ ρ, N ρ → N' ρ) (k' : ∀ r, Z r → Z' r) : wS r N' Z' := by
  cases r with
  | nx ρ => exact k _ h
  | stuck => exact h
  | rt d ρ => exact k' _ h
  | rn d ρ => exact k' _ h
  | bk ρ => exact k' _ h
  | ct ρ => exact k' _ h
  | ex c d ρ => exact k' _ h
theorem wF_eq {o : Option (Res × List MO)} {r : Res} {ms : List MO} (h : wF o fun r' ms' => r' = r ∧ ms' = ms) : o = some (r, ms) := by
  unfold wF at h
  split at h
  · obtain ⟨rfl, rfl⟩ := h; rfl
  · exact h.elim
theorem wB_dec {p : Prop} [Decidable p] (h1 : p → P) (h2 : ¬ p → P') : wB (decide p) P P' := by
  by_cases h : p
  · simp only [h, decide_true, wB_true]; exact h1 h
  · simp only [h, decide_false, wB_false]; exact h2 h
def wFin (as : List Arg) (K : Res → List MO → Prop) : RS → Prop
  | .nx ρ => wO (lents 0 as ρ) fun ms => K (.ok .non) ms
  | .rt d ρ => wO (lents 0 as ρ) fun ms => K (.ok d) ms
  | .rn m ρ => wO (lents 0 as ρ) fun ms => K (.nw m) ms
  | .ex c ds ρ => wO (lents 0 as ρ) fun ms => K (.ex c ds) ms
  | _ => False
@[simp ↓] theorem wFin_nx (as : List Arg) (K : Res → List MO → Prop) : wFin as K (.nx ρ) = wO (lents 0 as ρ) fun ms => K (.ok .non) ms := id rfl
@[simp ↓] theorem wFin_rt (d : D) (as : List Arg) (K : Res → List MO → Prop) : wFin as K (.rt d ρ) = wO (lents 0 as ρ) fun ms => K (.ok d) ms := id rfl
@[simp ↓] theorem wFin_rn (d : MO) (as : List Arg) (K : Res → List MO → Prop) : wFin as K (.rn d ρ) = wO (lents 0 as ρ) fun ms => K (.nw d) ms := id rfl
@[simp ↓] theorem wFin_ex (c : Nat) (d : List D) (as : List Arg) (K : Res → List MO → Prop) : wFin as K (.ex c d ρ) = wO (lents 0 as ρ) fun ms => K (.ex c d) ms := id rfl
theorem w_run (n : Nat) (h : VEnv → RS) (as : List Arg) (K : Res → List MO → Prop) : wF (runG n h as) K = wS (h (startE n as)) (fun ρ => wFin as K (.nx ρ)) (wFin as K) := by
  unfold runG
  cases h (startE n as) with
  | nx ρ => simp only [wS_nx, wFin_nx]; cases lents 0 as ρ <;> rfl
  | rt d ρ => simp only [wS_rt, wFin_rt]; cases lents 0 as ρ <;> rfl
  | rn d ρ => simp only [wS_rn, wFin_rn]; cases lents 0 as ρ <;> rfl
  | ex c d ρ => simp only [wS_ex, wFin_ex]; cases lents 0 as ρ <;> rfl
  | bk ρ => rfl
  | ct ρ => rfl
  | stuck => rfl
theorem w_def {G : Fn} {n : Nat} {h : VEnv → RS} {as : List Arg} {ρ : VEnv} {K : Res → List MO → Prop} (hG : G = runG n h) (hρ : startE n as = ρ) (w : wS (h ρ) (fun ρ => wFin as K (.nx ρ)) (wFin as K)) : wF (G as) K := by
  subst hG hρ; rw [w_run]; exact w
def wTurn (I : VEnv → Prop) (N : VEnv → Prop) (Z : RS → Prop) : RS → Prop
  | .ct ρ => I ρ
  | .bk ρ => N ρ
  | r => Z r
@[simp ↓] theorem wTurn_bk (I : VEnv → Prop) : wTurn I N Z (.bk ρ) = N ρ := id rfl
@[simp ↓] theorem wTurn_rt (I : VEnv → Prop) (d : D) : wTurn I N Z (.rt d ρ) = Z (.rt d ρ) := id rfl
@[simp ↓] theorem wTurn_ex (I : VEnv → Prop) (c : Nat) (d : List D) : wTurn I N Z (.ex c d ρ) = Z (.ex c d ρ) := id rfl
@[simp ↓] theorem forGo_cons (t : D → VEnv → Option VEnv) (body : VEnv → RS) (d : D) (ds : List D) : wS (forGo t body (d :: ds) ρ) N Z = wO (t d ρ) fun ρ1 => wS (body ρ1) (fun ρ2 => wS (forGo t body ds ρ2) N Z) (wTurn (fun ρ2 => wS (forGo t body ds ρ2) N Z) N Z) := by
  rw [forGo]
  cases t d ρ with
  | none => rfl
  | some ρ1 =>
    simp only [wO_some]
    cases body ρ1 <;> rfl
@[simp ↓] theorem forGo_nil (t : D → VEnv → Option VEnv) (body : VEnv → RS) : wS (forGo t body [] ρ) N Z = N ρ := id rfl
@[simp ↓] theorem w_for (src : Ev (List D)) (t : D → VEnv → Option VEnv) (body : VEnv → RS) : wS (mFor src t body ρ) N Z = wR (src ρ) (fun ds ρ1 => wS (forGo t body ds ρ1) N Z) fun c ds ρ1 => Z (.ex c ds ρ1) := by unfold mFor; rw [wS_thenL]
theorem for_inv {t : D → VEnv → Option VEnv} {body : VEnv → RS} (e : α → D) (I : List α → List α → VEnv → Prop) (xs : List α) (h0 : I [] xs ρ) (hN : ∀ ρ, I xs [] ρ → N ρ)
    (step : ∀ pre x post ρ, xs = pre ++ x :: post → I pre (x :: post) ρ → wO (t (e x) ρ) fun ρ1 => wS (body ρ1) (fun ρ2 => Hide (I (pre ++ [x]) post ρ2)) (wTurn (fun ρ2 => Hide (I (pre ++ [x]) post ρ2)) N Z)) : wS (forGo t body (xs.map e) ρ) N Z := by
  have gen : ∀ (post pre : List α) (ρ : VEnv), xs = pre ++ post → I pre post ρ → wS (forGo t body (post.map e) ρ) N Z := by
    intro post
    induction post with
    | nil => intro pre ρ hx h; simp only [List.map_nil, forGo_nil]; exact hN _ (by rw [hx, List.append_nil]; exact h)
    | cons x post ih =>
      intro pre ρ hx h
      rw [List.map_cons, forGo_cons]
      have s := step pre x post ρ hx h
      cases q : t (e x) ρ with
      | none => rw [q] at s; exact s
      | some ρ1 =>
        rw [q] at s
        have nxt : ∀ ρ, I (pre ++ [x]) post ρ → wS (forGo t body (post.map e) ρ) N Z := fun ρ h => ih (pre ++ [x]) ρ (by rw [hx]; simp) h
        refine wS_mono s nxt fun r hr => ?_
        cases r with
        | ct ρ => exact nxt _ hr
        | _ => exact hr
  exact gen xs [] ρ rfl h0
@[simp ↓] theorem lcGo_cons (vs : List Nat) (t : D → VEnv → Option VEnv) (tt : Ev Bool) (te : Ev D) (d : D) (ds acc : List D) (Q : List D → VEnv → Prop) : wR (lcGo vs t tt te (d :: ds) acc ρ) Q E =
    wO (t d ρ) fun ρ1 => wR (tt ρ1) (fun b ρ2 => wB b (wR (te ρ2) (fun y ρ3 => wC (acc.length < lim) (wWipe ρ3 vs fun ρ4 => wR (lcGo vs t tt te ds (acc ++ [y]) ρ4) Q E)) fun _ _ _ => False) (wWipe ρ2 vs fun ρ4 => wR (lcGo vs t tt te ds acc ρ4) Q E)) fun _ _ _ => False := by
  rw [lcGo]
  cases t d ρ with
  | none => rfl
  | some ρ1 =>
    simp only [wO_some]
    cases tt ρ1 with
    | stuck => rfl
    | ex c ds ρ2 => rfl
    | ok b ρ2 =>
      cases b with
      | false => simp only [wR_ok, wB_false]; rfl
      | true =>
        simp only [wR_ok, wB_true]
        cases te ρ2 with
        | stuck => rfl
        | ex c ds ρ3 => rfl
        | ok y ρ3 =>
          simp only [wR_ok]
          by_cases h : acc.length < lim
          · simp only [h, if_true, wC_true]; rfl
          · simp only [h, if_false, wC_false]; rfl
@[simp ↓] theorem w_lcL (src : Ev (List D)) (vs : List Nat) (t : D → VEnv → Option VEnv) (tt : Ev Bool) (te : Ev D) (Q : List D → VEnv → Prop) : wR (mLcL src vs t tt te ρ) Q E =
    wR (src ρ) (fun ds ρ1 => wB (cleared ρ1 vs) (wWipe ρ1 vs fun ρ2 => wR (lcGo vs t tt te ds [] ρ2) (fun zs ρ3 => wRest ρ1 ρ3 vs fun ρ4 => Q zs ρ4) E) False) E := by
  unfold mLcL
  rw [wR_bind]
  refine wR_ext fun ds ρ1 => ?_
  cases cleared ρ1 vs
  · simp
  · simp only [if_true, wB_true]
    rw [wR_bind]; rfl
@[simp ↓] theorem w_lc (src : Ev (List D)) (vs : List Nat) (t : D → VEnv → Option VEnv) (tt : Ev Bool) (te : Ev D) (Q : D → VEnv → Prop) : wR (mLc src vs t tt te ρ) Q E = wR (mLcL src vs t tt te ρ) (fun zs ρ1 => Q (.lst zs) ρ1) E := by
  unfold mLc; rw [wR_bind]; rfl
@[simp ↓] theorem w_yes (Q : Bool → VEnv → Prop) : wR (mYes ρ) Q E = Q true ρ := id rfl
theorem lc_inv {vs : List Nat} {t : D → VEnv → Option VEnv} {tt : Ev Bool} {te : Ev D} {Q : List D → VEnv → Prop} (e : α → D) (I : List α → List α → List D → VEnv → Prop) (xs : List α) (hl : xs.length ≤ 1000000) (h0 : I [] xs [] ρ) (hQ : ∀ zs ρ, I xs [] zs ρ → Q zs ρ)
    (step : ∀ pre x post zs ρ, xs = pre ++ x :: post → I pre (x :: post) zs ρ → wO (t (e x) ρ) fun ρ1 => wR (tt ρ1) (fun b ρ2 => wB b (wR (te ρ2) (fun y ρ3 => wWipe ρ3 vs fun ρ4 => Hide (I (pre ++ [x]) post (zs ++ [y]) ρ4)) fun _ _ _ => False) (wWipe ρ2 vs fun ρ4 => Hide (I (pre ++ [x]) post zs ρ4))) fun _ _ _ => False) :
    wR (lcGo vs t tt te (xs.map e) [] ρ) Q E := by
  have gen : ∀ (post pre : List α) (zs : List D) (ρ : VEnv), xs = pre ++ post → zs.length ≤ pre.length → I pre post zs ρ → wR (lcGo vs t tt te (post.map e) zs ρ) Q E := by
    intro post
    induction post with
    | nil => intro pre zs ρ hx _ h; rw [List.append_nil] at hx; subst hx; exact hQ _ _ h
    | cons x post ih =>
      intro pre zs ρ hx hz h
      have hlen : xs.length = pre.length + (post.length + 1) := by rw [hx]; simp
      rw [List.map_cons, lcGo_cons]
      have s := step pre x post zs ρ hx h
      cases q : t (e x) ρ with
      | none => rw [q] at s; exact s
      | some ρ1 =>
        rw [q] at s
        simp only [wO_some] at s ⊢
        refine wR_mono s fun b ρ2 s2 => ?_
        cases b with
        | true =>
          simp only [wB_true] at s2 ⊢
          refine wR_mono s2 fun y ρ3 s3 => ?_
          refine ⟨Nat.lt_of_lt_of_le (show zs.length < 1000001 by omega) (by decide), ?_⟩
          exact ih (pre ++ [x]) _ _ (by rw [hx]; simp) (by simp; omega) s3
        | false =>
          simp only [wB_false] at s2 ⊢
          exact ih (pre ++ [x]) _ _ (by rw [hx]; simp) (by simp; omega) s2
  exact gen xs [] [] ρ rfl (Nat.le_refl _) h0
theorem lc_map {vs : List Nat} {t : D → VEnv → Option VEnv} {tt : Ev Bool} {te : Ev D} {Q : List D → VEnv → Prop} {e : α → D} {xs : List α} (f : α → D) (hl : xs.length ≤ 1000000) (hQ : Q (xs.map f) ρ)
    (step : ∀ x, x ∈ xs → wO (t (e x) ρ) fun ρ1 => wR (tt ρ1) (fun b ρ2 => wB b (wR (te ρ2) (fun y ρ3 => wWipe ρ3 vs fun ρ4 => y = f x ∧ ρ4 = ρ) fun _ _ _ => False) False) fun _ _ _ => False) :
    wR (lcGo vs t tt te (xs.map e) [] ρ) Q E := by
  refine lc_inv e (fun pre _ zs ρ' => zs = pre.map f ∧ ρ' = ρ) xs hl ⟨rfl, rfl⟩ (fun zs ρ' h => by rw [h.1, h.2]; exact hQ) fun pre x post zs ρ' hx h => ?_
  obtain ⟨rfl, rfl⟩ := h
  have s := step x (by rw [hx]; simp)
  cases q : t (e x) ρ' with
  | none => rw [q] at s; exact s
  | some ρ1 =>
    rw [q] at s
    simp only [wO_some] at s ⊢
    refine wR_mono s fun b ρ2 s2 => ?_
    cases b with
    | false => simp at s2
    | true =>
      simp only [wB_true] at s2 ⊢
      exact wR_mono s2 fun y ρ3 s3 => ⟨by rw [s3.1]; simp, s3.2⟩
end
end VS
set_option maxHeartbeats 2000000
namespace VS
open PySem L2
section
variable {α β : Type} {Q : α → VEnv → Prop} {E : EX} {N : VEnv → Prop} {Z : RS → Prop} {ρ ρ' ρ0 : VEnv} {P P' : Prop}
theorem wC_ext {p : Prop} (h : P = P') : wC p P = wC p P' := by subst h; rfl
def tupN (n : Nat) : D → Option (List D)
  | .tup ds => if ds.length = n then some ds else none
  | _ => none
@[simp ↓] theorem wtg_tup (n : Nat) (t : List D → VEnv → Option VEnv) (d : D) (K : VEnv → Prop) : wO (tgTup n t d ρ) K = wO (tupN n d) fun ds => wO (t ds ρ) K := by
  unfold tgTup tupN
  cases d <;> try rfl
  rename_i ds
  by_cases h : ds.length = n <;> simp [h]
@[simp] theorem tupN_tup (n : Nat) (ds : List D) : tupN n (.tup ds) = if ds.length = n then some ds else none := id rfl
@[simp ↓] theorem wtg_nil (K : VEnv → Prop) : wO (tgNil [] ρ) K = K ρ := id rfl
@[simp ↓] theorem wtg_cons (t : D → VEnv → Option VEnv) (u : List D → VEnv → Option VEnv) (d : D) (ds : List D) (K : VEnv → Prop) : wO (tgCons t u (d :: ds) ρ) K = wO (t d ρ) fun ρ1 => wO (u ds ρ1) K := by
  rw [tgCons]; cases t d ρ <;> rfl
def intD : D → Option Int
  | .int i => some i
  | _ => none
@[simp] theorem intD_int (i : Int) : intD (.int i) = some i := id rfl
@[simp ↓] theorem wtg_item (i : Nat) (gk : Ev D) (d : D) (K : VEnv → Prop) : wO (tgItem i gk d ρ) K = wO (rdLL i ρ) fun _ => wR (gk ρ) (fun y ρ1 => wO (intD y) fun k => wO (rdLL i ρ1) fun p => wP p fun l xs => wO (ixN xs.length k) fun j => wSet i (some (.own l (.lst (xs.set j d)))) ρ1 K) fun _ _ _ => False := by
  have inner : ∀ (y : D) (ρ' : VEnv), wO (match y with
      | .int k => (match ρ'[i]? with
        | some (some (Sl.own l (.lst xs))) => (ixN xs.length k).map fun j => ρ'.set i (some (Sl.own l (.lst (xs.set j d))))
        | _ => none)
      | _ => none) K = wO (intD y) fun k => wO (rdLL i ρ') fun p => wP p fun l xs => wO (ixN xs.length k) fun j => wSet i (some (.own l (.lst (xs.set j d)))) ρ' K := by
    intro y ρ'
    cases y with
    | int k =>
      simp only [intD_int, wO_some]
      unfold rdLL rdL wSet
      generalize ρ'[i]? = o
      rcases o with _ | (_ | (e | ⟨l, m⟩))
      · rfl
      · rfl
      · rfl
      · cases m with
        | lst xs => simp only [Option.bind_some, lstOf_l, wO_some, wP_mk]; cases ixN xs.length k <;> rfl
        | _ => rfl
    | _ => rfl
  have e : wO (rdLL i ρ) (fun _ => wR (gk ρ) (fun y ρ1 => wO (intD y) fun k => wO (rdLL i ρ1) fun p => wP p fun l xs => wO (ixN xs.length k) fun j => wSet i (some (.own l (.lst (xs.set j d)))) ρ1 K) fun _ _ _ => False) =
      wO (rdLL i ρ) (fun _ => wO (match gk ρ with
    | .ok (.int k) ρ' => match ρ'[i]? with
      | some (some (Sl.own l (.lst xs))) => (ixN xs.length k).map fun j => ρ'.set i (some (Sl.own l (.lst (xs.set j d))))
      | _ => none
    | _ => none) K) := by
    refine wO_ext fun _ => ?_
    cases gk ρ with
    | stuck => rfl
    | ex c ds ρ1 => rfl
    | ok y ρ1 => rw [wR_ok, ← inner]; cases y <;> rfl
  rw [e]
  unfold tgItem rdLL rdL
  generalize ρ[i]? = o
  rcases o with _ | (_ | (e | ⟨l, m⟩))
  · rfl
  · rfl
  · rfl
  · cases m <;> rfl
def dctOf (p : Bool × MO) : Option (Bool × List (Key × D)) := match p with
  | (l, .dct xs) => some (l, xs)
  | _ => none
@[simp] theorem dctOf_d (l : Bool) (xs : List (Key × D)) : dctOf (l, .dct xs) = some (l, xs) := id rfl
def rdDD (i : Nat) (ρ : VEnv) : Option (Bool × List (Key × D)) := (rdL i ρ).bind dctOf
@[simp ↓] theorem rdDD_ (i : Nat) (K : Bool × List (Key × D) → Prop) : wO (rdDD i ρ) K = wO (rdL i ρ) fun p => wO (dctOf p) K := by
  unfold rdDD; cases rdL i ρ <;> rfl
@[simp ↓] theorem wtg_put (i : Nat) (gk : Ev D) (d : D) (K : VEnv → Prop) : wO (tgPut i gk d ρ) K = wO (rdDD i ρ) fun _ => wR (gk ρ) (fun y ρ1 => wO (rdDD i ρ1) fun p => wP p fun l kvs => wO (keyD y) fun k => wC (kvs.length < lim) (wSet i (some (.own l (.dct (putD kvs k d)))) ρ1 K)) fun _ _ _ => False := by
  have inner : ∀ (y : D) (ρ' : VEnv), wO (match ρ'[i]? with
        | some (some (Sl.own l (.dct kvs))) => (keyD y).bind fun k => if kvs.length < lim then some (ρ'.set i (some (Sl.own l (.dct (putD kvs k d))))) else none
        | _ => none) K = wO (rdDD i ρ') fun p => wP p fun l kvs => wO (keyD y) fun k => wC (kvs.length < lim) (wSet i (some (.own l (.dct (putD kvs k d)))) ρ' K) := by
    intro y ρ'
    unfold rdDD rdL wSet
    generalize ρ'[i]? = o
    rcases o with _ | (_ | (e | ⟨l, m⟩))
    · rfl
    · rfl
    · rfl
    · cases m with
      | dct xs =>
        simp only [Option.bind_some, dctOf_d, wO_some, wP_mk]
        cases keyD y with
        | none => rfl
        | some k =>
          simp only [Option.bind_some, wO_some]
          by_cases h : xs.length < lim
          · simp only [h, if_true, wO_some, wC_true]
          · simp only [h, if_false, wO_none, wC_false]
      | _ => rfl
  have e : wO (rdDD i ρ) (fun _ => wR (gk ρ) (fun y ρ1 => wO (rdDD i ρ1) fun p => wP p fun l kvs => wO (keyD y) fun k => wC (kvs.length < lim) (wSet i (some (.own l (.dct (putD kvs k d)))) ρ1 K)) fun _ _ _ => False) =
      wO (rdDD i ρ) (fun _ => wO (match gk ρ with
    | .ok y ρ' => match ρ'[i]? with
      | some (some (Sl.own l (.dct kvs))) => (keyD y).bind fun k => if kvs.length < lim then some (ρ'.set i (some (Sl.own l (.dct (putD kvs k d))))) else none
      | _ => none
    | _ => none) K) := by
    refine wO_ext fun _ => ?_
    cases gk ρ with
    | stuck => rfl
    | ex c ds ρ1 => rfl
    | ok y ρ1 => rw [wR_ok, ← inner]
  rw [e]
  unfold tgPut rdDD rdL
  generalize ρ[i]? = o
  rcases o with _ | (_ | (e | ⟨l, m⟩))
  · rfl
  · rfl
  · rfl
  · cases m <;> rfl
def insOf (c : Nat) (p : Bool × MO) : Option (Bool × List D) := match p with
  | (l, .ins c' xs) => if c' = c then some (l, xs) else none
  | _ => none
@[simp] theorem insOf_i (c c' : Nat) (l : Bool) (xs : List D) : insOf c (l, .ins c' xs) = if c' = c then some (l, xs) else none := id rfl
@[simp ↓] theorem w_fldS (i c j : Nat) (g : Ev D) : wS (mFldS i c j g ρ) N Z = wR (g ρ) (fun d ρ1 => wO (rdL i ρ1) fun p => wO (insOf c p) fun q => wP q fun l xs => wO (putAt xs j d) fun ys => wSet i (some (.own l (.ins c ys))) ρ1 N) fun c ds ρ1 => Z (.ex c ds ρ1) := by
  unfold mFldS
  rw [wS_thenS]
  refine wR_ext fun d ρ1 => ?_
  unfold rdL wSet
  generalize ρ1[i]? = o
  rcases o with _ | (_ | (e | ⟨l, m⟩))
  · rfl
  · rfl
  · rfl
  · cases m with
    | ins c' xs =>
      simp only [wO_some, insOf_i]
      by_cases h : c' = c
      · simp only [h, if_true, wO_some, wP_mk]; cases putAt xs j d <;> rfl
      · simp only [h, if_false, wS_stuck, wO_none]
    | _ => rfl
def isIns (c : Nat) : D → Bool
  | .ins c' _ => c' == c
  | _ => false
@[simp] theorem isIns_i (c c' : Nat) (xs : List D) : isIns c (.ins c' xs) = (c' == c) := id rfl
def wMade (r : Res) (ms : List MO) (Q : Res → VEnv → Prop) (E : EX) (ρ : VEnv) : Prop := match r, ms with
  | .ok .non, [m] => wC (m.plain = true) (Q (.nw m) ρ)
  | .ex e xs, [_] => E e xs ρ
  | _, _ => False
@[simp ↓] theorem wMade_ok (m : MO) (Q : Res → VEnv → Prop) : wMade (.ok .non) [m] Q E ρ = wC (m.plain = true) (Q (.nw m) ρ) := id rfl
@[simp ↓] theorem wMade_ex (c : Nat) (d : List D) (m : MO) (Q : Res → VEnv → Prop) : wMade (.ex c d) [m] Q E ρ = E c d ρ := id rfl
@[simp ↓] theorem w_make (G : Fn) (c n : Nat) (dd : List D) (g : Ev (List D)) (Q : Res → VEnv → Prop) : wR (mMake G c n dd g ρ) Q E =
    wR (g ρ) (fun ds ρ1 => wC ((ds ++ dd).length + 1 = n) (wF (G (.l (.ins c []) :: (ds ++ dd).map Arg.v)) fun r ms => wMade r ms Q E ρ1)) E := by
  unfold mMake
  rw [wR_bind]
  refine wR_ext fun ds ρ1 => ?_
  rw [wR_itp]
  refine wC_ext ?_
  cases G (.l (.ins c []) :: (ds ++ dd).map Arg.v) with
  | none => rfl
  | some p =>
    obtain ⟨r, ms⟩ := p
    rw [wF_some]
    rcases r with d | m | ⟨e, xs⟩
    · cases d <;> (rcases ms with _ | ⟨m, _ | _⟩ <;> first | rfl | (show wR (if m.plain = true then _ else _) Q E = _; rw [wR_itp]; rfl))
    · rcases ms with _ | ⟨m, _ | _⟩ <;> rfl
    · rcases ms with _ | ⟨m, _ | _⟩ <;> rfl
@[simp ↓] theorem w_meth (G : Fn) (c n : Nat) (dd : List D) (ga : Ev D) (gs : Ev (List D)) (Q : Res → VEnv → Prop) : wR (mMeth G c n dd ga gs ρ) Q E =
    wR (ga ρ) (fun d ρ1 => wB (isIns c d) (wR (gs ρ1) (fun ds ρ2 => wCall G n (AR.v d :: (ds ++ dd).map AR.v) ρ2 Q E) E) False) E := by
  unfold mMeth
  rw [wR_bind]
  refine wR_ext fun d ρ1 => ?_
  cases d with
  | ins c' xs =>
    simp only [isIns_i]
    by_cases h : c' = c
    · subst h
      simp only [if_true, BEq.rfl, wB_true]
      rw [wR_bind]
      exact wR_ext fun ds ρ2 => by rw [w_callR]
    · have : (c' == c) = false := by simp [h]
      simp only [h, if_false, this, wB_false, wR_stuck]
  | _ => rfl
@[simp ↓ high] theorem w_meth' (G : Fn) (c n : Nat) (ga : Ev D) (gs : Ev (List D)) (Q : Res → VEnv → Prop) : wR (mMeth G c n [] ga gs ρ) Q E =
    wR (ga ρ) (fun d ρ1 => wB (isIns c d) (wR (gs ρ1) (fun ds ρ2 => wCall G n (AR.v d :: ds.map AR.v) ρ2 Q E) E) False) E := by
  rw [w_meth]
  refine wR_ext fun d ρ1 => ?_
  cases isIns c d
  · rfl
  · simp only [wB_true]
    exact wR_ext fun ds ρ2 => by rw [List.append_nil]
@[simp ↓ high] theorem w_make' (G : Fn) (c n : Nat) (g : Ev (List D)) (Q : Res → VEnv → Prop) : wR (mMake G c n [] g ρ) Q E =
    wR (g ρ) (fun ds ρ1 => wC (ds.length + 1 = n) (wF (G (.l (.ins c []) :: ds.map Arg.v)) fun r ms => wMade r ms Q E ρ1)) E := by
  rw [w_make]
  exact wR_ext fun ds ρ1 => by rw [List.append_nil]
@[simp ↓] theorem w_meth0 (G : Fn) (c n : Nat) (ga : Ev D) (Q : Res → VEnv → Prop) : wR (mMeth0 G c n ga ρ) Q E =
    wR (ga ρ) (fun d ρ1 => wB (isIns c d) (wCall G n [AR.v d] ρ1 Q E) False) E := by
  unfold mMeth0
  rw [wR_bind]
  refine wR_ext fun d ρ1 => ?_
  cases d with
  | ins c' xs =>
    simp only [isIns_i]
    by_cases h : c' = c
    · subst h; simp only [if_true, BEq.rfl, wB_true]; rw [w_callR]
    · have : (c' == c) = false := by simp [h]
      simp only [h, if_false, this, wB_false, wR_stuck]
  | _ => rfl
def enumD : D → Option (List D)
  | .lst xs => some (enumFrom 0 xs)
  | .frl xs => some (enumFrom 0 xs)
  | .tup xs => some (enumFrom 0 xs)
  | .fru xs => some (enumFrom 0 xs)
  | _ => none
@[simp] theorem enumD_t (xs : List D) : enumD (.tup xs) = some (enumFrom 0 xs) := id rfl
@[simp] theorem enumD_l (xs : List D) : enumD (.lst xs) = some (enumFrom 0 xs) := id rfl
@[simp ↓] theorem w_enumE (g : Ev D) (Q : List D → VEnv → Prop) : wR (mEnumE g ρ) Q E = wR (g ρ) (fun d ρ1 => wO (enumD d) fun ds => Q ds ρ1) E := by
  unfold mEnumE; rw [wR_bind]; exact wR_ext fun d ρ1 => by cases d <;> rfl
@[simp ↓] theorem w_addL (i : Nat) (gb : Ev D) (Q : MO → VEnv → Prop) : wR (mAddL i gb ρ) Q E = wO (rdO i ρ) fun _ => wR (gb ρ) (fun y ρ1 => wO (rdO i ρ1) fun m => wO (addO m.frz y) fun z => Q z ρ1) E := by
  have inner : ∀ (y : D) (ρ' : VEnv), wR (match ρ'[i]? with
    | some (some (Sl.own _ m)) => R.of (addO m.frz y) ρ'
    | _ => .stuck) Q E = wO (rdO i ρ') fun m => wO (addO m.frz y) fun z => Q z ρ' := by
    intro y ρ'
    unfold rdO
    generalize ρ'[i]? = o
    rcases o with _ | (_ | (e | ⟨l, m⟩))
    · rfl
    · rfl
    · rfl
    · rw [wO_some, wR_of]
  unfold mAddL
  have e : wO (rdO i ρ) (fun _ => wR (gb ρ) (fun y ρ1 => wO (rdO i ρ1) fun m => wO (addO m.frz y) fun z => Q z ρ1) E) = wO (rdO i ρ) (fun _ => wR ((gb ρ).bind fun y ρ1 => match ρ1[i]? with
    | some (some (Sl.own _ m)) => R.of (addO m.frz y) ρ1
    | _ => .stuck) Q E) := by
    refine wO_ext fun _ => ?_
    rw [wR_bind]
    exact wR_ext fun y ρ1 => (inner y ρ1).symm
  rw [e]
  unfold rdO
  generalize ρ[i]? = o
  rcases o with _ | (_ | (e | ⟨l, m⟩)) <;> rfl
end
end VS
set_option maxHeartbeats 2000000
namespace VS
open PySem L2
@[simp] theorem isi_int_non  : isiB "int" .non = some false := by decide +kernel
@[simp] theorem isi_int_bl (b : Bool) : isiB "int" (.bl b) = some true := show kitB "bool" "int" = _ by decide +kernel
@[simp] theorem isi_int_int (b : Int) : isiB "int" (.int b) = some true := show kitB "int" "int" = _ by decide +kernel
@[simp] theorem isi_int_str (b : Str) : isiB "int" (.str b) = some false := show kitB "str" "int" = _ by decide +kernel
@[simp] theorem isi_int_tup (b : List D) : isiB "int" (.tup b) = some false := show kitB "tuple" "int" = _ by decide +kernel
@[simp] theorem isi_int_lst (b : List D) : isiB "int" (.lst b) = some false := show kitB "list" "int" = _ by decide +kernel
@[simp] theorem isi_int_frl (b : List D) : isiB "int" (.frl b) = some false := show kitB "list" "int" = _ by decide +kernel
@[simp] theorem isi_int_dct (b : List (Key × D)) : isiB "int" (.dct b) = some false := show kitB "dict" "int" = _ by decide +kernel
@[simp] theorem isi_str_str (b : Str) : isiB "str" (.str b) = some true := show kitB "str" "str" = _ by decide +kernel
@[simp] theorem isi_bool_bl (b : Bool) : isiB "bool" (.bl b) = some true := show kitB "bool" "bool" = _ by decide +kernel
@[simp] theorem isi_bool_int (b : Int) : isiB "bool" (.int b) = some false := show kitB "int" "bool" = _ by decide +kernel
@[simp] theorem isi_tuple_tup (b : List D) : isiB "tuple" (.tup b) = some true := show kitB "tuple" "tuple" = _ by decide +kernel
@[simp] theorem add_int (i j : Int) : addD (.int i) (.int j) = some (.int (i + j)) := id rfl
@[simp] theorem add_lst (i j : List D) : addD (.lst i) (.lst j) = if i.length + j.length ≤ lim then some (.lst (i ++ j)) else none := id rfl
@[simp] theorem sub_int (i j : Int) : subD (.int i) (.int j) = some (.int (i - j)) := id rfl
@[simp] theorem mod_int (i j : Int) : modD (.int i) (.int j) = if 0 < j then some (.int (i % j)) else none := id rfl
@[simp] theorem lt_int (i j : Int) : ltD (.int i) (.int j) = some (.bl (decide (i < j))) := id rfl
@[simp] theorem le_int (i j : Int) : leD (.int i) (.int j) = some (.bl (decide (i ≤ j))) := id rfl
@[simp] theorem gt_int (i j : Int) : gtD (.int i) (.int j) = some (.bl (decide (j < i))) := id rfl
@[simp] theorem le_str (i j : Str) : leD (.str i) (.str j) = some (.bl (!decide (j.cps.toList < i.cps.toList))) := id rfl
@[simp] theorem tru_bl (b : Bool) : truD (.bl b) = some b := id rfl
@[simp] theorem tru_lst (b : List D) : truD (.lst b) = some (!b.isEmpty) := id rfl
@[simp] theorem isN_non (x : D) : isND x .non = some (.bl (isNone x)) := id rfl
@[simp] theorem isNone_non : isNone .non = true := id rfl
@[simp] theorem len_tup (xs : List D) : lenD (.tup xs) = some (.int xs.length) := id rfl
@[simp] theorem len_lst (xs : List D) : lenD (.lst xs) = some (.int xs.length) := id rfl
@[simp] theorem len_frl (xs : List D) : lenD (.frl xs) = some (.int xs.length) := id rfl
@[simp] theorem len_str (x : Str) : lenD (.str x) = if x.length ≤ lim then some (.int x.length) else none := id rfl
@[simp] theorem ix_tup (xs : List D) (i : Int) : ixD (.tup xs) (.int i) = atI xs i := id rfl
@[simp] theorem ix_lst (xs : List D) (i : Int) : ixD (.lst xs) (.int i) = atI xs i := id rfl
@[simp] theorem ix_dct (xs : List (Key × D)) (y : D) : ixD (.dct xs) y = (keyD y).bind fun k => valD xs k := id rfl
@[simp] theorem key_str (i : Str) : keyD (.str i) = some (.inr i) := id rfl
theorem atI_n {α : Type} (xs : List α) (n : Nat) : atI xs (n : Int) = xs[n]? := by
  unfold atI ixN
  by_cases h : n < xs.length
  · rw [if_pos (by omega), if_pos (by omega)]; simp
  · rw [if_pos (by omega), if_neg (by omega)]; simp; omega
@[simp] theorem atI_nat {α : Type} (xs : List α) (n : Nat) : atI xs (n : Int) = xs[n]? := atI_n xs n
@[simp] theorem atI_lit {α : Type} (xs : List α) (n : Nat) : atI xs (no_index (OfNat.ofNat n : Int)) = xs[(OfNat.ofNat n : Nat)]? := atI_n xs n
@[simp] theorem seq_tup (xs : List D) : seqOf (.tup xs) = some xs := id rfl
@[simp] theorem seq_lst (xs : List D) : seqOf (.lst xs) = some xs := id rfl
@[simp] theorem seq_str (x : Str) : seqOf (.str x) = some (signs x) := id rfl
@[simp] theorem tuple_lst (xs : List D) : tupleE (.lst xs) = some (.tup xs) := id rfl
@[simp] theorem addO_lst (i j : List D) : addO (.lst i) (.lst j) = if i.length + j.length ≤ lim then some (.lst (i ++ j)) else none := id rfl
@[simp] theorem bls_map {α : Type} (f : α → Bool) : ∀ xs : List α, blsOf (xs.map fun x => .bl (f x)) = some (xs.map f)
  | [] => rfl
  | x :: xs => by rw [List.map_cons, blsOf, bls_map f xs]; rfl
@[simp] theorem strs_map {α : Type} (f : α → Str) : ∀ xs : List α, strsOf (xs.map fun x => .str (f x)) = some (xs.map f)
  | [] => rfl
  | x :: xs => by rw [List.map_cons, strsOf, strs_map f xs]; rfl
@[simp] theorem all_lst (xs : List D) : allD (.lst xs) = (blsOf xs).map fun ns => .bl (ns.all id) := id rfl
@[simp] theorem any_lst (xs : List D) : anyD (.lst xs) = (blsOf xs).map fun ns => .bl (ns.any id) := id rfl
@[simp] theorem max2_int (i j : Int) : max2D [.int i, .int j] = some (.int (if j > i then j else i)) := id rfl
@[simp] theorem min2_int (i j : Int) : min2D [.int i, .int j] = some (.int (if j < i then j else i)) := id rfl
@[simp] theorem int1_bl (b : Bool) : int1D (.bl b) = some (.int (if b then 1 else 0)) := id rfl
theorem range1_n (n : Nat) (h : n < 1000000000) : range1D (.int (n : Int)) = some ((List.range n).map fun i => .int ((i : Nat) : Int)) := by
  have h1 : small (n : Int) = true := by unfold small; simp; omega
  simp only [range1D, h1, if_true, upFrom]
  simp
@[simp] theorem eq_ints (i j : Int) : eqD (.int i) (.int j) = some (.bl (decide (i = j))) := id rfl
@[simp] theorem ne_ints (i j : Int) : neD (.int i) (.int j) = some (.bl (!decide (i = j))) := id rfl
@[simp] theorem eq_strs (i j : Str) : eqD (.str i) (.str j) = some (.bl (decide (i = j))) := id rfl
@[simp] theorem ne_strs (i j : Str) : neD (.str i) (.str j) = some (.bl (!decide (i = j))) := id rfl
end VS
namespace VS
theorem st_v (n : Nat) (d : D) (as : List Arg) : startE (n + 1) (.v d :: as) = some (.val d) :: startE n as := by simp [startE, slotOf]
theorem st_l (n : Nat) (d : MO) (as : List Arg) : startE (n + 1) (.l d :: as) = some (.own true d) :: startE n as := by simp [startE, slotOf]
theorem st_n (n : Nat) : startE (n + 1) [] = none :: startE n [] := by simp [startE, List.replicate_succ]
theorem st_0 : startE 0 [] = [] := by simp [startE]
end VS
set_option maxHeartbeats 2000000
namespace VS
open PySem L2
structure RPd (p : PyData) (w n : Nat) : Prop where
  lay : p.canLay0 = true
  dep : p.depth ≤ n
  wgt : p.weight ≤ w
  isi : p.intsShort 13 = true
  shw : p.showable = true
def RP (d : D) (w n : Nat) : Prop := ∃ p, toPy d = some p ∧ RPd p w n
theorem rp_int {i : Int} (h : i.natAbs < 1000000000) : RP (.int i) 31 0 := by
  have h1 : i.natAbs < 10 ^ 12 := Nat.lt_of_lt_of_le h (by decide)
  have h2 : i.natAbs.log2 < 30 := PySem.Flt.log2_lt_of (by decide) (Nat.lt_of_lt_of_le h (by decide))
  refine ⟨_, rfl, rfl, Nat.le_refl _, ?_, ?_, ?_⟩
  · unfold PyData.weight; split <;> omega
  · simp only [PyData.intsShort, decide_eq_true_eq]; exact PyData.shown_int_le h1
  · simp only [PyData.showable, decide_eq_true_eq]; omega
theorem rp_str {x : Str} {n : Nat} (h : x.length ≤ n) (hc : ∀ c ∈ x.cps.toList, c < 1114112) : RP (.str x) n 0 := by
  refine ⟨_, rfl, ?_, Nat.le_refl _, h, rfl, rfl⟩
  simp only [PyData.canLay0, PyData.strOk]
  rw [Array.all_eq_true_iff_forall_mem]
  intro c hm
  simpa using hc c (Array.mem_toList_iff.mpr hm)
structure RPa (ps : List PyData) (w n : Nat) : Prop where
  lay : PyData.canLayAll0 ps = true
  dep : PyData.depthAll ps ≤ n
  wgt : PyData.weightAll ps ≤ w
  isi : PyData.intsShortAll 13 ps = true
  shw : PyData.showableAll ps = true
theorem rp_all {w n : Nat} : ∀ {ds : List D}, (∀ d ∈ ds, RP d w n) → ∃ ps, toPys ds = some ps ∧ RPa ps (ds.length * (w + 1)) n
  | [], _ => ⟨[], rfl, rfl, Nat.zero_le _, Nat.zero_le _, rfl, rfl⟩
  | d :: ds, h => by
    obtain ⟨p, h1, a⟩ := h d List.mem_cons_self
    obtain ⟨ps, h2, b⟩ := rp_all fun e he => h e (List.mem_cons_of_mem _ he)
    refine ⟨p :: ps, by simp [toPys, h1, h2], ?_, ?_, ?_, ?_, ?_⟩
    · simp only [PyData.canLayAll0, a.lay, b.lay, Bool.and_self]
    · simp only [PyData.depthAll]; exact Nat.max_le.mpr ⟨a.dep, b.dep⟩
    · simp only [PyData.weightAll, List.length_cons, Nat.succ_mul]; have := a.wgt; have := b.wgt; omega
    · simp only [PyData.intsShortAll, a.isi, b.isi, Bool.and_self]
    · simp only [PyData.showableAll, a.shw, b.shw, Bool.and_self]
theorem rp_tup {w n m : Nat} {ds : List D} (h : ∀ d ∈ ds, RP d w n) (hl : ds.length * (w + 1) ≤ m) : RP (.tup ds) m (n + 1) := by
  obtain ⟨ps, h1, a⟩ := rp_all h
  refine ⟨.tuple ps, by simp [toPy, h1], ?_, ?_, ?_, ?_, ?_⟩
  · simp only [PyData.canLay0]; exact a.lay
  · simp only [PyData.depth]; have := a.dep; omega
  · simp only [PyData.weight]; exact Nat.le_trans a.wgt hl
  · simp only [PyData.intsShort]; exact a.isi
  · simp only [PyData.showable]; exact a.shw
theorem rp_lst {w n m : Nat} {ds : List D} (h : ∀ d ∈ ds, RP d w n) (hl : ds.length * (w + 1) ≤ m) : RP (.lst ds) m (n + 1) := by
  obtain ⟨ps, h1, a⟩ := rp_all h
  refine ⟨.list ps, by simp [toPy, h1], ?_, ?_, ?_, ?_, ?_⟩
  · simp only [PyData.canLay0]; exact a.lay
  · simp only [PyData.depth]; have := a.dep; omega
  · simp only [PyData.weight]; exact Nat.le_trans a.wgt hl
  · simp only [PyData.intsShort]; exact a.isi
  · simp only [PyData.showable]; exact a.shw
theorem RP.mono {d : D} {w n w' n' : Nat} (h : RP d w n) (hw : w ≤ w') (hn : n ≤ n') : RP d w' n' := by
  obtain ⟨p, h1, a⟩ := h
  exact ⟨p, h1, a.lay, Nat.le_trans a.dep hn, Nat.le_trans a.wgt hw, a.isi, a.shw⟩
theorem rp_ints {xs : List Int} (h : ∀ x ∈ xs, x.natAbs < 1000000000) {m : Nat} (hl : xs.length * 32 ≤ m) : RP (.tup (xs.map .int)) m 1 :=
  rp_tup (w := 31) (n := 0) (fun d hd => by obtain ⟨x, hx, rfl⟩ := List.mem_map.mp hd; exact rp_int (h x hx)) (by simpa using hl)
end VS
set_option maxHeartbeats 2000000
namespace VS
open PySem L2
section
variable {Q : D → VEnv → Prop} {E : EX} {N : VEnv → Prop} {Z : RS → Prop} {ρ : VEnv}
def lstD : D → Option (List D)
  | .lst ys => some ys
  | _ => none
@[simp] theorem lstD_lst (ys : List D) : lstD (.lst ys) = some ys := id rfl
def strOnly : D → Option D
  | .str u => some (.str u)
  | _ => none
@[simp] theorem strOnly_str (u : Str) : strOnly (.str u) = some (.str u) := id rfl
@[simp ↓] theorem w_isStr (g : Ev D) : wR (isStrR g ρ) Q E = wR (g ρ) (fun d ρ1 => wO (strOnly d) fun z => Q z ρ1) E := by
  unfold isStrR; rw [wR_bind]; exact wR_ext fun d ρ1 => by cases d <;> rfl
@[simp ↓] theorem w_enumS (k : Nat) (g : Ev D) (Q : List D → VEnv → Prop) : wR (mEnumS k g ρ) Q E = wR (g ρ) (fun d ρ1 => wO (lstD d) fun xs => Q (enumFrom k xs) ρ1) E := by
  unfold mEnumS; rw [wR_bind]; exact wR_ext fun d ρ1 => by cases d <;> rfl
end
end VS
set_option maxHeartbeats 2000000
namespace VS
open PySem L2
@[simp] theorem isa_non (es : List Nat) (f : String ⊕ Nat → Option Bool) : isaD es f .non = f (.inl "NoneType") := id rfl
@[simp] theorem isa_exc (es : List Nat) (f : String ⊕ Nat → Option Bool) (c : Nat) (xs : List D) : isaD es f (.exc c xs) = (if c ∈ es then some (.inr c) else none).bind f := id rfl
@[simp] theorem isaF_l (nos : List String) (tbl : List (Nat × Bool)) (t : String) : isaF nos tbl (.inl t) = if t ∈ nos then some false else none := id rfl
@[simp] theorem isaF_r (nos : List String) (tbl : List (Nat × Bool)) (c : Nat) : isaF nos tbl (.inr c) = tbl.lookup c := id rfl
@[simp] theorem xfd_exc (cs : List Nat) (i c : Nat) (xs : List D) : xfdD cs i (.exc c xs) = if c ∈ cs then xs[i]? else none := id rfl
end VS
set_option maxHeartbeats 2000000
namespace VS
open PySem L2
section
variable {E : EX} {N : VEnv → Prop} {Z : RS → Prop} {ρ : VEnv}
@[simp ↓] theorem w_raise0 (c : Nat) : wS (mRaise0 c ρ) N Z = Z (.ex c [] ρ) := id rfl
@[simp ↓] theorem w_raiseF (c : Nat) (g : Ev D) : wS (mRaiseF c g ρ) N Z = wR (g ρ) (fun d ρ1 => wC (numD d = true) (Z (.ex c [d] ρ1))) fun c ds ρ1 => Z (.ex c ds ρ1) := by
  unfold mRaiseF
  cases g ρ with
  | ok d ρ1 =>
    simp only [wR_ok]
    by_cases h : numD d = true
    · simp only [h, if_true, wC_true, wS_ex]
    · simp only [h, if_false, wC_false, wS_stuck]; simp
  | _ => rfl
@[simp] theorem num_non : numD .non = true := id rfl
@[simp] theorem num_int (i : Int) : numD (.int i) = decide (i.natAbs < 1000000000) := id rfl
end
end VS
set_option maxHeartbeats 1000000
set_option maxHeartbeats 2000000
namespace VS
open PySem L2
section
variable {Q : D → VEnv → Prop} {E : EX} {N : VEnv → Prop} {Z : RS → Prop} {ρ : VEnv}
@[simp ↓] theorem w_calm (g : Ev Res) (Q : Res → VEnv → Prop) : wR (mCalm g ρ) Q E = wR (g ρ) Q fun _ _ _ => False := by
  unfold mCalm; cases g ρ <;> rfl
def wFrom (hit : List Nat) (c : Nat) (g : Ev D) (Z : RS → Prop) : RS → Prop
  | .ex c0 _ ρ1 => wC (c0 ∈ hit) (wR (g ρ1) (fun d ρ2 => wC (numD d = true) (Z (.ex c [d] ρ2))) fun _ _ _ => False)
  | r => Z r
@[simp ↓] theorem wFrom_ex (hit : List Nat) (c : Nat) (g : Ev D) (c0 : Nat) (ds : List D) : wFrom hit c g Z (.ex c0 ds ρ) = wC (c0 ∈ hit) (wR (g ρ) (fun d ρ2 => wC (numD d = true) (Z (.ex c [d] ρ2))) fun _ _ _ => False) := id rfl
@[simp ↓] theorem wFrom_rt (hit : List Nat) (c : Nat) (g : Ev D) (d : D) : wFrom hit c g Z (.rt d ρ) = Z (.rt d ρ) := id rfl
@[simp ↓] theorem w_tryR (hit : List Nat) (c : Nat) (h : VEnv → RS) (g : Ev D) : wS (mTryR hit c h g ρ) N Z = wS (h ρ) N (wFrom hit c g Z) := by
  unfold mTryR
  cases h ρ with
  | ex c0 ds ρ1 =>
    simp only [wS_ex, wFrom_ex]
    by_cases hc : c0 ∈ hit
    · simp only [hc, if_true, wC_true]
      cases g ρ1 with
      | ok d ρ2 =>
        simp only [wR_ok]
        by_cases nd : numD d = true
        · simp only [nd, if_true, wC_true, wS_ex]
        · simp only [nd, if_false, wC_false]
          simp
      | ex _ _ _ => rfl
      | stuck => rfl
    · simp only [hc, if_false, wC_false, wS_stuck]
  | _ => rfl
def wRowsE (hit : List Nat) (i : Nat) (k : VEnv → RS) (N : VEnv → Prop) (Z : RS → Prop) : RS → Prop
  | .ex c ds ρ1 => wC (c ∈ hit) (wO (setV i (.exc c ds) ρ1) fun ρ2 => wS (k ρ2) (fun ρ3 => wClr i ρ3 (wSet i none ρ3 N) False) fun r => match r with
    | .rt d ρ3 => Z (.rt d ρ3)
    | _ => False)
  | r => Z r
@[simp ↓] theorem wRowsE_ex (hit : List Nat) (i : Nat) (k : VEnv → RS) (c : Nat) (ds : List D) : wRowsE hit i k N Z (.ex c ds ρ) = wC (c ∈ hit) (wO (setV i (.exc c ds) ρ) fun ρ2 => wS (k ρ2) (fun ρ3 => wClr i ρ3 (wSet i none ρ3 N) False) fun r => match r with
    | .rt d ρ3 => Z (.rt d ρ3)
    | _ => False) := id rfl
@[simp ↓] theorem w_rows (hit : List Nat) (i : Nat) (h k : VEnv → RS) : wS (mRows hit i h k ρ) N Z = wS (h ρ) N (wRowsE hit i k N Z) := by
  unfold mRows
  cases h ρ with
  | ex c ds ρ1 =>
    simp only [wS_ex, wRowsE_ex]
    by_cases hc : c ∈ hit
    · simp only [hc, if_true, wC_true]
      cases setV i (.exc c ds) ρ1 with
      | none => rfl
      | some ρ2 =>
        simp only [wO_some]
        cases k ρ2 with
        | nx ρ3 =>
          simp only [wS_nx]
          unfold clearE wClr wSet
          generalize ρ3[i]? = o
          rcases o with _ | (_ | (d | ⟨l, m⟩)) <;> rfl
        | _ => rfl
    · simp only [hc, if_false, wC_false, wS_stuck]
  | _ => rfl
end
end VS
namespace VS
open PySem L2
def locD : Bool × List D → Option (List D)
  | (false, xs) => some xs
  | _ => none
@[simp] theorem locD_f (xs : List D) : locD (false, xs) = some xs := id rfl
section
variable {E : EX} {ρ : VEnv}
@[simp ↓] theorem w_lcS (i : Nat) (vs : List Nat) (t : D → VEnv → Option VEnv) (tt : Ev Bool) (te : Ev D) (Q : D → VEnv → Prop) : wR (mLcS i vs t tt te ρ) Q E = wO (rdLL i ρ) fun p => wO (locD p) fun xs => wSet i none ρ fun ρ1 => wB (cleared ρ1 vs) (wWipe ρ1 vs fun ρ2 => wR (lcGo vs t tt te xs [] ρ2) (fun zs ρ3 => wRest ρ1 ρ3 vs fun ρ4 => wSet i (some (.own false (.lst xs))) ρ4 fun ρ5 => Q (.lst zs) ρ5) E) False := by
  unfold mLcS rdLL rdL
  generalize q : ρ[i]? = o
  rcases o with _ | (_ | (e | ⟨l, m⟩))
  · rfl
  · rfl
  · rfl
  · cases m with
    | lst xs =>
      cases l with
      | true => rfl
      | false =>
        simp only [Option.bind_some, lstOf_l, wO_some, locD_f]
        unfold wSet
        by_cases hc : cleared (ρ.set i none) vs = true
        · simp only [hc, if_true, wB_true]
          rw [wR_bind]; rfl
        · have : cleared (ρ.set i none) vs = false := by simpa using hc
          simp only [this, wB_false, Bool.false_eq_true, if_false, wR_stuck]
    | dct _ => cases l <;> rfl
    | ins _ _ => cases l <;> rfl
    | dtt _ => cases l <;> rfl
    | box _ _ => cases l <;> rfl
end
end VS
set_option maxHeartbeats 2000000
set_option maxHeartbeats 2000000
set_option maxHeartbeats 1000000
set_option maxHeartbeats 2000000
namespace VS
open PySem L2
def wGo : Nat → VEnv → (D → VEnv → Prop) → Prop
  | 0, some (.own false m) :: ρ, K => K m.frz (some (.val m.frz) :: ρ)
  | 0, some (.val d) :: ρ, K => K d (some (.val d) :: ρ)
  | i + 1, x :: ρ, K => wGo i ρ fun d ρ' => K d (x :: ρ')
  | _, _, _ => False
section
variable {E : EX} {ρ : VEnv}
@[simp ↓] theorem wGo_o (m : MO) (K : D → VEnv → Prop) : wGo 0 (some (.own false m) :: ρ) K = K m.frz (some (.val m.frz) :: ρ) := id rfl
@[simp ↓] theorem wGo_v (d : D) (K : D → VEnv → Prop) : wGo 0 (some (.val d) :: ρ) K = K d (some (.val d) :: ρ) := id rfl
@[simp ↓] theorem wGo_S (i : Nat) (x : Option Sl) (K : D → VEnv → Prop) : wGo (i + 1) (x :: ρ) K = wGo i ρ fun d ρ' => K d (x :: ρ') := id rfl
@[simp ↓] theorem w_go (i : Nat) (Q : D → VEnv → Prop) : wR (mGo i ρ) Q E = wGo i ρ Q := by
  have gen : ∀ (i : Nat) (ρ : VEnv) (Q : D → VEnv → Prop), wR (mGo i ρ) Q E = wGo i ρ Q := by
    intro i
    induction i with
    | zero =>
      intro ρ Q
      rcases ρ with _ | ⟨_ | (d | ⟨_ | _, m⟩), ρ⟩ <;> rfl
    | succ i ih =>
      intro ρ Q
      rcases ρ with _ | ⟨x, ρ⟩
      · rfl
      · rw [wGo_S, ← ih ρ fun d ρ' => Q d (x :: ρ')]
        unfold mGo
        rw [List.getElem?_cons_succ]
        rcases ρ[i]? with _ | (_ | (d | ⟨_ | _, m⟩)) <;> rfl
  exact gen i ρ Q
end
section
variable {N : VEnv → Prop} {Z : RS → Prop} {ρ : VEnv}
@[simp ↓] theorem w_parFF (i j : Nat) (ga gb : Ev MO) : wS (mParFF i j ga gb ρ) N Z = wR (ga ρ) (fun x ρ1 => wR (gb ρ1) (fun y ρ2 => wO (setO i x ρ2) fun ρ3 => wO (setO j y ρ3) N) fun c ds ρ1 => Z (.ex c ds ρ1)) fun c ds ρ1 => Z (.ex c ds ρ1) := by
  unfold mParFF setOS
  rw [wS_thenM]
  refine wR_ext fun x ρ1 => ?_
  rw [wS_thenM]
  refine wR_ext fun y ρ2 => ?_
  cases setO i x ρ2 with
  | none => rfl
  | some ρ3 => simp only [wO_some]; cases setO j y ρ3 <;> rfl
end
end VS
set_option maxHeartbeats 2000000
set_option maxHeartbeats 2000000
set_option maxHeartbeats 2000000
set_option maxHeartbeats 2000000
set_option maxHeartbeats 2000000
set_option maxHeartbeats 2000000
set_option maxHeartbeats 2000000
set_option maxHeartbeats 2000000
set_option maxHeartbeats 2000000
set_option maxHeartbeats 2000000
set_option maxHeartbeats 2000000
namespace VS
open PySem L2 PySem.Spec PyProof.Rows
inductive Picks (P : Program) (w : World) (K : PySem.W.Frag) (mg : Str → Option Value) (base : Heap) (T : Txt) (k n : Nat) : List (Str × Str) → List (Str × Fn) → Prop
  | nil : Picks P w K mg base T k n [] []
  | cons {z f : Str} {G : Fn} {ps : List Str} {j : Nat} {tb : List (Str × Str)} {fns : List (Str × Fn)} (c : Cal P w K mg base T j f G ps) (hn : ps.length = n) (hj : j ≤ k) (r : Picks P w K mg base T k n tb fns) : Picks P w K mg base T k n ((z, f) :: tb) ((z, G) :: fns)
theorem Picks.get {P : Program} {w : World} {K : PySem.W.Frag} {mg : Str → Option Value} {base : Heap} {T : Txt} {k n : Nat} {tb : List (Str × Str)} {fns : List (Str × Fn)} (h : Picks P w K mg base T k n tb fns) {z : Str} {G : Fn} (q : fns.lookup z = some G) :
    ∃ f ps j, (z, f) ∈ tb ∧ Cal P w K mg base T j f G ps ∧ ps.length = n ∧ j ≤ k := by
  induction h with
  | nil => cases q
  | @cons y f G' ps j tb fns c hn hj r ih =>
    rw [List.lookup_cons] at q
    by_cases e : z = y
    · subst e
      simp at q
      subst q
      exact ⟨f, ps, j, by simp, c, hn, hj⟩
    · have : (z == y) = false := by simpa using e
      rw [this] at q
      obtain ⟨f', ps', j', h1, h2⟩ := ih q
      exact ⟨f', ps', j', List.mem_cons_of_mem _ h1, h2⟩
end VS
set_option maxHeartbeats 2000000
set_option maxHeartbeats 2000000
set_option maxHeartbeats 2000000
set_option maxHeartbeats 2000000
set_option maxHeartbeats 1000000
namespace K07
open PySem L2 VS
structure Fire where
  name : Str
  hung : List Int
  feed : List Str
instance : DecidableEq Fire := fun a b => decidable_of_iff (a.name = b.name ∧ a.hung = b.hung ∧ a.feed = b.feed) (by cases a; cases b; simp)
def Fire.d (f : Fire) : D := .tup [.str f.name, .tup (f.hung.map D.int), .tup (f.feed.map D.str)]
structure Hung (few : Nat) (hs : List Int) : Prop where
  len : hs.length = few
  bd : ∀ x ∈ hs, 0 ≤ x ∧ x ≤ 9
  pos : ∃ x ∈ hs, 0 < x
structure Fires (few : Nat) (fs : List Fire) : Prop where
  nd : (fs.map Fire.name).Nodup
  nm : ∀ f ∈ fs, IsName f.name
  hg : ∀ f ∈ fs, Hung few f.hung
  fd : ∀ i f, fs[i]? = some f → f.feed.Nodup ∧ ∀ z ∈ f.feed, z ∈ (fs.take i).map Fire.name
end K07
namespace K07
open PySem L2 VS
theorem Fires.snoc {few : Nat} {fs : List Fire} {f : Fire} (h : Fires few fs) (h1 : f.name ∉ fs.map Fire.name) (h2 : IsName f.name) (h3 : Hung few f.hung) (h4 : f.feed.Nodup) (h5 : ∀ z ∈ f.feed, z ∈ fs.map Fire.name) : Fires few (fs ++ [f]) where
  nd := by
    rw [List.map_append]
    exact List.nodup_append.mpr ⟨h.nd, by simp, fun a ha b hb e => by
      have : b = f.name := by simpa using hb
      exact h1 (this ▸ e ▸ ha)⟩
  nm := fun g hg => by
    rcases List.mem_append.mp hg with q | q
    · exact h.nm g q
    · have : g = f := by simpa using q
      rw [this]; exact h2
  hg := fun g hg => by
    rcases List.mem_append.mp hg with q | q
    · exact h.hg g q
    · have : g = f := by simpa using q
      rw [this]; exact h3
  fd := fun i g hg => by
    by_cases hi : i < fs.length
    · rw [List.getElem?_append_left hi] at hg
      rw [List.take_append_of_le_length (by omega)]
      exact h.fd i g hg
    · rw [List.getElem?_append_right (by omega)] at hg
      have e : i - fs.length = 0 := by
        have := (List.getElem?_eq_some_iff.mp hg).1
        simp at this; omega
      rw [e] at hg
      have : f = g := by simpa using hg
      subst this
      have ei : i = fs.length := by omega
      subst ei
      rw [List.take_append_of_le_length (Nat.le_refl _), List.take_length]
      exact ⟨h4, h5⟩
theorem Fires.nil {few : Nat} : Fires few [] := ⟨.nil, by simp, by simp, by simp⟩
end K07
namespace VS
open PySem L2
@[simp] theorem in_dctS (z : Str) (xs : List (Key × D)) : inD (.str z) (.dct xs) = some (.bl (valD xs (.inr z)).isSome) := id rfl
@[simp] theorem nin_dctS (z : Str) (xs : List (Key × D)) : notInD (.str z) (.dct xs) = some (.bl (!(valD xs (.inr z)).isSome)) := id rfl
end VS
namespace K07
open PySem L2 VS
def wholeB (lo hi : Int) : D → Bool
  | .int i => decide (lo ≤ i) && decide (i ≤ hi)
  | _ => false
theorem whole_ok (d : D) (lo hi : Int) (h : (tyD d).isSome) : g_p_is_whole [.v d, .v (.int lo), .v (.int hi)] = some (.ok (.bl (wholeB lo hi d)), []) := by
  apply wF_eq
  refine w_def rfl rfl ?_
  simp only [st_v, st_l, st_n, st_0, h_p_is_whole]
  cases d <;> simp [tyD] at h <;> simp [wholeB]
  rename_i i
  refine wB_dec (fun h1 => ?_) fun h1 => ?_ <;> simp [h1, wholeB]
@[simp] theorem whole_int (i lo hi : Int) : g_p_is_whole [.v (.int i), .v (.int lo), .v (.int hi)] = some (.ok (.bl (decide (lo ≤ i) && decide (i ≤ hi))), []) := whole_ok (.int i) lo hi rfl
def webD (few : Nat) (fs : List Fire) : D := .ins 0 [.dct (fs.map fun f => (.inr f.name, f.d)), .int few, .tup (fs.map Fire.d)]
@[simp] theorem webD_is (few : Nat) (fs : List Fire) : isIns 0 (webD few fs) = true := id rfl
@[simp] theorem webD_0 (few : Nat) (fs : List Fire) : fldD 0 0 (webD few fs) = some (.dct (fs.map fun f => (.inr f.name, f.d))) := id rfl
@[simp] theorem webD_2 (few : Nat) (fs : List Fire) : fldD 0 2 (webD few fs) = some (.tup (fs.map Fire.d)) := id rfl
def fireOf (fs : List Fire) (z : Str) : Option Fire := fs.find? fun f => decide (f.name = z)
theorem val_fires (z : Str) : ∀ fs : List Fire, valD (fs.map fun f => (.inr f.name, f.d)) (.inr z) = (fireOf fs z).map Fire.d
  | [] => rfl
  | f :: fs => by
    have ih := val_fires z fs
    unfold valD fireOf at ih ⊢
    rw [List.map_cons, List.find?_cons, List.find?_cons]
    by_cases h : f.name = z
    · subst h; simp
    · have h1 : decide ((Sum.inr f.name : Key) = Sum.inr z) = false := by simp [h]
      have h2 : decide (f.name = z) = false := by simp [h]
      simp only [h1, h2]
      exact ih
theorem fireOf_some {fs : List Fire} {z : Str} (h : z ∈ fs.map Fire.name) : ∃ f, fireOf fs z = some f ∧ f ∈ fs ∧ f.name = z := by
  obtain ⟨g, hg, rfl⟩ := List.mem_map.mp h
  cases q : fireOf fs g.name with
  | none => exact absurd (List.find?_eq_none.mp q g hg) (by simp)
  | some f => exact ⟨f, rfl, List.mem_of_find?_eq_some q, by simpa using List.find?_some q⟩
def fireKs (fs : List Fire) : List (Key × D) := fs.map fun f => (.inr f.name, f.d)
theorem val_ks (z : Str) (fs : List Fire) : (valD (fireKs fs) (.inr z)).isSome = decide (z ∈ fs.map Fire.name) := by
  unfold fireKs
  rw [val_fires]
  by_cases h : z ∈ fs.map Fire.name
  · obtain ⟨f, h1, _⟩ := fireOf_some h
    rw [h1, decide_eq_true h]; rfl
  · rw [decide_eq_false h]
    cases q : fireOf fs z with
    | none => rfl
    | some f =>
      refine absurd (List.mem_map.mpr ⟨f, List.mem_of_find?_eq_some q, ?_⟩) h
      simpa using List.find?_some q
theorem enum_mapF {α : Type} (f : α → D) : ∀ (n : Nat) (xs : List α), enumFrom n (xs.map f) = (xs.zipIdx n).map fun p => .tup [.int p.2, f p.1]
  | n, [] => rfl
  | n, x :: xs => by rw [List.map_cons, enumFrom, enum_mapF f (n + 1) xs]; simp
def webM (few : Nat) (fs : List Fire) : MO := .ins 0 [.dct (fireKs fs), .int few, .tup (fs.map Fire.d)]
end K07
namespace K07
open PySem L2 VS
def num (i : Int) : Str := toString i
theorem strs_map : ∀ ws : List Str, strsOf (ws.map D.str) = some ws
  | [] => rfl
  | w :: ws => by simp [strsOf, strs_map ws]
theorem join_ok {z : Str} {ws : List Str} (h : (ws.map (·.length)).sum + ws.length * z.length ≤ 16777216) : joinD z (.lst (ws.map D.str)) = some (.str (PySem.Txt.join z ws)) := by
  simp only [joinD, seqOf, strs_map, Option.bind_some]
  rw [if_pos h]
def rowWords (f : Fire) : List Str := [("hearth" : Str), f.name] ++ f.hung.map num ++ (if f.feed = [] then [] else ("over" : Str) :: f.feed)
theorem num_len {i : Int} (h0 : 0 ≤ i) (h9 : i ≤ 9) : (num i).length = 1 := by
  have : i = 0 ∨ i = 1 ∨ i = 2 ∨ i = 3 ∨ i = 4 ∨ i = 5 ∨ i = 6 ∨ i = 7 ∨ i = 8 ∨ i = 9 := by omega
  rcases this with rfl | rfl | rfl | rfl | rfl | rfl | rfl | rfl | rfl | rfl <;> decide
theorem sum_le (c : Nat) : ∀ ws : List Str, (∀ w ∈ ws, w.length ≤ c) → (ws.map (·.length)).sum ≤ ws.length * c
  | [], _ => by simp
  | w :: ws, h => by
    have h1 := h w (by simp)
    have h2 := sum_le c ws fun x hx => h x (by simp [hx])
    simp only [List.map_cons, List.sum_cons, List.length_cons, Nat.succ_mul]
    omega
theorem row_le {few : Nat} {f : Fire} (hn : IsName f.name) (hh : Hung few f.hung) (hz : ∀ z ∈ f.feed, IsName z) : ∀ w ∈ rowWords f, w.length ≤ 6 := by
  intro w hw
  simp only [rowWords, List.mem_append, List.mem_cons, List.not_mem_nil, or_false, List.mem_map] at hw
  rcases hw with ((rfl | rfl) | ⟨i, hi, rfl⟩) | hw
  · decide
  · exact hn.hi
  · rw [num_len (hh.bd i hi).1 (hh.bd i hi).2]; decide
  · split at hw
    · cases hw
    · rcases List.mem_cons.mp hw with rfl | h
      · decide
      · exact (hz w h).hi
def RowsOk (few : Nat) (fs : List Fire) : Prop := ∀ f ∈ fs, IsName f.name ∧ Hung few f.hung ∧ f.feed.length ≤ 16 ∧ ∀ z ∈ f.feed, IsName z
theorem app_len (a b : Str) : (a ++ b).length = a.length + b.length := by
  show (a ++ b).cps.size = a.cps.size + b.cps.size
  rw [show (a ++ b).cps = a.cps ++ b.cps from rfl, Array.size_append]
theorem num_len2 {n : Nat} (h : n ≤ 16) : (num n).length ≤ 2 := by
  have : ∀ k, k < 17 → (num ((k : Nat) : Int)).length ≤ 2 := by decide
  exact this n (by omega)
end K07
namespace K07
open PySem L2 VS
theorem ix0 (d : D) (ds : List D) : ixD (.lst (d :: ds)) (.int 0) = some d := by
  have : (0 : Int) < ((d :: ds).length : Nat) := by simp only [List.length_cons]; omega
  simp only [ixD, atI, ixN]
  rw [if_pos (by decide), if_pos this]; rfl
theorem ix1 (d e : D) (ds : List D) : ixD (.lst (d :: e :: ds)) (.int 1) = some e := by
  have : (1 : Int) < ((d :: e :: ds).length : Nat) := by simp only [List.length_cons]; omega
  simp only [ixD, atI, ixN]
  rw [if_pos (by decide), if_pos this]; rfl
theorem cut1 (d : D) (ds : List D) : cutD (d :: ds) (some 1) none = ds := by
  unfold cutD HT.sIx
  simp
theorem cut2 (d e : D) (ds : List D) : cutD (d :: e :: ds) (some 2) none = ds := by
  unfold cutD HT.sIx
  simp
theorem cutn (as ds : List D) {n : Int} (h : n = as.length) : cutD (as ++ ds) (some n) none = ds := by
  subst h
  have hn : ¬ ((as.length : Nat) : Int) < 0 := by omega
  unfold cutD HT.sIx
  simp [hn]
end K07
namespace K07
open PySem L2 VS
theorem join_mem {z : Str} {c : Nat} : ∀ {ws : List Str}, c ∈ (Str.join z ws).cps.toList → c ∈ z.cps.toList ∨ ∃ w ∈ ws, c ∈ w.cps.toList
  | [], h => by simp [Str.join, Str.empty] at h
  | [w], h => .inr ⟨w, by simp, h⟩
  | w :: v :: ws, h => by
    have e : (Str.join z (w :: v :: ws)).cps.toList = w.cps.toList ++ z.cps.toList ++ (Str.join z (v :: ws)).cps.toList := by
      show ((w ++ z ++ Str.join z (v :: ws)).cps).toList = _
      simp [Str.cps_append]
    rw [e] at h
    rcases List.mem_append.mp h with h | h
    · rcases List.mem_append.mp h with h | h
      · exact .inr ⟨w, by simp, h⟩
      · exact .inl h
    · rcases join_mem h with h | ⟨u, hu, h⟩
      · exact .inl h
      · exact .inr ⟨u, List.mem_cons_of_mem _ hu, h⟩
theorem fires_nil (few : Nat) : Fires few ([] : List Fire) := by
  constructor <;> simp
end K07
namespace K07
open PySem L2 VS
theorem feed_in {few : Nat} {fs : List Fire} (hf : Fires few fs) : ∀ f ∈ fs, f.feed.length ≤ fs.length ∧ ∀ z ∈ f.feed, IsName z := by
  intro f h
  obtain ⟨i, hi⟩ := List.getElem?_of_mem h
  obtain ⟨nd, hz⟩ := hf.fd i f hi
  have := nodup_sub_len nd hz
  refine ⟨by simp at this; omega, fun z hq => ?_⟩
  obtain ⟨g, hg, rfl⟩ := List.mem_map.mp (hz z hq)
  exact hf.nm g (List.mem_of_mem_take hg)
theorem rows_of {few : Nat} {fs : List Fire} (hf : Fires few fs) (hl : fs.length ≤ 16) : RowsOk few fs := fun f h =>
  ⟨hf.nm f h, hf.hg f h, by have := (feed_in hf f h).1; omega, (feed_in hf f h).2⟩
end K07
namespace VS
open PySem L2
theorem eqvAll_map {α : Type} [DecidableEq α] (f : α → PyData) (h : ∀ x y, PyData.eqv (f x) (f y) = decide (x = y)) : ∀ xs ys : List α, PyData.eqvAll (xs.map f) (ys.map f) = decide (xs = ys)
  | [], [] => by simp [PyData.eqvAll]
  | [], y :: ys => by simp [PyData.eqvAll]
  | x :: xs, [] => by simp [PyData.eqvAll]
  | x :: xs, y :: ys => by simp [PyData.eqvAll, h, eqvAll_map f h xs ys, Bool.decide_and]
theorem toPys_map {α : Type} (f : α → D) (g : α → PyData) (h : ∀ x, toPy (f x) = some (g x)) : ∀ xs : List α, toPys (xs.map f) = some (xs.map g)
  | [] => by simp [toPys]
  | x :: xs => by simp [toPys, h, toPys_map f g h xs]
theorem eq_rp {x y : D} {p q : PyData} {w n w' n' : Nat} (hx : toPy x = some p) (hy : toPy y = some q) (rx : RP x w n) (ry : RP y w' n') (hn : n ≤ 64) (hn' : n' ≤ 64) : eqB0 x y = some (PyData.eqv p q) := by
  unfold eqB0
  rw [hx, hy]
  simp only [Option.bind_some]
  obtain ⟨p', e1, a⟩ := rx
  rw [hx] at e1
  cases e1
  obtain ⟨q', e2, b⟩ := ry
  rw [hy] at e2
  cases e2
  rw [if_pos]
  have d1 := Nat.le_trans a.dep hn
  have d2 := Nat.le_trans b.dep hn'
  simp [SeqAt.shaped, a.lay, b.lay, d1, d2]
theorem py_int (i j : Int) : PyData.eqv (.int i) (.int j) = decide (i = j) := by simp [PyData.eqv]; rfl
theorem py_str (i j : Str) : PyData.eqv (.str i) (.str j) = decide (i = j) := by simp [PyData.eqv]; rfl
end VS
namespace K07
open PySem L2 VS
theorem rp_name {z : Str} (h : IsName z) : RP (.str z) 6 0 := rp_str h.hi fun c hc => by have := h.az c hc; omega
theorem rp_fire {few : Nat} {f : Fire} (h3 : few ≤ 3) (p1 : IsName f.name) (p2 : Hung few f.hung) (p3 : f.feed.length ≤ 16) (p4 : ∀ z ∈ f.feed, IsName z) : RP f.d 339 2 := by
  have hl := p2.len
  refine rp_tup (w := 112) (n := 1) ?_ (by simp)
  intro d hd
  simp only [List.mem_cons, List.not_mem_nil, or_false] at hd
  rcases hd with rfl | rfl | rfl
  · exact (rp_name p1).mono (by decide) (by decide)
  · exact (rp_ints (m := 96) (fun x hx => by have := p2.bd x hx; omega) (by omega)).mono (by decide) (by decide)
  · refine rp_tup (w := 6) (n := 0) (fun d hd => ?_) (by rw [List.length_map]; omega)
    obtain ⟨z, hz, rfl⟩ := List.mem_map.mp hd
    exact rp_name (p4 z hz)
theorem rp_each {few : Nat} {fs : List Fire} (h3 : few ≤ 3) (hr : RowsOk few fs) : ∀ d ∈ fs.map Fire.d, RP d 339 2 := by
  intro d hd
  obtain ⟨f, hf, rfl⟩ := List.mem_map.mp hd
  obtain ⟨p1, p2, p3, p4⟩ := hr f hf
  exact rp_fire h3 p1 p2 p3 p4
theorem rp_tfires {few : Nat} {fs : List Fire} (h3 : few ≤ 3) (hl : fs.length ≤ 16) (hr : RowsOk few fs) : RP (.tup (fs.map Fire.d)) 5440 3 := rp_tup (rp_each h3 hr) (by rw [List.length_map]; omega)
theorem str_num {n : Nat} (h : n ≤ 16) : strD (.int n) = some (.str (num n)) := by
  unfold strD
  simp only []
  rw [if_pos (by unfold big; omega)]; rfl
end K07
set_option maxHeartbeats 1000000
namespace K07
open PySem L2 VS
def nameB (z : Str) : Bool := decide (1 ≤ z.length) && (decide (z.length ≤ 6) && z.cps.toList.all fun c => decide (97 ≤ c) && decide (c ≤ 122))
theorem nameB_iff (z : Str) : nameB z = true ↔ IsName z := by
  simp only [nameB, Bool.and_eq_true, decide_eq_true_eq, List.all_eq_true]
  exact ⟨fun h => ⟨h.1, h.2.1, fun c hc => h.2.2 c hc⟩, fun h => ⟨h.lo, h.hi, fun c hc => h.az c hc⟩⟩
theorem is_name_gen (z : Str) (hl : z.length ≤ 1000000) : g_p_is_name [.v (.str z)] = some (.ok (.bl (nameB z)), []) := by
  apply wF_eq
  refine w_def rfl rfl ?_
  simp only [st_v, st_l, st_n, st_0, h_p_is_name]
  have e1 : z.length ≤ 16000000 := by omega
  by_cases h1 : 1 ≤ z.length
  · by_cases h2 : z.length ≤ 6
    · have e2 : (1 : Int) ≤ z.length := by omega
      have e3 : (z.length : Int) ≤ 6 := by omega
      obtain ⟨cs, hcs⟩ : ∃ cs, cs = z.cps.toList := ⟨_, rfl⟩
      have e4 : cs.length ≤ 1000000 := by rw [hcs, Array.length_toList]; exact Nat.le_trans h2 (by decide)
      have ea : (Str.ofString "a").cps.toList = [97] := by decide +kernel
      have ez : (Str.ofString "z").cps.toList = [122] := by decide +kernel
      simp [e1, e2, e3, signs, ← hcs, nameB, h1, h2]
      refine lc_map (fun c => .bl (decide (97 ≤ c) && decide (c ≤ 122))) e4 ?_ fun x hx => ?_
      · simp
        rw [hcs]; simp [h1, h2]
      · simp [ea, ez, List.cons_lt_cons_iff]
        by_cases q1 : 97 ≤ x
        · by_cases q2 : x ≤ 122
          · simp [q1, q2, Nat.not_lt.mpr q1, Nat.not_lt.mpr q2, ea, ez, List.cons_lt_cons_iff]
          · simp [q1, q2, Nat.not_lt.mpr q1, Nat.lt_of_not_le q2, ea, ez, List.cons_lt_cons_iff]
        · simp [q1, Nat.lt_of_not_le q1, ea, ez, List.cons_lt_cons_iff]
    · have e2 : (1 : Int) ≤ z.length := by omega
      have e3 : ¬ (z.length : Int) ≤ 6 := by omega
      simp [e1, e2, e3, nameB, h2]
  · have e2 : ¬ (1 : Int) ≤ z.length := by omega
    simp [e1, e2, nameB, h1]
def digB (c : Nat) : Bool := decide (48 ≤ c) && decide (c ≤ 57)
def numB (w : Str) : Bool := decide (1 ≤ w.length) && (decide (w.length ≤ 9) && (w.cps.toList.all digB && (decide (w = ("0" : Str)) || !decide (w.cps.toList.head? = some 48))))
def valN (cs : List Nat) : Nat := NumText.digitsVal cs
def valW (w : Str) : Int := (valN w.cps.toList : Nat)
theorem one_eq {c : Nat} : ((⟨#[c]⟩ : Str) = ("0" : Str)) ↔ c = 48 := by
  have : ("0" : Str) = ⟨#[48]⟩ := by decide +kernel
  rw [this]
  constructor
  · intro h
    have := congrArg (fun s : Str => s.cps.toList) h
    simpa using this
  · intro h; rw [h]
theorem is_number_gen (w : Str) (hl : w.length ≤ 1000000) : g_p_is_number [.v (.str w)] = some (.ok (.bl (numB w)), []) := by
  apply wF_eq
  refine w_def rfl rfl ?_
  simp only [st_v, st_l, st_n, st_0, h_p_is_number]
  have e1 : w.length ≤ 16000000 := by omega
  by_cases h1 : 1 ≤ w.length
  · by_cases h2 : w.length ≤ 9
    · have e2 : (1 : Int) ≤ w.length := by omega
      have e3 : (w.length : Int) ≤ 9 := by omega
      obtain ⟨c, cs, hcs⟩ : ∃ c cs, w.cps.toList = c :: cs := by
        cases q : w.cps.toList with
        | nil =>
          have : w.cps.toList.length = w.length := Array.length_toList
          rw [q] at this; simp at this; omega
        | cons c cs => exact ⟨c, cs, rfl⟩
      have e4 : (c :: cs).length ≤ 1000000 := by rw [← hcs, Array.length_toList]; exact Nat.le_trans h2 (by decide)
      have ea : (Str.ofString "0").cps.toList = [48] := by decide +kernel
      have ez : (Str.ofString "9").cps.toList = [57] := by decide +kernel
      have ix : ixD (.str w) (.int 0) = some (.str ⟨#[c]⟩) := by
        have hlim : w.length ≤ lim := e1
        simp only [ixD]
        rw [if_pos hlim, hcs]
        simp [atI, ixN]
      obtain ⟨l, hl2⟩ : ∃ l, l = c :: cs := ⟨_, rfl⟩
      rw [← hl2] at hcs e4
      simp [e1, e2, e3, signs, hcs]
      refine lc_map (fun c => .bl (digB c)) e4 ?_ fun x hx => ?_
      · by_cases q : l.all digB = true
        · by_cases q0 : w = ("0" : Str)
          · have : numB ("0" : Str) = true := by decide
            simp [q, q0, this]
          · have hd : l.head? = some c := by rw [hl2]; rfl
            simp [q, q0, ix, numB, h1, h2, hcs, hd, one_eq]
        · have q' : l.all digB = false := by simpa using q
          simp [q', numB, hcs]
      · simp [ea, ez, List.cons_lt_cons_iff, digB]
        by_cases q1 : 48 ≤ x
        · by_cases q2 : x ≤ 57
          · simp [q1, q2, Nat.not_lt.mpr q1, Nat.not_lt.mpr q2, ea, ez, List.cons_lt_cons_iff]
          · simp [q1, q2, Nat.not_lt.mpr q1, Nat.lt_of_not_le q2, ea, ez, List.cons_lt_cons_iff]
        · simp [q1, Nat.lt_of_not_le q1, ea, ez, List.cons_lt_cons_iff]
    · have e2 : (1 : Int) ≤ w.length := by omega
      have e3 : ¬ (w.length : Int) ≤ 9 := by omega
      simp [e1, e2, e3, numB, h2]
  · have e2 : ¬ (1 : Int) ≤ w.length := by omega
    simp [e1, e2, numB, h1]
theorem num_all {w : Str} (h : numB w = true) : 1 ≤ w.length ∧ w.length ≤ 9 ∧ NumText.AllDigits w.cps.toList ∧ (w = ("0" : Str) ∨ w.cps.toList.head? ≠ some 48) := by
  simp only [numB, Bool.and_eq_true, decide_eq_true_eq, List.all_eq_true, Bool.or_eq_true, Bool.not_eq_true', decide_eq_false_iff_not] at h
  refine ⟨h.1, h.2.1, fun c hc => ?_, h.2.2.2⟩
  have := h.2.2.1 c hc
  simpa [digB] using this
theorem int_val {w : Str} (h : numB w = true) : intSD (.str w) = some (.int (valW w)) := by
  obtain ⟨h1, h2, h3, _⟩ := num_all h
  have ne : w.cps.toList ≠ [] := fun e => by
    have : w.cps.toList.length = w.length := Array.length_toList
    rw [e] at this; simp at this; omega
  have := PySem.intText_digits h3 ne (by omega)
  simp only [intSD]
  rw [if_pos (by omega), this]; rfl
theorem fold_ge : ∀ (cs : List Nat) (a : Nat), a ≤ cs.foldl (fun acc c => acc * 10 + (c - 48)) a
  | [], a => Nat.le_refl _
  | c :: cs, a => by
    rw [List.foldl_cons]
    exact Nat.le_trans (show a ≤ a * 10 + (c - 48) by omega) (fold_ge cs _)
theorem val_small {w : Str} (h : numB w = true) (h9 : valW w ≤ 9) : w.length = 1 := by
  obtain ⟨h1, h2, h3, h4⟩ := num_all h
  rcases h4 with rfl | h4
  · decide
  · have hl : w.cps.toList.length = w.length := Array.length_toList
    match q : w.cps.toList with
    | [] => rw [q] at hl; simp at hl; omega
    | [c] => rw [q] at hl; simpa using hl.symm
    | c :: d :: cs =>
      exfalso
      have hc := h3 c (by rw [q]; simp)
      rw [q] at h4
      have h5 : c ≠ 48 := by simpa using h4
      have : valN w.cps.toList ≥ 10 := by
        unfold valN NumText.digitsVal
        rw [q, List.foldl_cons, List.foldl_cons]
        refine Nat.le_trans ?_ (fold_ge cs _)
        omega
      unfold valW at h9
      omega
theorem one_of {w : Str} (h : w.length = 1) : ∃ c, w = ⟨#[c]⟩ := by
  obtain ⟨cps⟩ := w
  have h' : cps.size = 1 := h
  obtain ⟨l⟩ := cps
  match l, h' with
  | [c], _ => exact ⟨c, rfl⟩
theorem num_one {c : Nat} (h : digB c = true) : numB ⟨#[c]⟩ = true ∧ valW ⟨#[c]⟩ = (c : Int) - 48 := by
  have hb : 48 ≤ c ∧ c ≤ 57 := by simpa [digB] using h
  have : c = 48 ∨ c = 49 ∨ c = 50 ∨ c = 51 ∨ c = 52 ∨ c = 53 ∨ c = 54 ∨ c = 55 ∨ c = 56 ∨ c = 57 := by omega
  rcases this with rfl | rfl | rfl | rfl | rfl | rfl | rfl | rfl | rfl | rfl <;> decide
theorem take_all {p : Str → Bool} : ∀ {ws : List Str}, ws.all p = true → ws.takeWhile p = ws
  | [], _ => rfl
  | w :: ws, h => by
    rw [List.all_cons, Bool.and_eq_true] at h
    rw [List.takeWhile_cons_of_pos h.1, take_all h.2]
theorem numbers_ahead_gen (ws : List Str) (hn : ws.length ≤ 1000000) (hl : ∀ w ∈ ws, w.length ≤ 1000000) : g_p_numbers_ahead [.v (.lst (ws.map D.str))] = some (.ok (.tup ((ws.takeWhile numB).map fun w => .int (valW w))), []) := by
  apply wF_eq
  refine w_def rfl rfl ?_
  simp only [st_v, st_l, st_n, st_0, h_p_numbers_ahead]
  simp
  refine for_inv D.str (fun pre post ρ => ∃ (o : Option D), pre.all numB = true ∧ ρ = [some (Sl.val (D.lst (ws.map D.str))), some (Sl.own false (MO.lst (pre.map fun w => D.int (valW w)))), o.map Sl.val]) ws ⟨none, rfl, rfl⟩ ?_ ?_
  · rintro ρ ⟨o, h1, rfl⟩
    have : ws.takeWhile numB = ws := take_all h1
    simp [tupleE, tupleD, seqOf, this]
  · rintro pre x post ρ hx ⟨o, h1, rfl⟩
    have hm : x ∈ ws := by rw [hx]; simp
    have lx := hl x hm
    have lp : pre.length < 16000000 := by
      have := congrArg List.length hx
      simp at this; omega
    by_cases q : numB x = true
    · simp [is_number_gen x lx, q, int_val q, lp, lim]
      exact hide ⟨some (.str x), by rw [List.all_append, h1]; simp [q], by simp⟩
    · have q' : numB x = false := by simpa using q
      have : ws.takeWhile numB = pre := by
        rw [hx, List.takeWhile_append_of_pos (List.all_eq_true.mp h1), List.takeWhile_cons_of_neg (by simp [q'])]; simp
      simp [is_number_gen x lx, q', tupleE, tupleD, seqOf, this]
end K07
set_option maxHeartbeats 1000000
namespace K07
open PySem L2 VS
def toldB : List Str → Bool
  | [] => true
  | w :: ws => decide (w = ("over" : Str)) && (!decide (ws = []) && ws.all nameB)
theorem told_gen (ws : List Str) (hn : ws.length ≤ 1000000) (hl : ∀ w ∈ ws, w.length ≤ 1000000) : g_p_are_feeders_told [.v (.lst (ws.map D.str))] = some (.ok (.bl (toldB ws)), []) := by
  apply wF_eq
  refine w_def rfl rfl ?_
  simp only [st_v, st_l, st_n, st_0, h_p_are_feeders_told]
  cases ws with
  | nil => simp [truD, toldB]
  | cons w ws =>
    have e1 : ixD (.lst (D.str w :: ws.map D.str)) (.int 0) = some (.str w) := ix0 _ _
    have e2 : truD (.lst (D.str w :: ws.map D.str)) = some true := rfl
    have e3 : lenD (.lst (D.str w :: ws.map D.str)) = some (.int ((ws.length : Int) + 1)) := by
      simp only [lenD, List.length_cons, List.length_map]
      exact congrArg (fun q => some (D.int q)) (by omega)
    have e6 : cutD (D.str w :: ws.map D.str) (some 1) none = ws.map D.str := cut1 _ _
    have e7 : slD (.lst (D.str w :: ws.map D.str)) (some 1) none = some (.lst (ws.map D.str)) := by simp only [slD, e6]
    by_cases q : w = ("over" : Str)
    · by_cases q2 : ws = []
      · simp [e1, e2, e3, q, q2, toldB]
      · have e4 : (1 : Int) < (ws.length : Int) + 1 := by
          have : ws.length ≠ 0 := fun h => q2 (List.eq_nil_of_length_eq_zero h)
          omega
        subst q
        simp [e1, e2, e3, e4, e7]
        refine lc_map (fun z => .bl (nameB z)) (by simp at hn; omega) ?_ fun z hz => ?_
        · simp [toldB, q2]
        · simp [is_name_gen z (hl z (by simp [hz]))]
    · simp [e1, e2, q, toldB]
def toldF : List Str → Option Fire
  | hd :: z :: more => if more ≠ [] ∧ hd = ("hearth" : Str) ∧ nameB z = true ∧ more.takeWhile numB ≠ [] ∧ toldB (more.dropWhile numB) = true then some ⟨z, (more.takeWhile numB).map valW, (more.dropWhile numB).drop 1⟩ else none
  | _ => none
def fireD : Option Fire → D
  | none => .non
  | some f => f.d
theorem drop_while {p : Str → Bool} : ∀ ws : List Str, ws.drop (ws.takeWhile p).length = ws.dropWhile p
  | [] => rfl
  | w :: ws => by
    by_cases h : p w = true
    · rw [List.takeWhile_cons_of_pos h, List.dropWhile_cons_of_pos h, List.length_cons, List.drop_succ_cons, drop_while ws]
    · rw [List.takeWhile_cons_of_neg h, List.dropWhile_cons_of_neg h]; rfl
theorem cut_drop (ds : List D) (k : Nat) (h : k ≤ ds.length) : cutD ds (some (k : Int)) none = ds.drop k := by
  have := cutn (ds.take k) (ds.drop k) (n := (k : Int)) (by rw [List.length_take, Nat.min_eq_left h])
  rwa [List.take_append_drop] at this
theorem hearth_told_gen (ws : List Str) (hn : ws.length ≤ 1000000) (hl : ∀ w ∈ ws, w.length ≤ 1000000) : g_p_hearth_told [.v (.lst (ws.map D.str))] = some (.ok (fireD (toldF ws)), []) := by
  apply wF_eq
  refine w_def rfl rfl ?_
  simp only [st_v, st_l, st_n, st_0, h_p_hearth_told]
  by_cases h3 : ws.length < 3
  · have e0 : (ws.length : Int) < 3 := by omega
    have e9 : toldF ws = none := by
      match ws, h3 with
      | [], _ => rfl
      | [_], _ => rfl
      | [_, _], _ => simp [toldF]
      | _ :: _ :: _ :: _, h3 => simp at h3; omega
    simp [e0, e9, fireD]
  · obtain ⟨hd, z, more, e⟩ : ∃ hd z more, ws = hd :: z :: more := by
      match ws, h3 with
      | [], h3 => exact absurd (show ([] : List Str).length < 3 by decide) h3
      | [a], h3 => exact absurd (show [a].length < 3 by simp) h3
      | hd :: z :: more, _ => exact ⟨hd, z, more, rfl⟩
    have hr : more ≠ [] := fun e' => by rw [e, e'] at h3; simp at h3
    have lz : z ∈ ws := by rw [e]; simp
    have lm : ∀ w ∈ more, w ∈ ws := fun w hw => by rw [e]; simp [hw]
    have ln : ws.length = more.length + 2 := by rw [e]; simp
    have e0 : ¬ (ws.length : Int) < 3 := by omega
    have nz := is_name_gen z (hl z lz)
    have na := numbers_ahead_gen more (by omega) (fun w hw => hl w (lm w hw))
    have hle : (more.takeWhile numB).length ≤ more.length := List.Sublist.length_le (List.takeWhile_sublist _)
    obtain ⟨W, hW⟩ : ∃ W, W = ws.map D.str := ⟨_, rfl⟩
    have hW2 : W = D.str hd :: D.str z :: more.map D.str := by rw [hW, e]; rfl
    have l0 : lenD (.lst W) = some (.int (ws.length : Int)) := by simp only [lenD, hW, List.length_map]
    have e1 : ixD (.lst W) (.int 0) = some (.str hd) := by rw [hW2]; exact ix0 _ _
    have e2 : ixD (.lst W) (.int 1) = some (.str z) := by rw [hW2]; exact ix1 _ _ _
    have c2 : slD (.lst W) (some 2) none = some (.lst (more.map D.str)) := by
      have := cut_drop W 2 (by rw [hW2]; simp)
      simp only [slD]
      rw [show ((2 : Nat) : Int) = 2 from rfl] at this
      rw [this, hW2]; rfl
    have c3 : slD (.lst W) (some (2 + ((more.takeWhile numB).length : Int))) none = some (.lst ((more.dropWhile numB).map D.str)) := by
      have := cut_drop W (2 + (more.takeWhile numB).length) (by rw [hW2]; simp; omega)
      simp only [slD]
      rw [show ((2 + (more.takeWhile numB).length : Nat) : Int) = 2 + ((more.takeWhile numB).length : Int) by omega] at this
      rw [this, hW2, Nat.add_comm, List.drop_succ_cons, List.drop_succ_cons, ← List.map_drop, drop_while]
    have sub : ∀ w ∈ more.dropWhile numB, w ∈ more := fun w hw => (List.dropWhile_sublist _).subset hw
    have tg := told_gen (more.dropWhile numB) (by have := List.Sublist.length_le (List.dropWhile_sublist (p := numB) (l := more)); omega) (fun w hw => hl w (lm w (sub w hw)))
    have c4 : slD (.lst ((more.dropWhile numB).map D.str)) (some 1) none = some (.lst (((more.dropWhile numB).drop 1).map D.str)) := by
      simp only [slD]
      cases more.dropWhile numB with
      | nil => rfl
      | cons a l => rw [show cutD ((a :: l).map D.str) (some 1) none = l.map D.str from cut1 _ _]; rfl
    have tt : tupleE (.lst (((more.dropWhile numB).drop 1).map D.str)) = some (.tup (((more.dropWhile numB).drop 1).map D.str)) := rfl
    have tf : toldF ws = if more ≠ [] ∧ hd = ("hearth" : Str) ∧ nameB z = true ∧ more.takeWhile numB ≠ [] ∧ toldB (more.dropWhile numB) = true then some ⟨z, (more.takeWhile numB).map valW, (more.dropWhile numB).drop 1⟩ else none := by rw [e]; rfl
    rw [← hW]
    generalize more.takeWhile numB = M at *
    generalize more.dropWhile numB = B at *
    by_cases q1 : hd = ("hearth" : Str)
    · by_cases q2 : nameB z = true
      · cases M with
        | nil =>
          have e9 : toldF ws = none := by rw [tf]; simp
          simp only [List.map_nil, List.length_nil] at na c3
          simp [l0, e0, e1, q1, e2, nz, q2, c2, na, c3, e9, fireD, truD]
        | cons m M =>
          have tr : truD (.tup ((m :: M).map fun w => D.int (valW w))) = some true := rfl
          have ll : lenD (.tup ((m :: M).map fun w => D.int (valW w))) = some (.int (((m :: M).length : Nat) : Int)) := by simp only [lenD, List.length_map]
          have mm : (m :: M).map (fun w => D.int (valW w)) = ((m :: M).map valW).map D.int := by rw [List.map_map]; rfl
          by_cases q3 : toldB B = true
          · have e9 : toldF ws = some ⟨z, (m :: M).map valW, B.drop 1⟩ := by rw [tf, if_pos ⟨hr, q1, q2, by simp, q3⟩]
            have e10 : fireD (toldF ws) = .tup [.str z, .tup ((m :: M).map fun w => D.int (valW w)), .tup ((B.drop 1).map D.str)] := by rw [e9, mm]; rfl
            rw [e10]
            simp [l0, e0, e1, q1, e2, nz, q2, c2, na, c3, tr, ll, tg, q3, c4, tt, -List.map_cons, -List.length_cons, -List.drop_one]
            simp [-List.map_cons, -List.drop_one]
          · have q3' : toldB B = false := by simpa using q3
            have e9 : toldF ws = none := by rw [tf, if_neg (fun h => q3 h.2.2.2.2)]
            simp [l0, e0, e1, q1, e2, nz, q2, c2, na, c3, tr, ll, tg, q3', e9, fireD, -List.map_cons, -List.length_cons]
      · have q2' : nameB z = false := by simpa using q2
        have e9 : toldF ws = none := by rw [tf, if_neg (fun h => q2 h.2.2.1)]
        simp [l0, e0, e1, q1, e2, nz, q2', e9, fireD]
    · have e9 : toldF ws = none := by rw [tf, if_neg (fun h => q1 h.2.1)]
      simp [l0, e0, e1, q1, e9, fireD]
end K07
set_option maxHeartbeats 1000000
namespace K07
open PySem L2 VS
def rngB (x : Int) : Bool := decide (0 ≤ x) && decide (x ≤ 9)
def hungB (few : Nat) (hs : List Int) : Bool := decide (hs.length = few) && (hs.all rngB && hs.any fun x => decide (0 < x))
def feedB (names : List Str) (zs : List Str) : Bool := (zs.all fun z => decide (z ∈ names)) && decide zs.Nodup
def goodB (few : Nat) (names : List Str) (f : Fire) : Bool := nameB f.name && (!decide (f.name ∈ names) && (hungB few f.hung && feedB names f.feed))
theorem good_iff {few : Nat} {names : List Str} {f : Fire} : goodB few names f = true ↔ IsName f.name ∧ f.name ∉ names ∧ Hung few f.hung ∧ f.feed.Nodup ∧ ∀ z ∈ f.feed, z ∈ names := by
  have e1 : hungB few f.hung = true ↔ Hung few f.hung := by
    simp only [hungB, Bool.and_eq_true, decide_eq_true_eq, List.all_eq_true, List.any_eq_true, rngB]
    exact ⟨fun h => ⟨h.1, h.2.1, h.2.2⟩, fun h => ⟨h.len, h.bd, h.pos⟩⟩
  simp only [goodB, feedB, Bool.and_eq_true, Bool.not_eq_true', decide_eq_false_iff_not, nameB_iff, e1, decide_eq_true_eq, List.all_eq_true]
  exact ⟨fun h => ⟨h.1, h.2.1, h.2.2.1, h.2.2.2.2, h.2.2.2.1⟩, fun h => ⟨h.1, h.2.1, h.2.2.1, h.2.2.2.2, h.2.2.2.1⟩⟩
theorem are_hungers_gen {few : Nat} {hs : List Int} (hl : hs.length ≤ 1000000) : g_p_are_hungers [.v (.tup (hs.map .int)), .v (.int few)] = some (.ok (.bl (hungB few hs)), []) := by
  apply wF_eq
  refine w_def rfl rfl ?_
  simp only [st_v, st_l, st_n, st_0, h_p_are_hungers]
  by_cases h1 : hs.length = few
  · simp [h1, hungB]
    refine lc_map (fun x => .bl (rngB x)) (by omega) ?_ fun x hx => ?_
    · by_cases h2 : hs.all rngB = true
      · simp [h2]
        refine lc_map (fun x => .bl (decide (0 < x))) (by omega) ?_ fun x hx => ?_
        · simp [h1, h2]
        · simp
      · have h3 : hs.all rngB = false := by simpa using h2
        simp [h3]
    · simp [rngB]
  · have h2 : ¬ (hs.length : Int) = (few : Int) := by omega
    simp [h1, h2, hungB]
theorem are_feeders_gen {zs : List Str} {fs : List Fire} (hl : zs.length ≤ 1000) : g_p_are_feeders [.v (.tup (zs.map .str)), .l (.dct (fireKs fs))] = some (.ok (.bl (feedB (fs.map Fire.name) zs)), [.dct (fireKs fs)]) := by
  apply wF_eq
  refine w_def rfl rfl ?_
  simp only [st_v, st_l, st_n, st_0, h_p_are_feeders]
  simp
  refine lc_map (fun z => .bl (decide (z ∈ fs.map Fire.name))) (by omega) ?_ fun x hx => ?_
  · by_cases h2 : (zs.all fun z => decide (z ∈ fs.map Fire.name)) = true
    · have e2 : lenSetD (.tup (zs.map .str)) = some (.int (distinct zs : Nat)) := by
        simp only [lenSetD, strsOf_map, Option.bind_some]
        rw [if_pos hl]
      have e4 : decide ((distinct zs : Int) = (zs.length : Int)) = decide zs.Nodup := by
        rw [decide_eq_decide, ← distinct_iff]
        omega
      simp [h2, e2, e4, feedB, -List.mem_map]
    · have h3 : (zs.all fun z => decide (z ∈ fs.map Fire.name)) = false := by simpa using h2
      simp [h3, feedB, -List.mem_map]
  · simp [val_ks, -List.mem_map]
structure Small (f : Fire) : Prop where
  nm : f.name.length ≤ 1000000
  hg : f.hung.length ≤ 1000000
  fd : f.feed.length ≤ 1000
theorem is_hearth_gen {few : Nat} {fs : List Fire} {f : Fire} (h : Small f) : g_p_is_hearth [.v f.d, .v (.int few), .l (.dct (fireKs fs))] = some (.ok (.bl (goodB few (fs.map Fire.name) f)), [.dct (fireKs fs)]) := by
  apply wF_eq
  refine w_def rfl rfl ?_
  simp only [st_v, st_l, st_n, st_0, h_p_is_hearth]
  have na := is_name_gen f.name h.nm
  have hb := are_hungers_gen (few := few) h.hg
  have fc := are_feeders_gen (fs := fs) h.fd
  cases q : nameB f.name with
  | false => simp [Fire.d, na, q, goodB]
  | true =>
    by_cases qi : f.name ∈ fs.map Fire.name
    · simp [Fire.d, na, q, val_ks, qi, goodB, -List.mem_map]
    · simp [Fire.d, na, q, val_ks, qi, goodB, hb, -List.mem_map]
      cases qh : hungB few f.hung with
      | false => simp [qh]
      | true => simp [qh, fc, q, qi, -List.mem_map]
theorem small_fire {few : Nat} {fs : List Fire} (hl : fs.length ≤ 16) (h : Fires few fs) (h3 : few ≤ 3) : ∀ f ∈ fs, Small f := fun f hf => by
  have h1 := (h.nm f hf).hi
  have h2 := (h.hg f hf).len
  have h4 := (rows_of h hl f hf).2.2.1
  exact ⟨by omega, by omega, by omega⟩
theorem put_fire {gs : List Fire} {f : Fire} (h : f.name ∉ gs.map Fire.name) : putD (fireKs gs) (.inr f.name) f.d = fireKs (gs ++ [f]) := by
  have h8 : ((fireKs gs).any fun kv => decide (kv.1 = .inr f.name)) = false := by
    rw [List.any_eq_false]
    intro kv hkv
    unfold fireKs at hkv
    obtain ⟨g, h1, rfl⟩ := List.mem_map.mp hkv
    simp only [decide_eq_true_eq]
    intro z
    exact h (List.mem_map.mpr ⟨g, h1, by simpa using z⟩)
  unfold putD
  rw [h8]
  simp [fireKs]
theorem by_name_gen {few : Nat} {fs : List Fire} {f : Fire} (h3 : few ≤ 3) (hl : fs.length < 16) (hf : Fires few fs) (hs : Small f) : g_p_hearths_by_name [.v (.int few), .v (.tup ((fs ++ [f]).map Fire.d))] = some (if goodB few (fs.map Fire.name) f = true then .nw (.dct (fireKs (fs ++ [f]))) else .ex 2 [.int fs.length], []) := by
  apply wF_eq
  refine w_def rfl rfl ?_
  simp only [st_v, st_l, st_n, st_0, h_p_hearths_by_name]
  obtain ⟨xs, hxs⟩ : ∃ xs, xs = fs ++ [f] := ⟨_, rfl⟩
  have lx : xs.length = fs.length + 1 := by rw [hxs]; simp
  rw [← hxs]
  have e : ¬ (16 : Int) < xs.length := by omega
  simp [e]
  rw [enum_mapF]
  refine for_inv _ (fun pre post ρ => ∃ (o o' : Option D), (pre.length ≤ fs.length ∨ goodB few (fs.map Fire.name) f = true) ∧ ρ = [some (.val (.int few)), some (.val (.tup (xs.map Fire.d))), some (.own false (.dct (fireKs (pre.map (·.1))))), o.map Sl.val, o'.map Sl.val]) xs.zipIdx ⟨none, none, .inl (by simp), rfl⟩ ?_ ?_
  · rintro ρ ⟨o, o', hg, rfl⟩
    have e2 : xs.zipIdx.map (·.1) = xs := by simp
    have hg2 : goodB few (fs.map Fire.name) f = true := by
      rcases hg with q | q
      · simp at q; omega
      · exact q
    simp [hg2, e2]
  · rintro pre p post ρ hx ⟨o, o', hg, rfl⟩
    have e1 : xs.zipIdx.map (·.1) = xs := by simp
    have e2 : xs = pre.map (·.1) ++ p.1 :: post.map (·.1) := by rw [← e1, hx]; simp
    have e3 : p.2 = pre.length := by
      have := congrArg (·[pre.length]?) hx
      simp [List.getElem?_zipIdx] at this
      obtain ⟨a, _, rfl⟩ := this
      rfl
    have lp : pre.length < xs.length := by
      have := congrArg List.length e2
      simp at this; omega
    have hpre : pre.map (·.1) = xs.take pre.length := by
      rw [e2]; simp
    have hpt : pre.map (·.1) = fs.take pre.length := by
      rw [hpre, hxs, List.take_append_of_le_length (by omega)]
    have hat : xs[pre.length]? = some p.1 := by rw [e2]; simp
    have h9 : (fireKs (pre.map (·.1))).length < 16000000 := by
      simp [fireKs]; omega
    have hn : ixD p.1.d (.int 0) = some (.str p.1.name) := by simp [Fire.d]
    by_cases hk : pre.length < fs.length
    · have hix : fs[pre.length]? = some p.1 := by
        rw [hxs, List.getElem?_append_left hk] at hat
        exact hat
      have hm : p.1 ∈ fs := List.mem_of_getElem? hix
      have h5 := hf.fd _ _ hix
      rw [← hpt] at h5
      have h6 : p.1.name ∉ (pre.map (·.1)).map Fire.name := by
        have nd := hf.nd
        have : fs = pre.map (·.1) ++ fs.drop pre.length := by rw [hpt, List.take_append_drop]
        have d0 : fs.drop pre.length = p.1 :: fs.drop (pre.length + 1) := by
          rw [List.drop_eq_getElem_cons hk]
          congr 1
          rw [List.getElem?_eq_getElem hk] at hix
          exact Option.some.inj hix
        rw [this, d0, List.map_append, List.nodup_append] at nd
        exact fun h => nd.2.2 _ h _ (by simp) rfl
      have hgd : goodB few ((pre.map (·.1)).map Fire.name) p.1 = true := good_iff.mpr ⟨hf.nm _ hm, h6, hf.hg _ hm, h5.1, h5.2⟩
      have h7 := is_hearth_gen (few := few) (fs := pre.map (·.1)) (small_fire (by omega) hf h3 _ hm)
      have h10 := put_fire h6
      simp [h7, hgd, hn, h9, h10, -List.map_map]
      exact hide ⟨some (.int p.2), some p.1.d, .inl (by simp; omega), by rw [h10]; simp⟩
    · have hk2 : pre.length = fs.length := by omega
      have hpf : p.1 = f := by
        rw [hxs, hk2, List.getElem?_append_right (Nat.le_refl _)] at hat
        simpa using hat.symm
      have hpp : pre.map (·.1) = fs := by rw [hpt, hk2, List.take_length]
      have h7 := is_hearth_gen (few := few) (fs := fs) hs
      rw [hpp] at h9 ⊢
      rw [hpf] at hn ⊢
      by_cases hgd : goodB few (fs.map Fire.name) f = true
      · have h6 := (good_iff.mp hgd).2.1
        have h10 := put_fire h6
        simp [h7, hgd, hn, h9, h10]
        exact hide ⟨some (.int p.2), some f.d, .inr hgd, by rw [h10, List.map_append, hpp]; simp [hpf]⟩
      · have hgd' : goodB few (fs.map Fire.name) f = false := by simpa using hgd
        have n1 : p.2 = fs.length := by omega
        have n2 : fs.length < 1000000000 := by omega
        simp [h7, hgd', n1, n2]
end K07
set_option maxHeartbeats 1000000
namespace K07
open PySem L2 VS
theorem init_gen {few : Nat} {fs : List Fire} {f : Fire} (h1 : 1 ≤ few) (h3 : few ≤ 3) (hl : fs.length < 16) (hf : Fires few fs) (hs : Small f) :
    g_m_Web_init [.l (.ins 0 []), .v (.int few), .v (.tup ((fs ++ [f]).map Fire.d))] = some (if goodB few (fs.map Fire.name) f = true then (.ok .non, [webM few (fs ++ [f])]) else (.ex 2 [.int fs.length], [.ins 0 []])) := by
  have e1 : (1 : Int) ≤ few := by omega
  have e2 : (few : Int) ≤ 3 := by omega
  have bn := by_name_gen h3 hl hf hs
  by_cases g : goodB few (fs.map Fire.name) f = true
  · rw [if_pos g] at bn ⊢
    apply wF_eq
    refine w_def rfl rfl ?_
    simp only [st_v, st_l, st_n, st_0, h_m_Web_init]
    simp [e1, e2, bn, VS.putAt, webM, -List.map_append]
  · rw [if_neg g] at bn ⊢
    apply wF_eq
    refine w_def rfl rfl ?_
    simp only [st_v, st_l, st_n, st_0, h_m_Web_init]
    simp [e1, e2, bn, VS.putAt, -List.map_append]
def webE (few : Nat) : D := .ins 0 [.dct [], .int few, .fru []]
def webEM (few : Nat) : MO := .ins 0 [.dct [], .int few, .fru []]
def webS (few : Nat) (fs : List Fire) : D := if fs = [] then webE few else webD few fs
@[simp] theorem webEM_frz (few : Nat) : (webEM few).frz = webE few := id rfl
@[simp] theorem webE_2 (few : Nat) : fldD 0 2 (webE few) = some (.fru []) := id rfl
@[simp] theorem webEM_plain (few : Nat) : (webEM few).plain = true := id rfl
theorem webS_ne {few : Nat} {fs : List Fire} (h : fs ≠ []) : webS few fs = webD few fs := if_neg h
theorem webS_snoc (few : Nat) (fs : List Fire) (f : Fire) : webS few (fs ++ [f]) = webD few (fs ++ [f]) := webS_ne (by simp)
theorem webS_nil (few : Nat) : webS few [] = webE few := if_pos rfl
@[simp] theorem webS_is (few : Nat) (fs : List Fire) : isIns 0 (webS few fs) = true := by
  unfold webS
  split <;> rfl
@[simp] theorem webS_1 (few : Nat) (fs : List Fire) : fldD 0 1 (webS few fs) = some (.int few) := by
  unfold webS
  split <;> rfl
theorem init_nil {few : Nat} (h1 : 1 ≤ few) (h3 : few ≤ 3) : g_m_Web_init [.l (.ins 0 []), .v (.int few), .v (.fru [])] = some (.ok .non, [webEM few]) := by
  have e1 : (1 : Int) ≤ few := by omega
  have e2 : (few : Int) ≤ 3 := by omega
  have e : g_p_hearths_by_name [.v (.int few), .v (.fru [])] = some (.nw (.dct []), []) := by
    apply wF_eq
    refine w_def rfl rfl ?_
    simp only [st_v, st_l, st_n, st_0, h_p_hearths_by_name]
    have i1 : isiB "tuple" (.fru []) = some true := show kitB "tuple" "tuple" = _ by decide +kernel
    have n1 : enumD (.fru []) = some [] := rfl
    have l1 : lenD (.fru []) = some (.int 0) := rfl
    have s1 : seqOf (.fru []) = some [] := rfl
    simp [i1, l1, s1, n1, enumFrom]
  apply wF_eq
  refine w_def rfl rfl ?_
  simp only [st_v, st_l, st_n, st_0, h_m_Web_init]
  simp [e, e1, e2, VS.putAt, webEM]
theorem init_not {i : Int} (h : ¬ (1 ≤ i ∧ i ≤ 3)) (d : D) : g_m_Web_init [.l (.ins 0 []), .v (.int i), .v d] = some (.ex 1 [], [.ins 0 []]) := by
  apply wF_eq
  refine w_def rfl rfl ?_
  simp only [st_v, st_l, st_n, st_0, h_m_Web_init]
  by_cases q : 1 ≤ i
  · have q2 : ¬ i ≤ 3 := fun z => h ⟨q, z⟩
    simp [q, q2]
  · simp [q]
theorem seen_add {few : Nat} {fs : List Fire} {f : Fire} (hl : fs.length ≤ 16) : ∃ d, fldD 0 2 (webS few fs) = some d ∧ addU d (.tup [f.d]) = some (.tup ((fs ++ [f]).map Fire.d)) := by
  by_cases c : fs = []
  · subst c
    exact ⟨.fru [], by rw [webS_nil]; rfl, rfl⟩
  · refine ⟨.tup (fs.map Fire.d), by rw [webS_ne c]; rfl, ?_⟩
    show addD (.tup (fs.map Fire.d)) (.tup [f.d]) = _
    simp only [addD, List.length_map, List.length_cons, List.length_nil, List.map_append, List.map_cons, List.map_nil]
    rw [if_pos (by unfold lim; omega)]
theorem built_gen {few : Nat} {fs : List Fire} {f : Fire} (h1 : 1 ≤ few) (h3 : few ≤ 3) (hl : fs.length < 16) (hf : Fires few fs) (hs : Small f) :
    g_m_Web_built [.v (webS few fs), .v f.d] = some (if goodB few (fs.map Fire.name) f = true then .ok (webD few (fs ++ [f])) else .ex 2 [.int fs.length], []) := by
  have e := init_gen h1 h3 hl hf hs
  obtain ⟨d, e2, e3⟩ := seen_add (few := few) (fs := fs) (f := f) (by omega)
  by_cases g : goodB few (fs.map Fire.name) f = true
  · rw [if_pos g] at e ⊢
    apply wF_eq
    refine w_def rfl rfl ?_
    simp only [st_v, st_l, st_n, st_0, h_m_Web_built]
    have g1 : (webM few (fs ++ [f])).plain = true := rfl
    have g2 : (webM few (fs ++ [f])).frz = webD few (fs ++ [f]) := rfl
    simp [e2, e3, e, g1, g2, -List.map_append]
  · rw [if_neg g] at e ⊢
    apply wF_eq
    refine w_def rfl rfl ?_
    simp only [st_v, st_l, st_n, st_0, h_m_Web_built]
    simp [e2, e3, e, -List.map_append]
theorem sub_sum {L M : List Str} (h : L.Sublist M) : (L.map (·.length)).sum + L.length ≤ (M.map (·.length)).sum + M.length := by
  induction h with
  | slnil => exact Nat.le_refl _
  | cons a _ ih => simp only [List.map_cons, List.sum_cons, List.length_cons]; omega
  | cons_cons a _ ih => simp only [List.map_cons, List.sum_cons, List.length_cons]; omega
theorem sum_ge : ∀ {L : List Str}, (∀ w ∈ L, 1 ≤ w.length) → L.length ≤ (L.map (·.length)).sum
  | [], _ => Nat.le_refl _
  | w :: L, h => by
    have a := h w (by simp)
    have b := sum_ge fun v hv => h v (List.mem_cons_of_mem _ hv)
    simp only [List.map_cons, List.sum_cons, List.length_cons]; omega
theorem told_small {r : Str} {f : Fire} (hl : r.length ≤ 1900) (h : toldF (PySem.Txt.split r " ") = some f) : Small f := by
  have b1 := PyProof.Rows.split_le r " "
  have b2 := PyProof.Rows.split_weight r " " (by decide)
  have b3 : ∀ w ∈ PySem.Txt.split r " ", w.length ≤ r.length := fun w hw => PyProof.Rows.part_short hw
  generalize PySem.Txt.split r " " = ws at *
  match ws, h with
  | hd :: z :: more, h =>
    simp only [toldF] at h
    split at h
    · rename_i c
      cases h
      have s1 : (more.dropWhile numB).Sublist more := List.dropWhile_sublist _
      have s2 : ((more.dropWhile numB).drop 1).Sublist more := (List.drop_sublist _ _).trans s1
      have s3 : ((more.dropWhile numB).drop 1).Sublist (hd :: z :: more) := (s2.trans (List.sublist_cons_self _ _)).trans (List.sublist_cons_self _ _)
      have len1 : ∀ w ∈ (more.dropWhile numB).drop 1, 1 ≤ w.length := by
        intro w hw
        have t := c.2.2.2.2
        cases q : more.dropWhile numB with
        | nil => rw [q] at hw; simp at hw
        | cons a l =>
          rw [q] at t hw
          simp only [toldB, Bool.and_eq_true, List.all_eq_true] at t
          exact ((nameB_iff w).mp (t.2.2 w (by simpa using hw))).lo
      have s4 := sub_sum s3
      have s5 := sum_ge len1
      have s6 : (more.takeWhile numB).length ≤ more.length := List.Sublist.length_le (List.takeWhile_sublist _)
      have s7 := b3 z (by simp)
      simp only [List.length_cons] at b1
      exact ⟨by show z.length ≤ _; omega, by show ((more.takeWhile numB).map valW).length ≤ _; rw [List.length_map]; omega, by show ((more.dropWhile numB).drop 1).length ≤ _; omega⟩
    · cases h
def rowP (few : Nat) (names : List Str) (r : Str) : Option Fire := (toldF (PySem.Txt.split r " ")).bind fun f => if goodB few names f = true then some f else none
def rowR (few : Nat) (fs : List Fire) (k : Int) : Option Fire → Res
  | some f => .ok (webS few (fs ++ [f]))
  | none => .ex 3 [.int k]
theorem split_D {r y : Str} (hl : r.length ≤ 1000000) (hy : (y.length == 0) = false) : splitD (.str r) (.str y) = some (.lst ((PySem.Txt.split r y).map D.str)) := by
  simp only [splitD]
  rw [if_pos ⟨hy, by unfold lim; omega⟩]
theorem with_row_gen {few : Nat} {fs : List Fire} {k : Nat} {r : Str} (h1 : 1 ≤ few) (h3 : few ≤ 3) (hl : fs.length < 16) (hf : Fires few fs) (hr : r.length ≤ 1900) (hk : k ≤ 1000000) :
    g_p_web_with_row [.v (webS few fs), .v (.str r), .v (.int (k : Int))] = some (rowR few fs k (rowP few (fs.map Fire.name) r), []) := by
  have sp := split_D (y := " ") (Nat.le_trans hr (by decide)) (by decide)
  have b1 := PyProof.Rows.split_le r " "
  have told := hearth_told_gen (PySem.Txt.split r " ") (by omega) (fun w hw => by have := PyProof.Rows.part_short hw; omega)
  have n2 : (k : Nat) < 1000000000 := by omega
  apply wF_eq
  refine w_def rfl rfl ?_
  simp only [st_v, st_l, st_n, st_0, h_p_web_with_row]
  cases q : toldF (PySem.Txt.split r " ") with
  | none =>
    rw [q] at told
    have e4 : isND .non .non = some (.bl true) := rfl
    simp [sp, told, fireD, n2, rowP, q, rowR]
  | some f =>
    rw [q] at told
    have hs := told_small hr q
    have e4 : isND f.d .non = some (.bl false) := rfl
    have bu := built_gen h1 h3 hl hf hs
    by_cases g : goodB few (fs.map Fire.name) f = true
    · rw [if_pos g] at bu
      simp [sp, told, fireD, e4, bu, rowP, q, g, rowR, webS_snoc]
    · rw [if_neg g] at bu
      have g' : goodB few (fs.map Fire.name) f = false := by simpa using g
      simp [sp, told, fireD, e4, bu, rowP, q, g', rowR, n2]
theorem by_name_many {few : Nat} {ds : List D} (h : 16 < ds.length) (hl : ds.length ≤ 1000) : g_p_hearths_by_name [.v (.int few), .v (.tup ds)] = some (.ex 2 [.non], []) := by
  apply wF_eq
  refine w_def rfl rfl ?_
  simp only [st_v, st_l, st_n, st_0, h_p_hearths_by_name]
  have e : (16 : Int) < ds.length := by omega
  simp [e]
theorem init_many {few : Nat} {ds : List D} (h1 : 1 ≤ few) (h3 : few ≤ 3) (h : 16 < ds.length) (hl : ds.length ≤ 1000) : g_m_Web_init [.l (.ins 0 []), .v (.int few), .v (.tup ds)] = some (.ex 2 [.non], [.ins 0 []]) := by
  have e1 : (1 : Int) ≤ few := by omega
  have e2 : (few : Int) ≤ 3 := by omega
  have bn := by_name_many (few := few) h hl
  apply wF_eq
  refine w_def rfl rfl ?_
  simp only [st_v, st_l, st_n, st_0, h_m_Web_init]
  simp [e1, e2, bn]
theorem built_full {few : Nat} {fs : List Fire} {f : Fire} (h1 : 1 ≤ few) (h3 : few ≤ 3) (hl : fs.length = 16) : g_m_Web_built [.v (webS few fs), .v f.d] = some (.ex 2 [.non], []) := by
  have e := init_many (ds := (fs ++ [f]).map Fire.d) h1 h3 (by simp; omega) (by simp; omega)
  obtain ⟨d, e2, e3⟩ := seen_add (few := few) (fs := fs) (f := f) (by omega)
  apply wF_eq
  refine w_def rfl rfl ?_
  simp only [st_v, st_l, st_n, st_0, h_m_Web_built]
  simp [e2, e3, e, -List.map_append]
theorem with_row_full {few : Nat} {fs : List Fire} {k : Nat} {r : Str} (h1 : 1 ≤ few) (h3 : few ≤ 3) (hl : fs.length = 16) (hf : Fires few fs) (hr : r.length ≤ 1900) (hk : k ≤ 1000000) :
    g_p_web_with_row [.v (webS few fs), .v (.str r), .v (.int (k : Int))] = some (.ex 3 [.int k], []) := by
  have sp := split_D (y := " ") (Nat.le_trans hr (by decide)) (by decide)
  have b1 := PyProof.Rows.split_le r " "
  have told := hearth_told_gen (PySem.Txt.split r " ") (by omega) (fun w hw => by have := PyProof.Rows.part_short hw; omega)
  have n2 : (k : Nat) < 1000000000 := by omega
  apply wF_eq
  refine w_def rfl rfl ?_
  simp only [st_v, st_l, st_n, st_0, h_p_web_with_row]
  cases q : toldF (PySem.Txt.split r " ") with
  | none =>
    rw [q] at told
    have e4 : isND .non .non = some (.bl true) := rfl
    simp [sp, told, fireD, n2]
  | some f =>
    rw [q] at told
    have e4 : isND f.d .non = some (.bl false) := rfl
    have bu := built_full (f := f) h1 h3 hl
    simp [sp, told, fireD, e4, bu, n2]
end K07
set_option maxHeartbeats 1000000
namespace K07
open PySem L2 VS
def begunP (r : Str) : Option Nat := if r = ("stores 1" : Str) then some 1 else if r = ("stores 2" : Str) then some 2 else if r = ("stores 3" : Str) then some 3 else none
theorem begun_few {r : Str} {few : Nat} (h : begunP r = some few) : 1 ≤ few ∧ few ≤ 3 ∧ r = ("stores " : Str) ++ num few := by
  unfold begunP at h
  split at h
  · rename_i e; cases h; exact ⟨by decide, by decide, by rw [e]; decide⟩
  · split at h
    · rename_i e; cases h; exact ⟨by decide, by decide, by rw [e]; decide⟩
    · split at h
      · rename_i e; cases h; exact ⟨by decide, by decide, by rw [e]; decide⟩
      · cases h
theorem split_head {few : Nat} (h1 : 1 ≤ few) (h3 : few ≤ 3) : PySem.Txt.split (("stores " : Str) ++ num few) " " = [("stores" : Str), num few] ∧ numB (num few) = true ∧ valW (num few) = few := by
  have : few = 1 ∨ few = 2 ∨ few = 3 := by omega
  rcases this with rfl | rfl | rfl <;> decide +kernel
theorem begun_of {r w : Str} (hs : PySem.Txt.split r " " = [("stores" : Str), w]) (hn : numB w = true) (h1 : 1 ≤ valW w) (h3 : valW w ≤ 3) : ∃ few, begunP r = some few := by
  have e := StrLaws.join_split r " "
  rw [hs] at e
  have e2 : r = ("stores " : Str) ++ w := by rw [← e]; rfl
  obtain ⟨c, rfl⟩ := one_of (val_small hn (by omega))
  have dg : digB c = true := by
    simp only [numB, Bool.and_eq_true, List.all_eq_true] at hn
    exact hn.2.2.1 c (by simp)
  have v := (num_one dg).2
  have : c = 49 ∨ c = 50 ∨ c = 51 := by omega
  rw [e2]
  rcases this with rfl | rfl | rfl
  · exact ⟨1, by decide⟩
  · exact ⟨2, by decide⟩
  · exact ⟨3, by decide⟩
def begunR : Option Nat → Res
  | some few => .ok (webS few [])
  | none => .ex 3 [.int 0]
theorem begun_gen (r : Str) (hr : r.length ≤ 1900) : g_p_web_begun [.v (.str r)] = some (begunR (begunP r), []) := by
  have sp := split_D (y := " ") (Nat.le_trans hr (by decide)) (by decide)
  have b3 : ∀ w ∈ PySem.Txt.split r " ", w.length ≤ 1000000 := fun w hw => by have := PyProof.Rows.part_short hw; omega
  apply wF_eq
  refine w_def rfl rfl ?_
  simp only [st_v, st_l, st_n, st_0, h_p_web_begun]
  cases q : begunP r with
  | some few =>
    obtain ⟨h1, h3, e⟩ := begun_few q
    obtain ⟨s1, s2, s3⟩ := split_head h1 h3
    rw [← e] at s1
    rw [s1] at sp
    have n := is_number_gen (num few) (by have := num_len2 (n := few) (by omega); omega)
    have iv := int_val s2
    have e2 : ixD (.lst [.str "stores", .str (num few)]) (.int 0) = some (.str "stores") := ix0 _ _
    have e3 : ixD (.lst [.str "stores", .str (num few)]) (.int 1) = some (.str (num few)) := ix1 _ _ _
    simp only [List.map_cons, List.map_nil] at sp
    simp [sp, e2, e3, n, s2, iv, s3, init_nil h1 h3, begunR, webS_nil]
  | none =>
    generalize hws : PySem.Txt.split r " " = ws at *
    have no : ∀ w, ws = [("stores" : Str), w] → numB w = true → ¬ (1 ≤ valW w ∧ valW w ≤ 3) := fun w hw hn hv => by
      obtain ⟨few, e⟩ := begun_of (hws.trans hw) hn hv.1 hv.2
      rw [q] at e; cases e
    match ws with
    | [a, b] =>
      have e2 : ixD (.lst [.str a, .str b]) (.int 0) = some (.str a) := ix0 _ _
      have e3 : ixD (.lst [.str a, .str b]) (.int 1) = some (.str b) := ix1 _ _ _
      have n := is_number_gen b (b3 b (by simp))
      simp only [List.map_cons, List.map_nil] at sp
      by_cases q1 : a = ("stores" : Str)
      · by_cases q2 : numB b = true
        · have iv := int_val q2
          have nn := init_not (no b (by rw [q1]) q2) (.fru [])
          simp [sp, e2, q1, e3, n, q2, iv, nn, begunR]
        · have q2' : numB b = false := by simpa using q2
          simp [sp, e2, q1, e3, n, q2', begunR]
      · simp [sp, e2, q1, begunR]
    | [] => simp [sp, begunR]
    | [a] => simp [sp, begunR]
    | a :: b :: c :: ws =>
      have : ¬ ((ws.length : Int) + 1 + 1 + 1 = 2) := by omega
      simp [sp, this, begunR]
def readP (few : Nat) : List Fire → Nat → List Str → Nat ⊕ List Fire
  | fs, _, [] => .inr fs
  | fs, k, r :: rs => if fs.length < 16 then (match rowP few (fs.map Fire.name) r with
    | none => .inl k
    | some f => readP few (fs ++ [f]) (k + 1) rs) else .inl k
def textP (T : Str) : Nat ⊕ (Nat × List Fire) := match PySem.Txt.split T "\n" with
  | [] => .inl 0
  | r :: rs => match begunP r with
    | none => .inl 0
    | some few => match readP few [] 1 rs with
      | .inl k => .inl k
      | .inr fs => .inr (few, fs)
def readR : Nat ⊕ (Nat × List Fire) → Res
  | .inl k => .ex 3 [.int (k : Int)]
  | .inr (few, fs) => .ok (webS few fs)
theorem row_good {few : Nat} {fs : List Fire} {r : Str} {f : Fire} (hf : Fires few fs) (h : rowP few (fs.map Fire.name) r = some f) : Fires few (fs ++ [f]) := by
  unfold rowP at h
  cases q : toldF (PySem.Txt.split r " ") with
  | none => rw [q] at h; cases h
  | some g =>
    rw [q, Option.bind_some] at h
    split at h
    · rename_i c
      cases h
      obtain ⟨a, b, c, d, e⟩ := good_iff.mp c
      exact hf.snoc b a c d e
    · cases h
theorem read_gen2 {T : Str} (hl : T.length ≤ 1000000) (b3 : ∀ w ∈ PySem.Txt.split T "\n", w.length ≤ 1900) (hn : (PySem.Txt.split T "\n").length ≤ 40) : g_p_read_web [.v (.str T)] = some (readR (textP T), []) := by
  have sp := split_D (y := "\n") hl (by decide)
  have b1 := PyProof.Rows.split_pos T "\n"
  apply wF_eq
  refine w_def rfl rfl ?_
  simp only [st_v, st_l, st_n, st_0, h_p_read_web]
  unfold textP
  generalize PySem.Txt.split T "\n" = ws at *
  match ws with
  | [] => simp at b1
  | r :: rs =>
    have bg := begun_gen r (b3 r (by simp))
    have e2 : ixD (.lst ((r :: rs).map D.str)) (.int 0) = some (.str r) := ix0 _ _
    have e3 : slD (.lst ((r :: rs).map D.str)) (some 1) none = some (.lst (rs.map D.str)) := by
      simp only [slD]
      rw [show cutD ((r :: rs).map D.str) (some 1) none = rs.map D.str from cut1 _ _]
    dsimp only
    cases q : begunP r with
    | none =>
      rw [q] at bg
      simp [sp, e2, bg, begunR, readR, -List.map_cons]
    | some few =>
      rw [q] at bg
      obtain ⟨h1, h3, _⟩ := begun_few q
      simp [sp, e2, bg, begunR, e3, -List.map_cons]
      rw [enum_mapF]
      refine for_inv (fun p : Str × Nat => .tup [.int p.2, .str p.1]) (fun pre post ρ => ∃ (fs : List Fire) (o3 o4 : Option D), Fires few fs ∧ fs.length = pre.length ∧ fs.length ≤ 16 ∧ readP few [] 1 rs = readP few fs (1 + pre.length) (post.map (·.1)) ∧ ρ = [some (Sl.val (D.str T)), some (Sl.val (.lst ((r :: rs).map D.str))), some (Sl.val (webS few fs)), o3.map Sl.val, o4.map Sl.val]) (rs.zipIdx 1) ⟨[], none, none, fires_nil few, rfl, by decide, by simp, rfl⟩ ?_ ?_
      · rintro ρ ⟨fs, o3, o4, h4, h5, h16, h6, rfl⟩
        simp only [List.map_nil, readP] at h6
        simp [h6, readR]
      · rintro pre p post ρ hx ⟨fs, o3, o4, h4, h5, h16, h6, rfl⟩
        have e1 : (rs.zipIdx 1).map (·.1) = rs := by simp
        have e4 : rs = pre.map (·.1) ++ p.1 :: post.map (·.1) := by rw [← e1, hx]; simp
        have e5 : p.2 = 1 + pre.length := by
          have := congrArg (·[pre.length]?) hx
          simp [List.getElem?_zipIdx] at this
          obtain ⟨a, _, rfl⟩ := this
          rfl
        have lr := congrArg List.length e4
        simp at lr hn
        simp only [List.map_cons, readP] at h6
        by_cases c16 : fs.length < 16
        rotate_left
        · rw [if_neg c16] at h6
          have wr := with_row_full (k := p.2) (r := p.1) h1 h3 (by omega) h4 (b3 p.1 (by rw [e4]; simp)) (by omega)
          simp [wr, h6, readR, -List.map_cons]
          omega
        rw [if_pos c16] at h6
        have wr := with_row_gen (k := p.2) (r := p.1) h1 h3 c16 h4 (b3 p.1 (by rw [e4]; simp)) (by omega)
        cases q2 : rowP few (fs.map Fire.name) p.1 with
        | none =>
          rw [q2] at wr h6
          simp [wr, rowR, h6, readR, -List.map_cons]
          omega
        | some f =>
          rw [q2] at wr h6
          simp [wr, rowR, -List.map_cons]
          exact hide ⟨fs ++ [f], some (.int p.2), some (.str p.1), row_good h4 q2, by simp [h5], by simp; omega, by rw [h6]; simp [Nat.add_assoc], rfl⟩
theorem read_gen {T : Str} (hl : T.length ≤ 1900) (hn : (PySem.Txt.split T "\n").length ≤ 40) : g_p_read_web [.v (.str T)] = some (readR (textP T), []) :=
  read_gen2 (Nat.le_trans hl (by decide)) (fun w hw => by have := PyProof.Rows.part_short hw; omega) hn
end K07
set_option maxHeartbeats 2000000
namespace K07
open PySem L2 VS
theorem app_list (a b : Str) : (a ++ b).cps.toList = a.cps.toList ++ b.cps.toList := by simp [Str.cps_append]
theorem str_ext {a b : Str} (h : a.cps.toList = b.cps.toList) : a = b := by
  apply Str.ext'
  exact Array.toList_inj.mp h
theorem join_is (z : Str) (ps : List Str) : PySem.Txt.join z ps = Str.join z ps := by
  unfold PySem.Txt.join
  rw [StrLaws.glued_eq_join]
theorem join_two (z w v : Str) (ws : List Str) : PySem.Txt.join z (w :: v :: ws) = w ++ z ++ PySem.Txt.join z (v :: ws) := by
  rw [join_is, join_is]; rfl
theorem join_one (z w : Str) : PySem.Txt.join z [w] = w := by
  rw [join_is]; rfl
abbrev J (ws : List Str) : Str := PySem.Txt.join " " ws
abbrev JL (rs : List Str) : Str := PySem.Txt.join "\n" rs
def Wd (w : Str) : Prop := 32 ∉ w.cps.toList ∧ 10 ∉ w.cps.toList
theorem split_words {ws : List Str} (ne : ws ≠ []) (h : ∀ w ∈ ws, Wd w) : PySem.Txt.split (J ws) " " = ws :=
  TL.split_join (s := 32) (S := []) (by decide) (by decide +kernel) ne fun p hp => (h p hp).1
theorem split_rows {rs : List Str} (ne : rs ≠ []) (h : ∀ r ∈ rs, 10 ∉ r.cps.toList) : PySem.Txt.split (JL rs) "\n" = rs :=
  TL.split_join (s := 10) (S := []) (by decide) (by decide +kernel) ne h
theorem J_free {ws : List Str} (h : ∀ w ∈ ws, Wd w) : 10 ∉ (J ws).cps.toList := by
  intro q
  have q : 10 ∈ (Str.join " " ws).cps.toList := by rw [← join_is]; exact q
  rcases join_mem q with q | ⟨w, hw, q⟩
  · revert q; decide
  · exact (h w hw).2 q
theorem Wd.name {z : Str} (h : IsName z) : Wd z := ⟨fun q => by have := h.az 32 q; omega, fun q => by have := h.az 10 q; omega⟩
def rowW (few : Nat) (names ws : List Str) : Option Fire := (toldF ws).bind fun f => if goodB few names f = true then some f else none
def readW (few : Nat) : List Fire → Nat → List (List Str) → Nat ⊕ List Fire
  | fs, _, [] => .inr fs
  | fs, k, r :: rs => if fs.length < 16 then (match rowW few (fs.map Fire.name) r with
    | none => .inl k
    | some f => readW few (fs ++ [f]) (k + 1) rs) else .inl k
def Wds (ws : List Str) : Prop := ws ≠ [] ∧ ∀ w ∈ ws, Wd w
theorem read_words {few : Nat} : ∀ (rs : List (List Str)) (fs : List Fire) (k : Nat), (∀ ws ∈ rs, Wds ws) → readP few fs k (rs.map J) = readW few fs k rs
  | [], _, _, _ => rfl
  | ws :: rs, fs, k, h => by
    have e : rowP few (fs.map Fire.name) (J ws) = rowW few (fs.map Fire.name) ws := by
      unfold rowP rowW
      rw [split_words (h ws (by simp)).1 (h ws (by simp)).2]
    rw [List.map_cons, readP, readW, e]
    split
    · cases rowW few (fs.map Fire.name) ws with
      | none => rfl
      | some f => exact read_words rs _ _ fun w hw => h w (by simp [hw])
    · rfl
def textW2 (few : Nat) (rs : List (List Str)) : Nat ⊕ (Nat × List Fire) := match readW few [] 1 rs with
  | .inl k => .inl k
  | .inr fs => .inr (few, fs)
theorem text_words {few : Nat} {hd : Str} {rs : List (List Str)} (hb : begunP hd = some few) (hh : 10 ∉ hd.cps.toList) (h : ∀ ws ∈ rs, Wds ws) : textP (JL (hd :: rs.map J)) = textW2 few rs := by
  unfold textP textW2
  rw [split_rows (by simp) fun r hr => ?_]
  · dsimp only
    rw [hb]
    dsimp only
    rw [read_words rs [] 1 h]
    first | done | rfl
  · rcases List.mem_cons.mp hr with rfl | hr
    · exact hh
    · obtain ⟨ws, hw, rfl⟩ := List.mem_map.mp hr
      exact J_free (h ws hw).2
theorem rows_len {rs : List Str} (ne : rs ≠ []) (h : ∀ r ∈ rs, 10 ∉ r.cps.toList) : (PySem.Txt.split (JL rs) "\n").length = rs.length := by rw [split_rows ne h]
def refI : Nat ⊕ (Nat × List Fire) → Int
  | .inl k => (k : Int)
  | .inr _ => -1
theorem refused_gen2 {T : Str} (hl : T.length ≤ 1000000) (b3 : ∀ w ∈ PySem.Txt.split T "\n", w.length ≤ 1900) (hn : (PySem.Txt.split T "\n").length ≤ 40) (hk : ∀ k, textP T = .inl k → k ≤ 1000) : g_l_refused [.v (.str T)] = some (.ok (.int (refI (textP T))), []) := by
  have rd := read_gen2 hl b3 hn
  have r2 : range1D (.int 2) = some [.int 0, .int 1] := range1_n 2 (by decide)
  have pl : permL [0] [D.str T] = [D.str T] := rfl
  have a1 : List.lookup 3 [(1, false), (2, false), (3, true), (5, false)] = some true := rfl
  have a2 : List.lookup 3 [(1, true), (2, true), (3, true), (5, true)] = some true := rfl
  have a3 : List.lookup 3 [(1, false), (2, true), (3, false), (5, false)] = some false := rfl
  apply wF_eq
  refine w_def rfl rfl ?_
  simp only [st_v, st_l, st_n, st_0, h_l_refused]
  cases q : textP T with
  | inl k =>
    have := hk k q
    have k9 : k < 1000000000 := by omega
    rw [q] at rd
    simp [r2, rd, readR, pl, refI, k9, a1, a2, a3]
  | inr x =>
    obtain ⟨few, fs⟩ := x
    rw [q] at rd
    simp [r2, rd, readR, pl, refI]
theorem refused_gen {T : Str} (hl : T.length ≤ 1900) (hn : (PySem.Txt.split T "\n").length ≤ 40) (hk : ∀ k, textP T = .inl k → k ≤ 1000) : g_l_refused [.v (.str T)] = some (.ok (.int (refI (textP T))), []) :=
  refused_gen2 (Nat.le_trans hl (by decide)) (fun w hw => by have := PyProof.Rows.part_short hw; omega) hn hk
end K07
set_option maxHeartbeats 4000000
namespace K07
open PySem L2 VS
theorem addS {x y : Str} (hx : x.length ≤ 8000000) (hy : y.length ≤ 8000000) : addD (.str x) (.str y) = some (.str (x ++ y)) := by
  simp only [addD]
  rw [if_pos (by unfold lim; omega)]
theorem app_le {x y : Str} {n : Nat} (hx : x.length ≤ n / 2) (hy : y.length ≤ n / 2) : (x ++ y).length ≤ n := by
  rw [app_len]; omega
theorem lit_le {s : String} {n : Nat} (h : s.length ≤ n) : (Str.ofString s).length ≤ n := by
  have : (Str.ofString s).length = s.length := by rw [Str.ofString_eq_toList]; simp [Str.length]; first | rfl | exact String.length_toList | exact String.length_toList.symm
  omega
theorem nm_le {z : Str} {n : Nat} (h : z.length ≤ 6) (hn : 6 ≤ n) : z.length ≤ n := Nat.le_trans h hn
def rowsS (a b c : Str) : List Str := ["hearth " ++ b, "hearth " ++ b ++ " ", "hearth " ++ b ++ " 0", "hearth " ++ b ++ " 10", "hearth " ++ b ++ " 01", "hearth " ++ b ++ " +1", "hearth " ++ b ++ " -1", "hearth " ++ b ++ " 1 1", "hearth " ++ b ++ " 1 " ++ a,
  "hearth " ++ b ++ " 1 over", "hearth " ++ b ++ " 1 over ", "hearth " ++ b ++ " 1 over " ++ b, "hearth " ++ b ++ " 1 over " ++ c, "hearth " ++ b ++ " 1 over " ++ a ++ " " ++ a, "hearth " ++ a ++ " 2",
  "hearth " ++ b ++ " 1 over  " ++ a, "hearth  " ++ b ++ " 1", " hearth " ++ b ++ " 1", "hearth " ++ b ++ " 1 ", "", " ", "stores 1", "hearths " ++ b ++ " 1", "hearth " ++ b ++ " 1 Over " ++ a, "hearth " ++ b ++ " over " ++ a,
  "hearth " ++ a ++ "bcdefg 1", "hearth A 1", "hearth " ++ b ++ "1 1", "hearth 1 1", "hearth  1"]
def rowsW (a b c : Str) : List (List Str) := [["hearth", b], ["hearth", b, ""], ["hearth", b, "0"], ["hearth", b, "10"], ["hearth", b, "01"], ["hearth", b, "+1"], ["hearth", b, "-1"], ["hearth", b, "1", "1"], ["hearth", b, "1", a],
  ["hearth", b, "1", "over"], ["hearth", b, "1", "over", ""], ["hearth", b, "1", "over", b], ["hearth", b, "1", "over", c], ["hearth", b, "1", "over", a, a], ["hearth", a, "2"],
  ["hearth", b, "1", "over", "", a], ["hearth", "", b, "1"], ["", "hearth", b, "1"], ["hearth", b, "1", ""], [""], ["", ""], ["stores", "1"], ["hearths", b, "1"], ["hearth", b, "1", "Over", a], ["hearth", b, "over", a],
  ["hearth", a ++ "bcdefg", "1"], ["hearth", "A", "1"], ["hearth", b ++ "1", "1"], ["hearth", "1", "1"], ["hearth", "", "1"]]
theorem cons_congr {a b : Str} {x y : List Str} (h : a = b) (k : x = y) : a :: x = b :: y := by rw [h, k]
theorem rows_eq (a b c : Str) : rowsS a b c = (rowsW a b c).map J := by
  unfold rowsS rowsW
  simp only [List.map_cons, List.map_nil]
  repeat' refine cons_congr ?_ ?_
  all_goals first
    | rfl
    | (refine str_ext ?_
       simp only [J, join_two, join_one, app_list, List.append_assoc]
       rfl)
theorem num_name {z : Str} (h : IsName z) : numB z = false := by
  rw [Bool.eq_false_iff]
  intro q
  obtain ⟨l1, _, al, _⟩ := num_all q
  have e : z.cps.toList.length = z.length := Array.length_toList
  cases hz : z.cps.toList with
  | nil => rw [hz] at e; simp at e; omega
  | cons c cs =>
    have := h.az c (by rw [hz]; simp)
    have := al c (by rw [hz]; simp)
    omega
theorem nameT {z : Str} (h : IsName z) : nameB z = true := (nameB_iff z).mpr h
theorem name_long (a : Str) (s : Str) (h : 6 ≤ s.length) (h1 : 1 ≤ a.length) : nameB (a ++ s) = false := by
  rw [Bool.eq_false_iff]
  intro q
  have := ((nameB_iff _).mp q).hi
  rw [app_len] at this
  omega
theorem name_digit (a : Str) {s : Str} {c : Nat} (hc : c ∈ s.cps.toList) (h : c < 97) : nameB (a ++ s) = false := by
  rw [Bool.eq_false_iff]
  intro q
  have := ((nameB_iff _).mp q).az c (by rw [app_list]; exact List.mem_append_right _ hc)
  omega
theorem lit_1 : numB "1" = true := by decide
theorem lit_0 : numB "0" = true := by decide
theorem lit_2 : numB "2" = true := by decide
theorem lit_9 : numB "9" = true := by decide
theorem lit_3 : numB "3" = true := by decide
theorem lit_10 : numB "10" = true := by decide
theorem lit_01 : numB "01" = false := by decide
theorem lit_p1 : numB "+1" = false := by decide
theorem lit_m1 : numB "-1" = false := by decide
theorem lit_n : numB "" = false := by decide
theorem lit_o : numB "over" = false := by decide
theorem lit_O : numB "Over" = false := by decide
theorem v_1 : valW "1" = 1 := by decide
theorem v_0 : valW "0" = 0 := by decide
theorem v_2 : valW "2" = 2 := by decide
theorem v_3 : valW "3" = 3 := by decide
theorem v_9 : valW "9" = 9 := by decide
theorem v_10 : valW "10" = 10 := by decide
theorem nb_n : nameB "" = false := by decide
theorem nb_A : nameB "A" = false := by decide
theorem nb_1 : nameB "1" = false := by decide
theorem ne_1 : ¬ (("" : Str) = "hearth") := by decide
theorem ne_2 : ¬ (("stores" : Str) = "hearth") := by decide
theorem ne_3 : ¬ (("hearths" : Str) = "hearth") := by decide
theorem ne_4 : ¬ (("Over" : Str) = "over") := by decide
theorem ne_5 : ¬ (("" : Str) = "over") := by decide
theorem wd_lits : ∀ w ∈ (["hearth", "", "0", "10", "01", "+1", "-1", "1", "2", "3", "9", "over", "stores", "hearths", "Over", "A", "bcdefg"] : List Str), Wd w := by
  unfold Wd
  decide +kernel
theorem Wd.app {a b : Str} (h : Wd a) (k : Wd b) : Wd (a ++ b) := by
  unfold Wd at *
  rw [app_list]
  simp only [List.mem_append]
  exact ⟨fun q => q.elim h.1 k.1, fun q => q.elim h.2 k.2⟩
section
variable {a b c : Str}
theorem rows_words (ha : IsName a) (hb : IsName b) (hc : IsName c) : ∀ ws ∈ rowsW a b c, Wds ws := by
  have wa := Wd.name ha
  have wb := Wd.name hb
  have wc := Wd.name hc
  have l := wd_lits
  simp only [List.forall_mem_cons, List.not_mem_nil, false_imp_iff, implies_true, and_true] at l
  obtain ⟨l1, l2, l3, l4, l5, l6, l7, l8, l9, l10, l11, l12, l13, l14, l15, l16, l17⟩ := l
  have k1 := Wd.app wa l17
  have k2 := Wd.app wb l8
  unfold rowsW Wds
  simp only [List.forall_mem_cons, List.not_mem_nil, false_imp_iff, implies_true, and_true, ne_eq, reduceCtorEq, not_false_eq_true, true_and, l1, l2, l3, l4, l5, l6, l7, l8, l9, l10, l11, l12, l13, l14, l15, l16, k1, k2, wa, wb, wc]
theorem rows_bad (ha : IsName a) (hb : IsName b) (hc : IsName c) (ab : a ≠ b) (bc : b ≠ c) (ac : a ≠ c) : ∀ ws ∈ rowsW a b c, rowW 1 [a] ws = none := by
  have na := num_name ha
  have nb := num_name hb
  have ta := nameT ha
  have tb := nameT hb
  have tc := nameT hc
  have k1 := name_long a "bcdefg" (by decide) ha.lo
  have k2 := name_digit b (s := "1") (c := 49) (by decide) (by decide)
  have b1 : ¬ b = a := fun e => ab e.symm
  have b2 : ¬ c = a := fun e => ac e.symm
  unfold rowsW
  simp only [List.forall_mem_cons, List.not_mem_nil, false_imp_iff, implies_true, and_true]
  refine ⟨?_, ?_, ?_, ?_, ?_, ?_, ?_, ?_, ?_, ?_, ?_, ?_, ?_, ?_, ?_, ?_, ?_, ?_, ?_, ?_, ?_, ?_, ?_, ?_, ?_, ?_, ?_, ?_, ?_, ?_⟩
  all_goals simp [rowW, toldF, toldB, goodB, hungB, rngB, feedB, List.takeWhile, List.dropWhile, na, nb, ta, tb, tc, k1, k2, b1, b2, lit_0, lit_1, lit_2, lit_10, lit_01, lit_p1, lit_m1, lit_n, lit_o, lit_O, v_0, v_1, v_2, v_10, nb_n, nb_A, nb_1, ne_1, ne_2, ne_3, ne_4, ne_5]
end
end K07
set_option maxHeartbeats 4000000
namespace K07
open PySem L2 VS
def Fire.py (f : Fire) : PyData := .tuple [.str f.name, .tuple (f.hung.map .int), .tuple (f.feed.map .str)]
theorem fire_py (f : Fire) : toPy f.d = some f.py := by
  simp [toPy, toPys, Fire.d, Fire.py, toPys_map D.int PyData.int (fun _ => by simp [toPy]), toPys_map D.str PyData.str (fun _ => by simp [toPy])]
theorem fire_eqv (f g : Fire) : PyData.eqv f.py g.py = decide (f = g) := by
  have h : (f = g) ↔ (f.name = g.name ∧ f.hung = g.hung ∧ f.feed = g.feed) := by cases f; cases g; simp
  have e : decide (f = g) = decide (f.name = g.name ∧ f.hung = g.hung ∧ f.feed = g.feed) := decide_eq_decide.mpr h
  rw [e]
  simp [Fire.py, PyData.eqv, PyData.eqvAll, eqvAll_map PyData.int py_int, eqvAll_map PyData.str py_str, Bool.decide_and]
  rfl
theorem py_fires (fs : List Fire) : toPys (fs.map Fire.d) = some (fs.map Fire.py) := toPys_map Fire.d Fire.py fire_py fs
theorem eq_fires {a b : Nat} {fs gs : List Fire} (ha : a ≤ 3) (hb : b ≤ 3) (hl : fs.length ≤ 16) (hk : gs.length ≤ 16) (hr : RowsOk a fs) (hs : RowsOk b gs) : eqD (.tup (fs.map Fire.d)) (.tup (gs.map Fire.d)) = some (.bl (decide (fs = gs))) := by
  have e := eq_rp (x := .tup (fs.map Fire.d)) (y := .tup (gs.map Fire.d)) (p := .tuple (fs.map Fire.py)) (q := .tuple (gs.map Fire.py)) (by simp [toPy, py_fires]) (by simp [toPy, py_fires]) (rp_tfires ha hl hr) (rp_tfires hb hk hs) (by decide) (by decide)
  unfold eqD
  rw [show eqB (.tup (fs.map Fire.d)) (.tup (gs.map Fire.d)) = eqB0 (.tup (fs.map Fire.d)) (.tup (gs.map Fire.d)) from rfl, e]
  simp [PyData.eqv, eqvAll_map Fire.py fire_eqv]
section
variable {a b c : Str}
def fA (a : Str) : Fire := ⟨a, [1], []⟩
def fB (a b : Str) : Fire := ⟨b, [9], [a]⟩
def fC (a b c : Str) : Fire := ⟨c, [9], [b, a]⟩
theorem row_A (ha : IsName a) : rowW 1 [] ["hearth", a, "1"] = some (fA a) := by
  have ta := nameT ha
  simp [rowW, toldF, toldB, goodB, hungB, rngB, feedB, List.takeWhile, List.dropWhile, ta, lit_1, v_1, fA]
theorem row_B (ha : IsName a) (hb : IsName b) (ab : a ≠ b) : rowW 1 [a] ["hearth", b, "9", "over", a] = some (fB a b) := by
  have ta := nameT ha
  have tb := nameT hb
  have b1 : ¬ b = a := fun e => ab e.symm
  simp [rowW, toldF, toldB, goodB, hungB, rngB, feedB, List.takeWhile, List.dropWhile, ta, tb, b1, lit_9, lit_o, v_9, fB]
theorem row_B2 (ha : IsName a) (hb : IsName b) (ab : a ≠ b) : rowW 1 [a, b] ["hearth", b, "9", "over", a] = none := by
  have ta := nameT ha
  have tb := nameT hb
  simp [rowW, toldF, toldB, goodB, hungB, rngB, feedB, List.takeWhile, List.dropWhile, ta, tb, lit_9, lit_o, v_9]
theorem row_C (ha : IsName a) (hb : IsName b) (hc : IsName c) (ab : a ≠ b) (bc : b ≠ c) (ac : a ≠ c) : rowW 1 [a, b] ["hearth", c, "9", "over", b, a] = some (fC a b c) := by
  have ta := nameT ha
  have tb := nameT hb
  have tc := nameT hc
  have b1 : ¬ b = a := fun e => ab e.symm
  have b2 : ¬ c = a := fun e => ac e.symm
  have b3 : ¬ c = b := fun e => bc e.symm
  simp [rowW, toldF, toldB, goodB, hungB, rngB, feedB, List.takeWhile, List.dropWhile, ta, tb, tc, b1, b2, b3, lit_9, lit_o, v_9, fC]
theorem row_none : rowW 1 [a, b] [""] = none := by simp [rowW, toldF]
abbrev hd1 : Str := "stores 1"
theorem hd1_b : begunP hd1 = some 1 := by decide
theorem hd1_f : 10 ∉ hd1.cps.toList := by decide
abbrev wA (a : Str) : List Str := ["hearth", a, "1"]
abbrev wB (a b : Str) : List Str := ["hearth", b, "9", "over", a]
abbrev wC (a b c : Str) : List Str := ["hearth", c, "9", "over", b, a]
theorem wds_A (ha : IsName a) : Wds (wA a) := ⟨by simp, by
  simp only [wA, List.forall_mem_cons, List.not_mem_nil, false_imp_iff, implies_true, and_true]
  exact ⟨wd_lits _ (by decide), Wd.name ha, wd_lits _ (by decide)⟩⟩
theorem wds_B (ha : IsName a) (hb : IsName b) : Wds (wB a b) := ⟨by simp, by
  simp only [wB, List.forall_mem_cons, List.not_mem_nil, false_imp_iff, implies_true, and_true]
  exact ⟨wd_lits _ (by decide), Wd.name hb, wd_lits _ (by decide), wd_lits _ (by decide), Wd.name ha⟩⟩
theorem wds_C (ha : IsName a) (hb : IsName b) (hc : IsName c) : Wds (wC a b c) := ⟨by simp, by
  simp only [wC, List.forall_mem_cons, List.not_mem_nil, false_imp_iff, implies_true, and_true]
  exact ⟨wd_lits _ (by decide), Wd.name hc, wd_lits _ (by decide), wd_lits _ (by decide), Wd.name hb, Wd.name ha⟩⟩
theorem wds_n : Wds [""] := ⟨by simp, by
  simp only [List.forall_mem_cons, List.not_mem_nil, false_imp_iff, implies_true, and_true]
  exact wd_lits _ (by decide)⟩
abbrev aheadS (a : Str) : Str := "stores 1\nhearth " ++ a ++ " 1\n"
theorem ahead_1 (a r : Str) : aheadS a ++ r = JL [hd1, J (wA a), r] := by
  refine str_ext ?_
  simp only [aheadS, hd1, wA, JL, J, join_two, join_one, app_list, List.append_assoc]
  rfl
theorem ahead_2 (a r q : Str) : aheadS a ++ r ++ "\n" ++ q = JL [hd1, J (wA a), r, q] := by
  refine str_ext ?_
  simp only [aheadS, hd1, wA, JL, J, join_two, join_one, app_list, List.append_assoc]
  rfl
theorem more_is (a b : Str) : "hearth " ++ b ++ " 9 over " ++ a = J (wB a b) := by
  refine str_ext ?_
  simp only [wB, J, join_two, join_one, app_list, List.append_assoc]
  rfl
theorem nil_is : ("" : Str) = J [""] := by rw [J, join_one]
theorem ahead_n (a r : Str) : aheadS a ++ r ++ "\n" = JL [hd1, J (wA a), r, J [""]] := by
  rw [← nil_is, ← ahead_2]
  refine str_ext ?_
  simp only [app_list]
  simp [Str.ofString]
  rfl
theorem told_is (a b c : Str) : aheadS a ++ J (wB a b) ++ "\nhearth " ++ c ++ " 9 over " ++ b ++ " " ++ a = JL [hd1, J (wA a), J (wB a b), J (wC a b c)] := by
  refine str_ext ?_
  simp only [aheadS, hd1, wA, wB, wC, JL, J, join_two, join_one, app_list, List.append_assoc]
  rfl
theorem ref_words {T : Str} {rs : List (List Str)} (e : T = JL (hd1 :: rs.map J)) (h : ∀ ws ∈ rs, Wds ws) (hl : T.length ≤ 1900) (hn : rs.length ≤ 30) {k : Nat} (hk : k ≤ 1000) (q : readW 1 [] 1 rs = .inl k) : g_l_refused [.v (.str T)] = some (.ok (.int (k : Int)), []) := by
  have t := text_words hd1_b hd1_f h
  rw [← e] at t
  have t2 : textP T = .inl k := by rw [t, textW2, q]
  have n : (PySem.Txt.split T "\n").length ≤ 40 := by
    rw [e, rows_len (by simp) fun r hr => ?_]
    · simp; omega
    · rcases List.mem_cons.mp hr with rfl | hr
      · exact hd1_f
      · obtain ⟨ws, hw, rfl⟩ := List.mem_map.mp hr
        exact J_free (h ws hw).2
  have := refused_gen hl n (by rw [t2]; intro j hj; cases hj; exact hk)
  rw [t2] at this
  exact this
theorem read_words2 {T : Str} {rs : List (List Str)} (e : T = JL (hd1 :: rs.map J)) (h : ∀ ws ∈ rs, Wds ws) (hl : T.length ≤ 1900) (hn : rs.length ≤ 30) {fs : List Fire} (q : readW 1 [] 1 rs = .inr fs) : g_p_read_web [.v (.str T)] = some (.ok (webS 1 fs), []) := by
  have t := text_words hd1_b hd1_f h
  rw [← e] at t
  have t2 : textP T = .inr (1, fs) := by rw [t, textW2, q]
  have n : (PySem.Txt.split T "\n").length ≤ 40 := by
    rw [e, rows_len (by simp) fun r hr => ?_]
    · simp; omega
    · rcases List.mem_cons.mp hr with rfl | hr
      · exact hd1_f
      · obtain ⟨ws, hw, rfl⟩ := List.mem_map.mp hr
        exact J_free (h ws hw).2
  have := read_gen hl n
  rw [t2] at this
  exact this
end
end K07
set_option maxHeartbeats 8000000
namespace K07
open PySem L2 VS
theorem all_bls (bs : List Bool) : allD (.lst (bs.map D.bl)) = some (.bl (bs.all id)) := by simp only [allD, blsOf_map, Option.map_some]
section
variable {a b c : Str}
theorem rows_short (ha : IsName a) (hb : IsName b) (hc : IsName c) : ∀ r ∈ rowsS a b c, r.length ≤ 1000 := by
  have la := ha.hi
  have lb := hb.hi
  have lc := hc.hi
  unfold rowsS
  simp only [List.forall_mem_cons, List.not_mem_nil, false_imp_iff, implies_true, and_true]
  refine ⟨?_, ?_, ?_, ?_, ?_, ?_, ?_, ?_, ?_, ?_, ?_, ?_, ?_, ?_, ?_, ?_, ?_, ?_, ?_, ?_, ?_, ?_, ?_, ?_, ?_, ?_, ?_, ?_, ?_, ?_⟩
  all_goals repeat' first
    | exact lit_le (by decide)
    | exact nm_le la (by decide)
    | exact nm_le lb (by decide)
    | exact nm_le lc (by decide)
    | refine app_le ?_ ?_
def behindS (a c : Str) : List Str := ["hearth " ++ c ++ " 0", " ", "hearth " ++ c, "stores 1", "hearth " ++ a ++ " 1"]
def behindW (a c : Str) : List (List Str) := [["hearth", c, "0"], ["", ""], ["hearth", c], ["stores", "1"], ["hearth", a, "1"]]
theorem behind_eq (a c : Str) : behindS a c = (behindW a c).map J := by
  unfold behindS behindW
  simp only [List.map_cons, List.map_nil]
  repeat' refine cons_congr ?_ ?_
  all_goals first
    | rfl
    | (refine str_ext ?_
       simp only [J, join_two, join_one, app_list, List.append_assoc]
       rfl)
theorem behind_words (ha : IsName a) (hc : IsName c) : ∀ ws ∈ behindW a c, Wds ws := by
  have wa := Wd.name ha
  have wc := Wd.name hc
  have l := wd_lits
  simp only [List.forall_mem_cons, List.not_mem_nil, false_imp_iff, implies_true, and_true] at l
  obtain ⟨l1, l2, l3, l4, l5, l6, l7, l8, l9, l10, l11, l12, l13, l14, l15, l16, l17⟩ := l
  unfold behindW Wds
  simp only [List.forall_mem_cons, List.not_mem_nil, false_imp_iff, implies_true, and_true, ne_eq, reduceCtorEq, not_false_eq_true, true_and, l1, l2, l3, l4, l5, l6, l7, l8, l9, l10, l11, l12, l13, l14, l15, l16, wa, wc]
theorem behind_short (ha : IsName a) (hc : IsName c) : ∀ r ∈ behindS a c, r.length ≤ 200 := by
  have la := ha.hi
  have lc := hc.hi
  unfold behindS
  simp only [List.forall_mem_cons, List.not_mem_nil, false_imp_iff, implies_true, and_true]
  refine ⟨?_, ?_, ?_, ?_, ?_⟩
  all_goals repeat' first
    | exact lit_le (by decide)
    | exact nm_le la (by decide)
    | exact nm_le lc (by decide)
    | refine app_le ?_ ?_
theorem ahead_short (ha : IsName a) : (aheadS a).length ≤ 200 := by
  have la := ha.hi
  repeat' first
    | exact lit_le (by decide)
    | exact nm_le la (by decide)
    | refine app_le ?_ ?_
theorem more_short (ha : IsName a) (hb : IsName b) : (J (wB a b)).length ≤ 200 := by
  have la := ha.hi
  have lb := hb.hi
  rw [← more_is]
  repeat' first
    | exact lit_le (by decide)
    | exact nm_le la (by decide)
    | exact nm_le lb (by decide)
    | refine app_le ?_ ?_
theorem two_ref (ha : IsName a) (hb : IsName b) (hc : IsName c) (ab : a ≠ b) (bc : b ≠ c) (ac : a ≠ c) {r : Str} (hr : r ∈ rowsS a b c) : g_l_refused [.v (.str (aheadS a ++ r))] = some (.ok (.int 2), []) := by
  have l1 := ahead_short ha
  have l2 := rows_short ha hb hc r hr
  rw [rows_eq] at hr
  obtain ⟨ws, hw, rfl⟩ := List.mem_map.mp hr
  refine ref_words (rs := [wA a, ws]) (ahead_1 a _) ?_ (by rw [app_len]; omega) (by simp) (k := 2) (by decide) ?_
  · simp only [List.forall_mem_cons, List.not_mem_nil, false_imp_iff, implies_true, and_true]
    exact ⟨wds_A ha, rows_words ha hb hc ws hw⟩
  · have q := rows_bad ha hb hc ab bc ac ws hw
    simp [readW, row_A ha, fA, q]
theorem two_ref2 (ha : IsName a) (hb : IsName b) (hc : IsName c) (ab : a ≠ b) (bc : b ≠ c) (ac : a ≠ c) {r q : Str} (hr : r ∈ rowsS a b c) (hq : q ∈ behindS a c) : g_l_refused [.v (.str (aheadS a ++ r ++ "\n" ++ q))] = some (.ok (.int 2), []) := by
  have l1 := ahead_short ha
  have l2 := rows_short ha hb hc r hr
  have l3 := behind_short ha hc q hq
  have l4 : ("\n" : Str).length = 1 := rfl
  rw [rows_eq] at hr
  rw [behind_eq] at hq
  obtain ⟨ws, hw, rfl⟩ := List.mem_map.mp hr
  obtain ⟨us, hu, rfl⟩ := List.mem_map.mp hq
  refine ref_words (rs := [wA a, ws, us]) (ahead_2 a _ _) ?_ (by rw [app_len, app_len, app_len]; omega) (by simp) (k := 2) (by decide) ?_
  · simp only [List.forall_mem_cons, List.not_mem_nil, false_imp_iff, implies_true, and_true]
    exact ⟨wds_A ha, rows_words ha hb hc ws hw, behind_words ha hc us hu⟩
  · have q := rows_bad ha hb hc ab bc ac ws hw
    simp [readW, row_A ha, fA, q]
theorem three_ref (ha : IsName a) (hb : IsName b) (ab : a ≠ b) : g_l_refused [.v (.str (aheadS a ++ J (wB a b) ++ "\n"))] = some (.ok (.int 3), []) ∧ g_l_refused [.v (.str (aheadS a ++ J (wB a b) ++ "\n" ++ J (wB a b)))] = some (.ok (.int 3), []) := by
  have l1 := ahead_short ha
  have l2 := more_short ha hb
  have l4 : ("\n" : Str).length = 1 := rfl
  have rA := row_A ha
  have rB := row_B ha hb ab
  have rB2 := row_B2 ha hb ab
  have rN := row_none (a := a) (b := b)
  constructor
  · refine ref_words (rs := [wA a, wB a b, [""]]) (ahead_n a _) ?_ (by rw [app_len, app_len]; omega) (by simp) (k := 3) (by decide) ?_
    · simp only [List.forall_mem_cons, List.not_mem_nil, false_imp_iff, implies_true, and_true]
      exact ⟨wds_A ha, wds_B ha hb, wds_n⟩
    · simp [readW, rA, fA, rB, fB, rN]
  · refine ref_words (rs := [wA a, wB a b, wB a b]) (ahead_2 a _ _) ?_ (by rw [app_len, app_len, app_len]; omega) (by simp) (k := 3) (by decide) ?_
    · simp only [List.forall_mem_cons, List.not_mem_nil, false_imp_iff, implies_true, and_true]
      exact ⟨wds_A ha, wds_B ha hb, wds_B ha hb⟩
    · simp [readW, rA, fA, rB, fB, rB2]
theorem told_read (ha : IsName a) (hb : IsName b) (hc : IsName c) (ab : a ≠ b) (bc : b ≠ c) (ac : a ≠ c) : g_p_read_web [.v (.str (aheadS a ++ J (wB a b) ++ "\nhearth " ++ c ++ " 9 over " ++ b ++ " " ++ a))] = some (.ok (webD 1 [fA a, fB a b, fC a b c]), []) := by
  have l1 := ahead_short ha
  have l2 := more_short ha hb
  have la := ha.hi
  have lb := hb.hi
  have lc := hc.hi
  have l4 : ("\nhearth " : Str).length = 8 := rfl
  have l5 : (" 9 over " : Str).length = 8 := rfl
  have l6 : (" " : Str).length = 1 := rfl
  have rA := row_A ha
  have rB := row_B ha hb ab
  have rC := row_C ha hb hc ab bc ac
  have l7 : ("stores 1\nhearth " : Str).length = 16 := rfl
  have l8 : (" 1\n" : Str).length = 3 := rfl
  have := read_words2 (rs := [wA a, wB a b, wC a b c]) (fs := [fA a, fB a b, fC a b c]) (told_is a b c) ?_ (by simp only [app_len]; omega) (by simp) ?_
  · rw [this, webS_ne (by simp)]
  · simp only [List.forall_mem_cons, List.not_mem_nil, false_imp_iff, implies_true, and_true]
    exact ⟨wds_A ha, wds_B ha hb, wds_C ha hb hc⟩
  · simp [readW, rA, fA, rB, fB, rC, fC]
theorem told_rows (ha : IsName a) (hb : IsName b) (hc : IsName c) : RowsOk 1 [fA a, fB a b, fC a b c] := by
  intro f hf
  simp only [List.mem_cons, List.not_mem_nil, or_false] at hf
  rcases hf with rfl | rfl | rfl
  · exact ⟨ha, ⟨rfl, by simp [fA], ⟨1, by simp [fA], by decide⟩⟩, by simp [fA], by simp [fA]⟩
  · exact ⟨hb, ⟨rfl, by simp [fB], ⟨9, by simp [fB], by decide⟩⟩, by simp [fB], by simp [fB, ha]⟩
  · exact ⟨hc, ⟨rfl, by simp [fC], ⟨9, by simp [fC], by decide⟩⟩, by simp [fC], by simp [fC, ha, hb]⟩
theorem small_right (ha : IsName a) (hb : IsName b) (hc : IsName c) (ab : a ≠ b) (bc : b ≠ c) (ac : a ≠ c) : g_l_small_right [.v (.str a), .v (.str b), .v (.str c)] = some (.ok (.bl true), []) := by
  have la := ha.hi
  have lb := hb.hi
  have lc := hc.hi
  have na : ∀ n, 6 ≤ n → a.length ≤ n := fun n h => nm_le la h
  have nb : ∀ n, 6 ≤ n → b.length ≤ n := fun n h => nm_le lb h
  have nc : ∀ n, 6 ≤ n → c.length ≤ n := fun n h => nm_le lc h
  obtain ⟨t1, t2⟩ := three_ref ha hb ab
  have rd := told_read ha hb hc ab bc ac
  rw [← more_is] at t1 t2 rd
  have eq := eq_fires (by decide) (by decide) (by simp) (by simp) (told_rows ha hb hc) (told_rows ha hb hc)
  have al : ∀ n : Nat, allD (.lst (List.replicate n (D.bl true))) = some (.bl true) := fun n => by
    have := all_bls (List.replicate n true)
    rw [List.map_replicate] at this
    rw [this]; simp
  have cst : ∀ xs : List Str, (xs.map fun _ => D.bl true) = List.replicate xs.length (D.bl true) := fun xs => List.map_const' ..
  have eD : D.tup (List.map Fire.d [fA a, fB a b, fC a b c]) = .tup [.tup [.str a, .tup [.int 1], .tup []], .tup [.str b, .tup [.int 9], .tup [.str a]], .tup [.str c, .tup [.int 9], .tup [.str b, .str a]]] := rfl
  have hs : fldD 0 2 (webD 1 [fA a, fB a b, fC a b c]) = some (D.tup (List.map Fire.d [fA a, fB a b, fC a b c])) := rfl
  rw [eD] at eq hs
  have eq : eqD (.tup [.tup [.str a, .tup [.int 1], .tup []], .tup [.str b, .tup [.int 9], .tup [.str a]], .tup [.str c, .tup [.int 9], .tup [.str b, .str a]]]) (.tup [.tup [.str a, .tup [.int 1], .tup []], .tup [.str b, .tup [.int 9], .tup [.str a]], .tup [.str c, .tup [.int 9], .tup [.str b, .str a]]]) = some (.bl true) := by rw [eq]; simp
  generalize hWB : webD 1 [fA a, fB a b, fC a b c] = WB at *
  apply wF_eq
  refine w_def rfl rfl ?_
  simp only [st_v, st_l, st_n, st_0, h_l_small_right]
  simp (config := { decide := true, maxDischargeDepth := 40 }) [addS, app_le, lit_le, na, nb, nc, -forGo_cons, -lcGo_cons]
  refine lc_map (e := D.str) (xs := rowsS a b c) (fun _ => .bl true) (by show 30 ≤ 1000000; decide) ?_ fun r hr => ?_
  rotate_left
  · have l2 := rows_short ha hb hc r hr
    have rl : ∀ n, 1000 ≤ n → r.length ≤ n := fun n h => Nat.le_trans l2 h
    have t := two_ref ha hb hc ab bc ac hr
    simp (config := { decide := true, maxDischargeDepth := 40 }) [addS, app_le, lit_le, na, rl, t]
  rw [cst]
  simp (config := { decide := true, maxDischargeDepth := 40 }) [al, addS, app_le, lit_le, na, nb, nc, -VS.all_lst, -forGo_cons, -lcGo_cons]
  refine for_inv D.str (fun pre post ρ => ∃ o5 : Option D, ρ = [some (Sl.val (D.str a)), some (Sl.val (D.str b)), some (Sl.val (D.str c)), some (Sl.val (D.str (aheadS a))), some (Sl.own false (.lst ((rowsS a b c).map D.str))), o5.map Sl.val, none, none, none]) (behindS a c) ⟨none, rfl⟩ ?_ ?_
  · rintro ρ ⟨o5, rfl⟩
    have l1 := ahead_short ha
    have hl : ∀ n, 200 ≤ n → (aheadS a).length ≤ n := fun n h => Nat.le_trans l1 h
    generalize aheadS a = A at *
    simp (config := { decide := true, maxDischargeDepth := 40 }) [addS, app_le, lit_le, na, nb, nc, hl, t1, t2, rd, hs, eq]
  · rintro pre q post ρ hx ⟨o5, rfl⟩
    have hq : q ∈ behindS a c := by rw [hx]; simp
    have l1 := ahead_short ha
    have hl : ∀ n, 200 ≤ n → (aheadS a).length ≤ n := fun n h => Nat.le_trans l1 h
    have l3 := behind_short ha hc q hq
    have ql : ∀ n, 200 ≤ n → q.length ≤ n := fun n h => Nat.le_trans l3 h
    simp [-lcGo_cons]
    refine lc_map (e := D.str) (xs := rowsS a b c) (fun _ => .bl true) (by show 30 ≤ 1000000; decide) ?_ fun r hr => ?_
    rotate_left
    · have l2 := rows_short ha hb hc r hr
      have rl : ∀ n, 1000 ≤ n → r.length ≤ n := fun n h => Nat.le_trans l2 h
      have t := two_ref2 ha hb hc ab bc ac hr hq
      generalize aheadS a = A at *
      simp (config := { decide := true, maxDischargeDepth := 40 }) [addS, app_le, lit_le, na, hl, rl, ql, t]
    rw [cst]
    simp [al, -VS.all_lst]
    exact hide ⟨some (.str q), rfl⟩
end
end K07
set_option maxHeartbeats 8000000
namespace K07
open PySem L2 VS
def headsS : List Str := ["", "stores", "stores 0", "stores 4", "stores 01", "stores 1 ", " stores 1", "stores  1", "Stores 1", "stores +1", "stores 1 1", "store 1", "hearth a 1", "stores -1", "stores 1.", "1", "stores one"]
theorem heads_ok : ∀ h ∈ headsS, begunP h = none ∧ 10 ∉ h.cps.toList ∧ h.length ≤ 100 := by
  have e1 : ∀ h ∈ headsS, begunP h = none := by decide +kernel
  have e2 : ∀ h ∈ headsS, 10 ∉ h.cps.toList ∧ h.length ≤ 100 := by decide +kernel
  exact fun h m => ⟨e1 h m, e2 h m⟩
theorem heads_list : g_l_heads [] = some (.ok (.lst (headsS.map D.str)), []) := by
  apply wF_eq
  refine w_def rfl rfl ?_
  simp only [st_v, st_l, st_n, st_0, h_l_heads]
  simp [headsS]
theorem bad_head {h : Str} {rs : List Str} (hb : begunP h = none) (hf : 10 ∉ h.cps.toList) (hr : ∀ r ∈ rs, 10 ∉ r.cps.toList) : textP (JL (h :: rs)) = .inl 0 := by
  unfold textP
  rw [split_rows (by simp) fun r q => ?_]
  · dsimp only
    rw [hb]
  · rcases List.mem_cons.mp q with rfl | q
    · exact hf
    · exact hr r q
theorem ref_head {T h : Str} {rs : List Str} (e : T = JL (h :: rs)) (hb : begunP h = none) (hf : 10 ∉ h.cps.toList) (hr : ∀ r ∈ rs, 10 ∉ r.cps.toList) (hl : T.length ≤ 1900) (hn : rs.length ≤ 30) : g_l_refused [.v (.str T)] = some (.ok (.int 0), []) := by
  have t := bad_head hb hf hr
  rw [← e] at t
  have n : (PySem.Txt.split T "\n").length ≤ 40 := by
    rw [e, rows_len (by simp) fun r q => ?_]
    · simp; omega
    · rcases List.mem_cons.mp q with rfl | q
      · exact hf
      · exact hr r q
  have := refused_gen hl n (by rw [t]; intro j hj; cases hj; decide)
  rw [t] at this
  exact this
theorem head_1 {h : Str} (m : h ∈ headsS) : g_l_refused [.v (.str h)] = some (.ok (.int 0), []) := by
  obtain ⟨a, b, c⟩ := heads_ok h m
  exact ref_head (rs := []) (by rw [JL, join_one]) a b (by simp) (by omega) (by simp)
theorem head_2 {h : Str} (m : h ∈ headsS) : g_l_refused [.v (.str (h ++ "\nhearth a 1"))] = some (.ok (.int 0), []) := by
  obtain ⟨a, b, c⟩ := heads_ok h m
  have l : ("\nhearth a 1" : Str).length = 11 := rfl
  refine ref_head (rs := ["hearth a 1"]) ?_ a b (fun r q => by rw [List.mem_singleton.mp q]; decide) (by rw [app_len]; omega) (by simp)
  refine str_ext ?_
  simp only [JL, join_two, join_one, app_list, List.append_assoc]
  rfl
def hdN (few : Nat) : Str := "stores " ++ num few
theorem hdN_ok {few : Nat} (h1 : 1 ≤ few) (h3 : few ≤ 3) : begunP (hdN few) = some few ∧ 10 ∉ (hdN few).cps.toList ∧ (hdN few).length = 8 := by
  have : few = 1 ∨ few = 2 ∨ few = 3 := by omega
  rcases this with rfl | rfl | rfl
  · exact ⟨by decide, by decide, by decide⟩
  · exact ⟨by decide, by decide, by decide⟩
  · exact ⟨by decide, by decide, by decide⟩
theorem refN {few : Nat} {T : Str} {rs : List (List Str)} (h1 : 1 ≤ few) (h3 : few ≤ 3) (e : T = JL (hdN few :: rs.map J)) (h : ∀ ws ∈ rs, Wds ws) (hl : T.length ≤ 1900) (hn : rs.length ≤ 30) {k : Nat} (hk : k ≤ 1000) (q : readW few [] 1 rs = .inl k) : g_l_refused [.v (.str T)] = some (.ok (.int (k : Int)), []) := by
  obtain ⟨b1, b2, b3⟩ := hdN_ok h1 h3
  have t := text_words b1 b2 h
  rw [← e] at t
  have t2 : textP T = .inl k := by rw [t, textW2, q]
  have n : (PySem.Txt.split T "\n").length ≤ 40 := by
    rw [e, rows_len (by simp) fun r hr => ?_]
    · simp; omega
    · rcases List.mem_cons.mp hr with rfl | hr
      · exact b2
      · obtain ⟨ws, hw, rfl⟩ := List.mem_map.mp hr
        exact J_free (h ws hw).2
  have := refused_gen hl n (by rw [t2]; intro j hj; cases hj; exact hk)
  rw [t2] at this
  exact this
theorem readN {few : Nat} {T : Str} {rs : List (List Str)} (h1 : 1 ≤ few) (h3 : few ≤ 3) (e : T = JL (hdN few :: rs.map J)) (h : ∀ ws ∈ rs, Wds ws) (hl : T.length ≤ 1900) (hn : rs.length ≤ 30) {fs : List Fire} (q : readW few [] 1 rs = .inr fs) : g_p_read_web [.v (.str T)] = some (.ok (webS few fs), []) := by
  obtain ⟨b1, b2, b3⟩ := hdN_ok h1 h3
  have t := text_words b1 b2 h
  rw [← e] at t
  have t2 : textP T = .inr (few, fs) := by rw [t, textW2, q]
  have n : (PySem.Txt.split T "\n").length ≤ 40 := by
    rw [e, rows_len (by simp) fun r hr => ?_]
    · simp; omega
    · rcases List.mem_cons.mp hr with rfl | hr
      · exact b2
      · obtain ⟨ws, hw, rfl⟩ := List.mem_map.mp hr
        exact J_free (h ws hw).2
  have := read_gen hl n
  rw [t2] at this
  exact this
def zs (n : Nat) : List Str := List.replicate n "0"
def os (n : Nat) : List Str := List.replicate n "1"
theorem z0 : zs 0 = ([] : List Str) := rfl
theorem z1 : zs 1 = (["0"] : List Str) := rfl
theorem z2 : zs 2 = (["0", "0"] : List Str) := rfl
theorem z3 : zs 3 = (["0", "0", "0"] : List Str) := rfl
theorem z4 : zs 4 = (["0", "0", "0", "0"] : List Str) := rfl
theorem z5 : zs 5 = (["0", "0", "0", "0", "0"] : List Str) := rfl
theorem o1 : os 1 = (["1"] : List Str) := rfl
theorem o2 : os 2 = (["1", "1"] : List Str) := rfl
theorem o3 : os 3 = (["1", "1", "1"] : List Str) := rfl
section
variable {a b : Str} {few many : Nat}
abbrev line0 (few : Nat) (a : Str) : Str := hdN few ++ "\nhearth " ++ a
theorem line_9 (a : Str) (h1 : 1 ≤ few) (h3 : few ≤ 3) (m1 : 1 ≤ many) (m5 : many ≤ 5) : line0 few a ++ repS " 0" (many - 1) ++ " 9" = JL [hdN few, J ("hearth" :: a :: (zs (many - 1) ++ (["9"] : List Str)))] := by
  have : many = 1 ∨ many = 2 ∨ many = 3 ∨ many = 4 ∨ many = 5 := by omega
  refine str_ext ?_
  rcases this with rfl | rfl | rfl | rfl | rfl
  all_goals
    simp only [line0, Nat.reduceSub, z0, z1, z2, z3, z4, z5, o1, o2, o3, List.cons_append, List.nil_append, JL, J, join_two, join_one, app_list, List.append_assoc]
    rfl
theorem line_z (a : Str) (h1 : 1 ≤ few) (h3 : few ≤ 3) (m1 : 1 ≤ many) (m5 : many ≤ 5) : line0 few a ++ repS " 0" many = JL [hdN few, J ("hearth" :: a :: zs many)] := by
  have : many = 1 ∨ many = 2 ∨ many = 3 ∨ many = 4 ∨ many = 5 := by omega
  refine str_ext ?_
  rcases this with rfl | rfl | rfl | rfl | rfl
  all_goals
    simp only [line0, Nat.reduceSub, z0, z1, z2, z3, z4, z5, o1, o2, o3, List.cons_append, List.nil_append, JL, J, join_two, join_one, app_list, List.append_assoc]
    rfl
theorem line_3 (a b : Str) (h1 : 1 ≤ few) (h3 : few ≤ 3) : line0 few a ++ repS " 1" few ++ "\nhearth " ++ b ++ repS " 0" (few - 1) ++ " 3 over " ++ a = JL [hdN few, J ("hearth" :: a :: os few), J ("hearth" :: b :: (zs (few - 1) ++ (["3", "over", a] : List Str)))] := by
  have : few = 1 ∨ few = 2 ∨ few = 3 := by omega
  refine str_ext ?_
  rcases this with rfl | rfl | rfl
  all_goals
    simp only [line0, Nat.reduceSub, z0, z1, z2, z3, z4, z5, o1, o2, o3, List.cons_append, List.nil_append, JL, J, join_two, join_one, app_list, List.append_assoc]
    rfl
theorem rx_nil : StrLaws.replL [32, 49] [32, 120] [] = [] := StrLaws.replL_nil
theorem rx_one (r : List Nat) : StrLaws.replL [32, 49] [32, 120] (32 :: 49 :: r) = 32 :: 120 :: StrLaws.replL [32, 49] [32, 120] r := StrLaws.replL_hit (by decide) rfl
theorem rx_other {c : Nat} (r : List Nat) (h : c ≠ 32) : StrLaws.replL [32, 49] [32, 120] (c :: r) = c :: StrLaws.replL [32, 49] [32, 120] r := StrLaws.replL_miss fun e => by
  simp at e
  exact h e.1
theorem rx_blank {d : Nat} (r : List Nat) (h : d ≠ 49) : StrLaws.replL [32, 49] [32, 120] (32 :: d :: r) = 32 :: StrLaws.replL [32, 49] [32, 120] (d :: r) := StrLaws.replL_miss fun e => by
  simp at e
  exact h e
theorem rx_word : ∀ (l r : List Nat), 32 ∉ l → StrLaws.replL [32, 49] [32, 120] (l ++ r) = l ++ StrLaws.replL [32, 49] [32, 120] r
  | [], r, _ => rfl
  | c :: l, r, h => by
    rw [List.cons_append, rx_other _ (fun e => h (by simp [e])), rx_word l r fun q => h (by simp [q])]; rfl
theorem rx_bw {z : Str} (h : IsName z) (r : List Nat) : StrLaws.replL [32, 49] [32, 120] (32 :: (z.cps.toList ++ r)) = 32 :: (z.cps.toList ++ StrLaws.replL [32, 49] [32, 120] r) := by
  have w := (Wd.name h).1
  rw [← rx_word _ r w]
  have e : z.cps.toList.length = z.length := Array.length_toList
  cases q : z.cps.toList with
  | nil => rw [q] at e; have := h.lo; simp at e; omega
  | cons d l =>
    have := h.az d (by rw [q]; simp)
    rw [List.cons_append, rx_blank _ (by omega)]
theorem rx_end {z : Str} (h : IsName z) : StrLaws.replL [32, 49] [32, 120] (32 :: z.cps.toList) = 32 :: z.cps.toList := by
  have := rx_bw h []
  rwa [rx_nil, List.append_nil] at this
theorem repl_1 (ha : IsName a) (hb : IsName b) : PySem.Txt.replace (line0 1 a ++ repS " 1" 1 ++ "\nhearth " ++ b ++ repS " 0" 0 ++ " 3 over " ++ a) " 1" " x" = JL ["stores x", J ["hearth", a, "x"], J ["hearth", b, "3", "over", a]] := by
  refine str_ext ?_
  rw [StrLaws.replace_list (by decide)]
  have e1 : (" 1" : Str).cps.toList = [32, 49] := rfl
  have e2 : (" x" : Str).cps.toList = [32, 120] := rfl
  have e3 : (hdN 1).cps.toList = [115, 116, 111, 114, 101, 115, 32, 49] := rfl
  have e4 : ("\nhearth " : Str).cps.toList = [10, 104, 101, 97, 114, 116, 104, 32] := rfl
  have e5 : (repS " 1" 1).cps.toList = [32, 49] := rfl
  have e6 : (repS " 0" 0).cps.toList = [] := rfl
  have e7 : (" 3 over " : Str).cps.toList = [32, 51, 32, 111, 118, 101, 114, 32] := rfl
  have w1 := rx_bw ha
  have w2 := rx_bw hb
  have w3 := rx_end ha
  simp only [line0, app_list, e1, e2, e3, e4, e5, e6, e7, List.append_assoc, List.cons_append, List.nil_append, JL, J, join_two, join_one]
  repeat' first
    | rw [rx_one]
    | rw [rx_other _ (by decide)]
    | rw [rx_blank _ (by decide)]
    | rw [w1]
    | rw [w2]
    | rw [w3]
  rfl
theorem repl_2 (ha : IsName a) (hb : IsName b) : PySem.Txt.replace (line0 2 a ++ repS " 1" 2 ++ "\nhearth " ++ b ++ repS " 0" 1 ++ " 3 over " ++ a) " 1" " x" = JL [hdN 2, J ["hearth", a, "x", "x"], J ["hearth", b, "0", "3", "over", a]] := by
  refine str_ext ?_
  rw [StrLaws.replace_list (by decide)]
  have e1 : (" 1" : Str).cps.toList = [32, 49] := rfl
  have e2 : (" x" : Str).cps.toList = [32, 120] := rfl
  have e3 : (hdN 2).cps.toList = [115, 116, 111, 114, 101, 115, 32, 50] := rfl
  have e4 : ("\nhearth " : Str).cps.toList = [10, 104, 101, 97, 114, 116, 104, 32] := rfl
  have e5 : (repS " 1" 2).cps.toList = [32, 49, 32, 49] := rfl
  have e6 : (repS " 0" 1).cps.toList = [32, 48] := rfl
  have e7 : (" 3 over " : Str).cps.toList = [32, 51, 32, 111, 118, 101, 114, 32] := rfl
  have w1 := rx_bw ha
  have w2 := rx_bw hb
  have w3 := rx_end ha
  simp only [line0, app_list, e1, e2, e3, e4, e5, e6, e7, List.append_assoc, List.cons_append, List.nil_append, JL, J, join_two, join_one]
  repeat' first
    | rw [rx_one]
    | rw [rx_other _ (by decide)]
    | rw [rx_blank _ (by decide)]
    | rw [w1]
    | rw [w2]
    | rw [w3]
  rfl
theorem repl_3 (ha : IsName a) (hb : IsName b) : PySem.Txt.replace (line0 3 a ++ repS " 1" 3 ++ "\nhearth " ++ b ++ repS " 0" 2 ++ " 3 over " ++ a) " 1" " x" = JL [hdN 3, J ["hearth", a, "x", "x", "x"], J ["hearth", b, "0", "0", "3", "over", a]] := by
  refine str_ext ?_
  rw [StrLaws.replace_list (by decide)]
  have e1 : (" 1" : Str).cps.toList = [32, 49] := rfl
  have e2 : (" x" : Str).cps.toList = [32, 120] := rfl
  have e3 : (hdN 3).cps.toList = [115, 116, 111, 114, 101, 115, 32, 51] := rfl
  have e4 : ("\nhearth " : Str).cps.toList = [10, 104, 101, 97, 114, 116, 104, 32] := rfl
  have e5 : (repS " 1" 3).cps.toList = [32, 49, 32, 49, 32, 49] := rfl
  have e6 : (repS " 0" 2).cps.toList = [32, 48, 32, 48] := rfl
  have e7 : (" 3 over " : Str).cps.toList = [32, 51, 32, 111, 118, 101, 114, 32] := rfl
  have w1 := rx_bw ha
  have w2 := rx_bw hb
  have w3 := rx_end ha
  simp only [line0, app_list, e1, e2, e3, e4, e5, e6, e7, List.append_assoc, List.cons_append, List.nil_append, JL, J, join_two, join_one]
  repeat' first
    | rw [rx_one]
    | rw [rx_other _ (by decide)]
    | rw [rx_blank _ (by decide)]
    | rw [w1]
    | rw [w2]
    | rw [w3]
  rfl
theorem wds_of {z : Str} {ns : List Str} (hz : IsName z) (h : ∀ w ∈ ns, Wd w) : Wds ("hearth" :: z :: ns) := ⟨by simp, by
  simp only [List.forall_mem_cons]
  exact ⟨wd_lits _ (by decide), Wd.name hz, h⟩⟩
theorem wd_zs (n : Nat) : ∀ w ∈ zs n, Wd w := fun w h => by
  rw [(List.mem_replicate.mp h).2]
  exact wd_lits _ (by decide)
theorem wd_os (n : Nat) : ∀ w ∈ os n, Wd w := fun w h => by
  rw [(List.mem_replicate.mp h).2]
  exact wd_lits _ (by decide)
def numsI (n : Nat) (x : Int) : List Int := List.replicate n 0 ++ [x]
def fN (few : Nat) (a : Str) (x : Int) : Fire := ⟨a, numsI (few - 1) x, []⟩
def fO (few : Nat) (a : Str) : Fire := ⟨a, List.replicate few 1, []⟩
def fU (few : Nat) (a b : Str) : Fire := ⟨b, numsI (few - 1) 3, [a]⟩
theorem row_9 (ha : IsName a) (h1 : 1 ≤ few) (h3 : few ≤ 3) (m1 : 1 ≤ many) (m5 : many ≤ 5) : rowW few [] ("hearth" :: a :: (zs (many - 1) ++ (["9"] : List Str))) = if many = few then some (fN few a 9) else none := by
  have ta := nameT ha
  have f3 : few = 1 ∨ few = 2 ∨ few = 3 := by omega
  have : many = 1 ∨ many = 2 ∨ many = 3 ∨ many = 4 ∨ many = 5 := by omega
  rcases this with rfl | rfl | rfl | rfl | rfl
  all_goals
    rcases f3 with rfl | rfl | rfl
    all_goals simp [rowW, toldF, toldB, goodB, hungB, rngB, feedB, List.takeWhile, List.dropWhile, ta, lit_9, lit_0, v_9, v_0, z0, z1, z2, z3, z4, fN, numsI]
theorem row_z (ha : IsName a) (h1 : 1 ≤ few) (h3 : few ≤ 3) (m1 : 1 ≤ many) (m5 : many ≤ 5) : rowW few [] ("hearth" :: a :: zs many) = none := by
  have ta := nameT ha
  have : many = 1 ∨ many = 2 ∨ many = 3 ∨ many = 4 ∨ many = 5 := by omega
  rcases this with rfl | rfl | rfl | rfl | rfl
  all_goals simp [rowW, toldF, toldB, goodB, hungB, rngB, feedB, List.takeWhile, List.dropWhile, ta, lit_0, v_0, z1, z2, z3, z4, z5]
theorem row_o (ha : IsName a) (h1 : 1 ≤ few) (h3 : few ≤ 3) : rowW few [] ("hearth" :: a :: os few) = some (fO few a) := by
  have ta := nameT ha
  have f3 : few = 1 ∨ few = 2 ∨ few = 3 := by omega
  rcases f3 with rfl | rfl | rfl
  all_goals simp [rowW, toldF, toldB, goodB, hungB, rngB, feedB, List.takeWhile, List.dropWhile, ta, lit_1, v_1, o1, o2, o3, fO]
theorem row_u (ha : IsName a) (hb : IsName b) (ab : a ≠ b) (h1 : 1 ≤ few) (h3 : few ≤ 3) : rowW few [a] ("hearth" :: b :: (zs (few - 1) ++ (["3", "over", a] : List Str))) = some (fU few a b) := by
  have ta := nameT ha
  have tb := nameT hb
  have b1 : ¬ b = a := fun e => ab e.symm
  have f3 : few = 1 ∨ few = 2 ∨ few = 3 := by omega
  rcases f3 with rfl | rfl | rfl
  all_goals simp [rowW, toldF, toldB, goodB, hungB, rngB, feedB, List.takeWhile, List.dropWhile, ta, tb, b1, lit_3, lit_0, lit_o, v_3, v_0, z0, z1, z2, fU, numsI]
theorem lit_x : numB "x" = false := by decide
theorem row_x (ha : IsName a) (few : Nat) (r : List Str) : rowW few [] ("hearth" :: a :: "x" :: r) = none := by
  simp [rowW, toldF, List.takeWhile, lit_x]
theorem wd_x : Wd "x" := by unfold Wd; decide
theorem l0_len (ha : IsName a) (h1 : 1 ≤ few) (h3 : few ≤ 3) : (line0 few a).length ≤ 30 := by
  have := (hdN_ok h1 h3).2.2
  have l : ("\nhearth " : Str).length = 8 := rfl
  have := ha.hi
  rw [app_len, app_len]
  omega
theorem rep_len {z : Str} {n : Nat} (hz : z.length = 2) (hn : n ≤ 5) : (repS z n).length ≤ 10 := by
  obtain ⟨cs⟩ := z
  have hz : cs.size = 2 := hz
  have : n = 0 ∨ n = 1 ∨ n = 2 ∨ n = 3 ∨ n = 4 ∨ n = 5 := by omega
  rcases this with rfl | rfl | rfl | rfl | rfl | rfl <;> simp [repS, Str.length, List.replicate, hz]
theorem S0 (h1 : 1 ≤ few) (h3 : few ≤ 3) : g_p_read_web [.v (.str (hdN few))] = some (.ok (webS few []), []) := readN (rs := []) h1 h3 (by rw [List.map_nil, JL, join_one]) (by simp) (by have := (hdN_ok h1 h3).2.2; omega) (by simp) rfl
theorem S1 (h1 : 1 ≤ few) (h3 : few ≤ 3) : g_l_refused [.v (.str (hdN few ++ "\n"))] = some (.ok (.int 1), []) := by
  have l := (hdN_ok h1 h3).2.2
  have l1 : ("\n" : Str).length = 1 := rfl
  refine refN (rs := [[""]]) h1 h3 ?_ (by simpa using wds_n) (by rw [app_len]; omega) (by simp) (k := 1) (by decide) (by simp [readW, rowW, toldF])
  refine str_ext ?_
  simp only [List.map_cons, List.map_nil, JL, J, join_two, join_one, app_list, List.append_assoc]
  simp [Str.ofString]
  rfl
theorem S2 (ha : IsName a) (h1 : 1 ≤ few) (h3 : few ≤ 3) (m1 : 1 ≤ many) (m5 : many ≤ 5) (ne : many ≠ few) : g_l_refused [.v (.str (line0 few a ++ repS " 0" (many - 1) ++ " 9"))] = some (.ok (.int 1), []) := by
  have l := l0_len ha h1 h3
  have l1 := rep_len (z := " 0") (n := many - 1) rfl (by omega)
  have l2 : (" 9" : Str).length = 2 := rfl
  refine refN (rs := ["hearth" :: a :: (zs (many - 1) ++ (["9"] : List Str))]) h1 h3 (line_9 a h1 h3 m1 m5) ?_ (by rw [app_len, app_len]; omega) (by simp) (k := 1) (by decide) ?_
  · simp only [List.forall_mem_cons, List.not_mem_nil, false_imp_iff, implies_true, and_true]
    refine wds_of ha fun w hw => ?_
    rcases List.mem_append.mp hw with q | q
    · exact wd_zs _ w q
    · rw [List.mem_singleton.mp q]; exact wd_lits _ (by decide)
  · have := row_9 ha h1 h3 m1 m5
    rw [if_neg ne] at this
    simp [readW, this]
theorem S3 (ha : IsName a) (h1 : 1 ≤ few) (h3 : few ≤ 3) : g_p_read_web [.v (.str (line0 few a ++ repS " 0" (few - 1) ++ " 9"))] = some (.ok (webD few [fN few a 9]), []) := by
  have l := l0_len ha h1 h3
  have l1 := rep_len (z := " 0") (n := few - 1) rfl (by omega)
  have l2 : (" 9" : Str).length = 2 := rfl
  rw [← webS_ne (fs := [fN few a 9]) (by simp)]
  refine readN (rs := ["hearth" :: a :: (zs (few - 1) ++ (["9"] : List Str))]) h1 h3 (line_9 a h1 h3 h1 (by omega)) ?_ (by rw [app_len, app_len]; omega) (by simp) ?_
  · simp only [List.forall_mem_cons, List.not_mem_nil, false_imp_iff, implies_true, and_true]
    refine wds_of ha fun w hw => ?_
    rcases List.mem_append.mp hw with q | q
    · exact wd_zs _ w q
    · rw [List.mem_singleton.mp q]; exact wd_lits _ (by decide)
  · have := row_9 ha h1 h3 h1 (by omega)
    rw [if_pos rfl] at this
    simp [readW, this]
theorem S4 (ha : IsName a) (h1 : 1 ≤ few) (h3 : few ≤ 3) (m1 : 1 ≤ many) (m5 : many ≤ 5) : g_l_refused [.v (.str (line0 few a ++ repS " 0" many))] = some (.ok (.int 1), []) := by
  have l := l0_len ha h1 h3
  have l1 := rep_len (z := " 0") (n := many) rfl (by omega)
  refine refN (rs := ["hearth" :: a :: zs many]) h1 h3 (line_z a h1 h3 m1 m5) ?_ (by rw [app_len]; omega) (by simp) (k := 1) (by decide) ?_
  · simp only [List.forall_mem_cons, List.not_mem_nil, false_imp_iff, implies_true, and_true]
    exact wds_of ha (wd_zs _)
  · simp [readW, row_z ha h1 h3 m1 m5]
abbrev lineT (few : Nat) (a b : Str) : Str := line0 few a ++ repS " 1" few ++ "\nhearth " ++ b ++ repS " 0" (few - 1) ++ " 3 over " ++ a
theorem lt_len (ha : IsName a) (hb : IsName b) (h1 : 1 ≤ few) (h3 : few ≤ 3) : (lineT few a b).length ≤ 100 := by
  have l := l0_len ha h1 h3
  have l1 := rep_len (z := " 0") (n := few - 1) rfl (by omega)
  have l2 := rep_len (z := " 1") (n := few) rfl (by omega)
  have l3 : ("\nhearth " : Str).length = 8 := rfl
  have l4 : (" 3 over " : Str).length = 8 := rfl
  have := ha.hi
  have := hb.hi
  simp only [lineT, app_len] at l ⊢
  omega
theorem S5 (ha : IsName a) (hb : IsName b) (ab : a ≠ b) (h1 : 1 ≤ few) (h3 : few ≤ 3) : g_p_read_web [.v (.str (lineT few a b))] = some (.ok (webD few [fO few a, fU few a b]), []) := by
  have l := lt_len ha hb h1 h3
  rw [← webS_ne (fs := [fO few a, fU few a b]) (by simp)]
  refine readN (rs := ["hearth" :: a :: os few, "hearth" :: b :: (zs (few - 1) ++ (["3", "over", a] : List Str))]) h1 h3 (line_3 a b h1 h3) ?_ (Nat.le_trans l (by decide)) (by simp) ?_
  · simp only [List.forall_mem_cons, List.not_mem_nil, false_imp_iff, implies_true, and_true]
    refine ⟨wds_of ha (wd_os _), wds_of hb fun w hw => ?_⟩
    rcases List.mem_append.mp hw with q | q
    · exact wd_zs _ w q
    · simp only [List.mem_cons, List.not_mem_nil, or_false] at q
      rcases q with rfl | rfl | rfl
      · exact wd_lits _ (by decide)
      · exact wd_lits _ (by decide)
      · exact Wd.name ha
  · have r1 := row_o ha h1 h3
    have r2 := row_u ha hb ab h1 h3
    simp [readW, r1, fO, r2]
theorem S6 (ha : IsName a) (hb : IsName b) (h1 : 1 ≤ few) (h3 : few ≤ 3) : g_l_refused [.v (.str (PySem.Txt.replace (lineT few a b) " 1" " x"))] = some (.ok (.int (if few = 1 then 0 else 1)), []) := by
  have la := ha.hi
  have lb := hb.hi
  have wa := Wd.name ha
  have wb := Wd.name hb
  have k1 := wd_lits "hearth" (by decide)
  have k2 := wd_lits "3" (by decide)
  have k3 := wd_lits "over" (by decide)
  have k4 := wd_lits "0" (by decide)
  have f3 : few = 1 ∨ few = 2 ∨ few = 3 := by omega
  have short : ∀ (z : Str), Wd z → True := fun _ _ => trivial
  rcases f3 with rfl | rfl | rfl
  · have e := repl_1 ha hb
    rw [show lineT 1 a b = line0 1 a ++ repS " 1" 1 ++ "\nhearth " ++ b ++ repS " 0" 0 ++ " 3 over " ++ a from rfl, if_pos rfl]
    refine ref_head e (by decide) (by decide) (fun r hr => ?_) ?_ (by simp)
    · simp only [List.mem_cons, List.not_mem_nil, or_false] at hr
      rcases hr with rfl | rfl
      · exact J_free (by simp [k1, wa, wd_x])
      · exact J_free (by simp [k1, k2, k3, wa, wb])
    · rw [e]
      simp only [JL, J, join_two, join_one, app_len]
      have q1 : ("stores x" : Str).length = 8 := rfl
      have q2 : ("\n" : Str).length = 1 := rfl
      have q3 : ("hearth" : Str).length = 6 := rfl
      have q4 : (" " : Str).length = 1 := rfl
      have q5 : ("x" : Str).length = 1 := rfl
      have q6 : ("3" : Str).length = 1 := rfl
      have q7 : ("over" : Str).length = 4 := rfl
      omega
  · have e := repl_2 ha hb
    rw [show lineT 2 a b = line0 2 a ++ repS " 1" 2 ++ "\nhearth " ++ b ++ repS " 0" 1 ++ " 3 over " ++ a from rfl, if_neg (by decide)]
    refine refN (rs := [["hearth", a, "x", "x"], ["hearth", b, "0", "3", "over", a]]) h1 h3 e ?_ ?_ (by simp) (k := 1) (by decide) (by simp [readW, row_x ha])
    · simp only [List.forall_mem_cons, List.not_mem_nil, false_imp_iff, implies_true, and_true]
      exact ⟨wds_of ha (by simp [wd_x]), wds_of hb (by simp [k2, k3, k4, wa])⟩
    · rw [e]
      simp only [JL, J, join_two, join_one, app_len]
      have q1 : (hdN 2).length = 8 := rfl
      have q2 : ("\n" : Str).length = 1 := rfl
      have q3 : ("hearth" : Str).length = 6 := rfl
      have q4 : (" " : Str).length = 1 := rfl
      have q5 : ("x" : Str).length = 1 := rfl
      have q6 : ("3" : Str).length = 1 := rfl
      have q7 : ("over" : Str).length = 4 := rfl
      have q8 : ("0" : Str).length = 1 := rfl
      omega
  · have e := repl_3 ha hb
    rw [show lineT 3 a b = line0 3 a ++ repS " 1" 3 ++ "\nhearth " ++ b ++ repS " 0" 2 ++ " 3 over " ++ a from rfl, if_neg (by decide)]
    refine refN (rs := [["hearth", a, "x", "x", "x"], ["hearth", b, "0", "0", "3", "over", a]]) h1 h3 e ?_ ?_ (by simp) (k := 1) (by decide) (by simp [readW, row_x ha])
    · simp only [List.forall_mem_cons, List.not_mem_nil, false_imp_iff, implies_true, and_true]
      exact ⟨wds_of ha (by simp [wd_x]), wds_of hb (by simp [k2, k3, k4, wa])⟩
    · rw [e]
      simp only [JL, J, join_two, join_one, app_len]
      have q1 : (hdN 3).length = 8 := rfl
      have q2 : ("\n" : Str).length = 1 := rfl
      have q3 : ("hearth" : Str).length = 6 := rfl
      have q4 : (" " : Str).length = 1 := rfl
      have q5 : ("x" : Str).length = 1 := rfl
      have q6 : ("3" : Str).length = 1 := rfl
      have q7 : ("over" : Str).length = 4 := rfl
      have q8 : ("0" : Str).length = 1 := rfl
      omega
end
end K07
set_option maxHeartbeats 8000000
namespace K07
open PySem L2 VS
theorem hearth_at {few : Nat} {fs : List Fire} {z : Str} {f : Fire} (h : fireOf fs z = some f) : g_m_Web_hearth_of [.v (webD few fs), .v (.str z)] = some (.ok f.d, []) := by
  apply wF_eq
  refine w_def rfl rfl ?_
  simp only [st_v, st_l, st_n, st_0, h_m_Web_hearth_of]
  simp [val_fires, h]
theorem hungers_at {few : Nat} {fs : List Fire} {z : Str} {f : Fire} (h : fireOf fs z = some f) : g_m_Web_hungers [.v (webD few fs), .v (.str z)] = some (.ok (.tup (f.hung.map D.int)), []) := by
  have e := hearth_at (few := few) h
  have i : ixD f.d (.int 1) = some (.tup (f.hung.map D.int)) := by simp [Fire.d]
  apply wF_eq
  refine w_def rfl rfl ?_
  simp only [st_v, st_l, st_n, st_0, h_m_Web_hungers]
  simp [e, i]
theorem feeders_at {few : Nat} {fs : List Fire} {z : Str} {f : Fire} (h : fireOf fs z = some f) : g_m_Web_feeders [.v (webD few fs), .v (.str z)] = some (.ok (.tup (f.feed.map D.str)), []) := by
  have e := hearth_at (few := few) h
  have i : ixD f.d (.int 2) = some (.tup (f.feed.map D.str)) := by simp [Fire.d]
  apply wF_eq
  refine w_def rfl rfl ?_
  simp only [st_v, st_l, st_n, st_0, h_m_Web_feeders]
  simp [e, i]
theorem eq_ints {ns : List Int} (h : ∀ n ∈ ns, 0 ≤ n ∧ n ≤ 9) (hl : ns.length ≤ 16) : neD (.tup (ns.map D.int)) (.tup (ns.map D.int)) = some (.bl false) := by
  have ex : toPy (.tup (ns.map D.int)) = some (.tuple (ns.map PyData.int)) := by
    rw [toPy, toPys_map D.int PyData.int (fun b => rfl)]; rfl
  have rp : RP (.tup (ns.map D.int)) (ns.length * 32) 1 := rp_ints (fun n hn => by have := h n hn; omega) (Nat.le_refl _)
  have e := eq_rp ex ex rp rp (by decide) (by decide)
  unfold neD
  rw [show VS.eqB (.tup (ns.map D.int)) (.tup (ns.map D.int)) = eqB0 (.tup (ns.map D.int)) (.tup (ns.map D.int)) from rfl, e]
  simp [PyData.eqv, eqvAll_map PyData.int py_int]
theorem ne_strs {xs : List Str} (h : ∀ z ∈ xs, IsName z) (hl : xs.length ≤ 20) : neD (.tup (xs.map D.str)) (.tup (xs.map D.str)) = some (.bl false) := by
  have ex : toPy (.tup (xs.map D.str)) = some (.tuple (xs.map PyData.str)) := by
    rw [toPy, toPys_map D.str PyData.str (fun b => rfl)]; rfl
  have rp : RP (.tup (xs.map D.str)) 140 1 := rp_tup (w := 6) (n := 0) (fun d hd => by obtain ⟨y, hy, rfl⟩ := List.mem_map.mp hd; exact rp_name (h y hy)) (by rw [List.length_map]; omega)
  have e := eq_rp ex ex rp rp (by decide) (by decide)
  unfold neD
  rw [show VS.eqB (.tup (xs.map D.str)) (.tup (xs.map D.str)) = eqB0 (.tup (xs.map D.str)) (.tup (xs.map D.str)) from rfl, e]
  simp [PyData.eqv, eqvAll_map PyData.str py_str]
theorem mulW_str {z : Str} {k : Nat} (h1 : 0 < z.length) (h2 : z.length ≤ 1000) (hk : k ≤ 1000) : mulW (.str z) (.int (k : Int)) = some (.str (repS z k)) := by
  simp only [mulW]
  rw [if_pos ⟨by omega, by omega, h1, h2⟩]; rfl
theorem zeros_is {few : Nat} (h1 : 1 ≤ few) (h3 : few ≤ 3) : mulW (.tup [.int 0]) (.int ((few : Int) - 1)) = some (.tup ((List.replicate (few - 1) (0 : Int)).map D.int)) := by
  have : few = 1 ∨ few = 2 ∨ few = 3 := by omega
  rcases this with rfl | rfl | rfl <;> rfl
section
variable {a b : Str}
theorem stores_right (ha : IsName a) (hb : IsName b) (ab : a ≠ b) : g_l_stores_right [.v (.str a), .v (.str b)] = some (.ok (.bl true), []) := by
  have la := ha.hi
  have lb := hb.hi
  have na : ∀ n, 6 ≤ n → a.length ≤ n := fun n h => nm_le la h
  have nb : ∀ n, 6 ≤ n → b.length ≤ n := fun n h => nm_le lb h
  have r14 : range2D [.int 1, .int 4] = some ([1, 2, 3].map fun k : Nat => D.int (k : Int)) := by
    simp only [range2D]
    rw [if_pos ⟨by unfold small; decide, by unfold small; decide⟩]; rfl
  have r16 : range2D [.int 1, .int 6] = some ([1, 2, 3, 4, 5].map fun k : Nat => D.int (k : Int)) := by
    simp only [range2D]
    rw [if_pos ⟨by unfold small; decide, by unfold small; decide⟩]; rfl
  apply wF_eq
  refine w_def rfl rfl ?_
  simp only [st_v, st_l, st_n, st_0, h_l_stores_right]
  simp [r14, -forGo_cons, -List.map_cons]
  refine for_inv _ (fun pre post ρ => ∃ o2 o3 o4 o5 : Option D, ρ = [some (Sl.val (D.str a)), some (Sl.val (D.str b)), o2.map Sl.val, o3.map Sl.val, o4.map Sl.val, o5.map Sl.val]) [1, 2, 3] ⟨none, none, none, none, rfl⟩ ?_ ?_
  · rintro ρ ⟨o2, o3, o4, o5, rfl⟩
    simp
  · rintro pre few post ρ hx ⟨o2, o3, o4, o5, rfl⟩
    have hm : few ∈ [1, 2, 3] := by rw [hx]; simp
    have h13 : 1 ≤ few ∧ few ≤ 3 := by
      simp only [List.mem_cons, List.not_mem_nil, or_false] at hm
      omega
    obtain ⟨h1, h3⟩ := h13
    have sn : strD (.int (few : Int)) = some (.str (num few)) := str_num (by omega)
    have s0 := S0 h1 h3
    have s1 := S1 h1 h3
    have s5 := S5 ha hb ab h1 h3
    have s6 := S6 ha hb h1 h3
    have ln : g_m_Web_len [.v (webS few [])] = some (.ok (.int 0), []) := by
      rw [webS_nil]
      apply wF_eq
      refine w_def rfl rfl ?_
      simp only [st_v, st_l, st_n, st_0, h_m_Web_len]
      simp [lenD]
    have lI : lenI 0 g_m_Web_len (webS few []) = some (.int 0) := by
      rw [webS_nil] at ln ⊢
      have sd : said g_m_Web_len [webE few] = some (.int 0) := by unfold said; rw [show ([webE few] : List D).map Arg.v = [Arg.v (webE few)] from rfl, ln]
      simp [lenI, webE, isIns] at sd ⊢
      exact sd
    have hl := (hdN_ok h1 h3).2.2
    have hH : ∀ n, 8 ≤ n → (hdN few).length ≤ n := fun n h => by omega
    have nl : ∀ n, 1 ≤ n → (num few).length ≤ n := fun n h => by rw [num_len (by omega) (by omega)]; exact h
    have hu : (Str.ofString "stores " ++ num few) = hdN few := rfl
    have m1 : mulW (.str " 1") (.int (few : Int)) = some (.str (repS " 1" few)) := mulW_str (by decide) (by decide) (by omega)
    have m2 : mulW (.str " 0") (.int ((few : Int) - 1)) = some (.str (repS " 0" (few - 1))) := by
      have := mulW_str (z := " 0") (k := few - 1) (by decide) (by decide) (by omega)
      rwa [show ((few - 1 : Nat) : Int) = (few : Int) - 1 by omega] at this
    have k1 : ∀ n, 10 ≤ n → (repS " 1" few).length ≤ n := fun n h => Nat.le_trans (rep_len rfl (by omega)) h
    have k2 : ∀ n, 10 ≤ n → (repS " 0" (few - 1)).length ≤ n := fun n h => Nat.le_trans (rep_len rfl (by omega)) h
    have lT := lt_len ha hb h1 h3
    have fb : fireOf [fO few a, fU few a b] b = some (fU few a b) := by
      have : ¬ a = b := ab
      simp [fireOf, fO, fU, this]
    have fe := feeders_at (few := few) fb
    have nf : neD (.tup [.str a]) (.tup [.str a]) = some (.bl false) := ne_strs (xs := [a]) (by simpa using ha) (by simp)
    have nw : neD (.int (few : Int)) (.int (few : Int)) = some (.bl false) := by simp
    have fuf : (fU few a b).feed = [a] := rfl
    rw [fuf] at fe
    have rp : replD " 1" " x" (.str (lineT few a b)) = some (.str (PySem.Txt.replace (lineT few a b) " 1" " x")) := by
      simp only [replD]
      have : (" x" : Str).length = 2 := rfl
      rw [if_pos (by rw [this]; omega)]
    have i1 : subD (.int 1) (.int (if (few : Int) = 1 then 1 else 0)) = some (.int (if few = 1 then 0 else 1)) := by
      have : few = 1 ∨ few = 2 ∨ few = 3 := by omega
      rcases this with rfl | rfl | rfl <;> rfl
    generalize hR : PySem.Txt.replace (lineT few a b) " 1" " x" = R at *
    simp (config := { decide := true, maxDischargeDepth := 40 }) [sn, addS, app_le, lit_le, na, nb, nl, hu, hH, s0, s1, lI, r16, -forGo_cons, -List.map_cons]
    refine for_inv _ (fun pre post ρ => ∃ o4 o5 : Option D, ρ = [some (Sl.val (D.str a)), some (Sl.val (D.str b)), some (Sl.val (D.int (few : Int))), some (Sl.val (D.str (hdN few))), o4.map Sl.val, o5.map Sl.val]) [1, 2, 3, 4, 5] ⟨o4, o5, rfl⟩ ?_ ?_
    · rintro ρ ⟨o4, o5, rfl⟩
      by_cases c1 : few = 1
      · have c2 : ((few : Int) = 1) = True := eq_true (by omega)
        rw [if_pos c1] at s6
        simp (config := { decide := true, maxDischargeDepth := 40 }) [addS, app_le, lit_le, na, nb, hH, m1, m2, k1, k2, s5, fe, nf, rp, s6, c2]
        exact hide ⟨some (.int few), some (.str (hdN few)), o4, some (.str (lineT few a b)), rfl⟩
      · have c2 : ((few : Int) = 1) = False := eq_false (by omega)
        rw [if_neg c1] at s6
        simp (config := { decide := true, maxDischargeDepth := 40 }) [addS, app_le, lit_le, na, nb, hH, m1, m2, k1, k2, s5, fe, nf, rp, s6, c2]
        exact hide ⟨some (.int few), some (.str (hdN few)), o4, some (.str (lineT few a b)), rfl⟩
    · rintro pre many post ρ hx ⟨o4, o5, rfl⟩
      have hm5 : many ∈ [1, 2, 3, 4, 5] := by rw [hx]; simp
      have m15 : 1 ≤ many ∧ many ≤ 5 := by
        simp only [List.mem_cons, List.not_mem_nil, or_false] at hm5
        omega
      obtain ⟨n1, n5⟩ := m15
      have m3 : mulW (.str " 0") (.int ((many : Int) - 1)) = some (.str (repS " 0" (many - 1))) := by
        have := mulW_str (z := " 0") (k := many - 1) (by decide) (by decide) (by omega)
        rwa [show ((many - 1 : Nat) : Int) = (many : Int) - 1 by omega] at this
      have m4 : mulW (.str " 0") (.int (many : Int)) = some (.str (repS " 0" many)) := mulW_str (by decide) (by decide) (by omega)
      have k3 : ∀ n, 10 ≤ n → (repS " 0" (many - 1)).length ≤ n := fun n h => Nat.le_trans (rep_len rfl (by omega)) h
      have k4 : ∀ n, 10 ≤ n → (repS " 0" many).length ≤ n := fun n h => Nat.le_trans (rep_len rfl (by omega)) h
      have s4 := S4 ha h1 h3 n1 n5
      by_cases c : many = few
      · subst c
        have s3 := S3 ha h1 h3
        have hz := zeros_is h1 h3
        have fz : fireOf [fN many a 9] a = some (fN many a 9) := by simp [fireOf, fN]
        have hu9 := hungers_at (few := many) fz
        have fnh : (fN many a 9).hung = numsI (many - 1) 9 := rfl
        rw [fnh] at hu9
        have ad : addD (.tup ((List.replicate (many - 1) (0 : Int)).map D.int)) (.tup [.int 9]) = some (.tup ((numsI (many - 1) 9).map D.int)) := by
          simp only [addD]
          rw [if_pos (by simp [lim]; omega)]
          simp [numsI]
        have nz : neD (.tup ((numsI (many - 1) 9).map D.int)) (.tup ((numsI (many - 1) 9).map D.int)) = some (.bl false) := eq_ints (fun n hn => by
          unfold numsI at hn
          rcases List.mem_append.mp hn with q | q
          · rw [(List.mem_replicate.mp q).2]; decide
          · rw [List.mem_singleton.mp q]; decide) (by simp [numsI]; omega)
        generalize hNI : (numsI (many - 1) 9).map D.int = NI at *
        generalize hRI : (List.replicate (many - 1) (0 : Int)).map D.int = RI at *
        have wi : isIns 0 (webD many [fN many a 9]) = true := rfl
        generalize hWD : webD many [fN many a 9] = WD at *
        simp (config := { decide := true, maxDischargeDepth := 40 }) [addS, app_le, lit_le, na, nb, hH, m3, m4, k3, k4, s3, s4, wi, hu9, hz, ad, nz]
        exact hide ⟨some (.int many), some (.str _), rfl⟩
      · have s2 := S2 ha h1 h3 n1 n5 c
        have ci : ¬ ((many : Int) = (few : Int)) := by omega
        simp (config := { decide := true, maxDischargeDepth := 40 }) [addS, app_le, lit_le, na, nb, hH, m3, m4, k3, k4, ci, s2, s4]
        exact hide ⟨some (.int many), some (.str _), rfl⟩
end
end K07
set_option maxHeartbeats 8000000
namespace K07
open PySem L2 VS
theorem join_le {z : Str} {ws : List Str} {c : Nat} (hz : z.length = 1) (h : ∀ w ∈ ws, w.length ≤ c) : (PySem.Txt.join z ws).length ≤ ws.length * (c + 1) := by
  rw [join_is]
  have := StrLaws.join_length_le z ws
  rw [hz] at this
  have := sum_le c ws h
  rw [Nat.mul_add]
  omega
section
variable {cs : List Str} {W : Str × Nat → List Str} {F : Str × Nat → Fire}
structure Tells (cs : List Str) (W : Str × Nat → List Str) (F : Str × Nat → Fire) : Prop where
  row : ∀ k p, cs.zipIdx[k]? = some p → k < 16 → rowW 2 (cs.take k) (W p) = some (F p)
  nm : ∀ p, (F p).name = p.1
theorem tells_names (t : Tells cs W F) (k : Nat) : ((cs.zipIdx.take k).map F).map Fire.name = cs.take k := by
  rw [List.map_map]
  have e : (Fire.name ∘ F) = Prod.fst := funext fun p => t.nm p
  rw [e]
  have : cs = cs.zipIdx.map Prod.fst := by simp
  conv => rhs; rw [this]
  rw [List.map_take]
theorem tells_run (t : Tells cs W F) (R : List (Str × Nat)) {m : Nat} (hR : R = cs.zipIdx.take m) : ∀ n, n ≤ R.length → n ≤ 16 → readW 2 [] 1 (R.map W) = readW 2 ((R.take n).map F) (1 + n) ((R.drop n).map W)
  | 0, _, _ => by simp
  | n + 1, h, h16 => by
    rw [tells_run t R hR n (by omega) (by omega)]
    obtain ⟨x, q⟩ : ∃ x, R[n]? = some x := ⟨_, List.getElem?_eq_getElem (by omega)⟩
    have lm : n < m := by
      have : R.length ≤ m := by rw [hR, List.length_take]; omega
      omega
    have q2 : cs.zipIdx[n]? = some x := by
      have : R[n]? = cs.zipIdx[n]? := by rw [hR, List.getElem?_take, if_pos lm]
      rw [← this]; exact q
    have dr : R.drop n = x :: R.drop (n + 1) := by
      rw [List.drop_eq_getElem_cons (by omega : n < R.length)]
      rw [List.getElem?_eq_getElem (by omega : n < R.length)] at q
      rw [Option.some.inj q]
    rw [dr, List.map_cons, readW]
    have tk : R.take n = cs.zipIdx.take n := by rw [hR, List.take_take, Nat.min_eq_left (by omega)]
    have e1 : ((R.take n).map F).length = n := by rw [List.length_map, List.length_take]; omega
    have e2 : ((R.take n).map F).map Fire.name = cs.take n := by rw [tk]; exact tells_names t n
    have tk1 : R.take (n + 1) = R.take n ++ [x] := by rw [List.take_add_one, q]; rfl
    rw [e1, if_pos (by omega), e2, t.row n _ q2 (by omega), tk1, List.map_append]
    rfl
theorem tells_all (t : Tells cs W F) (h : cs.length = 17) : readW 2 [] 1 ((cs.zipIdx.take 16).map W) = .inr ((cs.zipIdx.take 16).map F) ∧ readW 2 [] 1 (cs.zipIdx.map W) = .inl 17 := by
  have l1 : (cs.zipIdx.take 16).length = 16 := by simp [h]
  have l2 : cs.zipIdx.length = 17 := by simp [h]
  constructor
  · rw [tells_run t (cs.zipIdx.take 16) rfl 16 (by omega) (by omega)]
    have d : (cs.zipIdx.take 16).drop 16 = [] := List.drop_eq_nil_of_le (by omega)
    have k : (cs.zipIdx.take 16).take 16 = cs.zipIdx.take 16 := List.take_of_length_le (by omega)
    rw [d, k]; rfl
  · rw [tells_run t cs.zipIdx (m := 17) (List.take_of_length_le (by omega)).symm 16 (by omega) (by omega)]
    rw [List.drop_eq_getElem_cons (by omega : 16 < cs.zipIdx.length), List.map_cons, readW, if_neg (by simp; omega)]
end
def pRow (p : Str × Nat) : List Str := ["hearth", p.1, "0", num ((1 + p.2 % 9 : Nat) : Int)]
def pF (p : Str × Nat) : Fire := ⟨p.1, [0, ((1 + p.2 % 9 : Nat) : Int)], []⟩
def sRow (cs : List Str) (p : Str × Nat) : List Str := (["hearth", p.1, "9", "0"] : List Str) ++ ((if 0 < p.2 then (["over"] : List Str) else []) ++ (cs.take p.2).reverse)
def sF (cs : List Str) (p : Str × Nat) : Fire := ⟨p.1, [9, 0], (cs.take p.2).reverse⟩
section
variable {cs : List Str}
theorem zip_at {k : Nat} {p : Str × Nat} (h : cs.zipIdx[k]? = some p) : p.2 = k ∧ cs[k]? = some p.1 ∧ k < cs.length := by
  rw [List.getElem?_zipIdx] at h
  cases q : cs[k]? with
  | none => rw [q] at h; cases h
  | some z =>
    rw [q] at h
    simp at h
    rw [← h]
    exact ⟨rfl, rfl, (List.getElem?_eq_some_iff.mp q).1⟩
theorem nin_take (nd : cs.Nodup) {k : Nat} {z : Str} (h : cs[k]? = some z) : z ∉ cs.take k := fun q => by
  obtain ⟨hk, ek⟩ := List.getElem?_eq_some_iff.mp h
  have e : cs = cs.take k ++ z :: cs.drop (k + 1) := by
    conv => lhs; rw [← List.take_append_drop k cs, List.drop_eq_getElem_cons hk, ek]
  rw [e, List.nodup_append] at nd
  exact nd.2.2 _ q _ (by simp) rfl
theorem dig_ok {n : Nat} (h1 : 1 ≤ n) (h9 : n ≤ 9) : numB (num (n : Int)) = true ∧ valW (num (n : Int)) = n ∧ Wd (num (n : Int)) ∧ (num (n : Int)).length = 1 := by
  have : n = 1 ∨ n = 2 ∨ n = 3 ∨ n = 4 ∨ n = 5 ∨ n = 6 ∨ n = 7 ∨ n = 8 ∨ n = 9 := by omega
  unfold Wd
  rcases this with rfl | rfl | rfl | rfl | rfl | rfl | rfl | rfl | rfl <;> decide
theorem tells_p (hn : ∀ z ∈ cs, IsName z) (nd : cs.Nodup) : Tells cs pRow pF where
  nm := fun p => rfl
  row := fun k p h _ => by
    obtain ⟨e1, e2, e3⟩ := zip_at h
    have tz := nameT (hn _ (List.mem_of_getElem? e2))
    have nt := nin_take nd e2
    obtain ⟨d1, d2, _⟩ := dig_ok (n := 1 + p.2 % 9) (by omega) (by omega)
    unfold pRow pF
    generalize num ((1 + p.2 % 9 : Nat) : Int) = D at *
    have h9 : ((1 + p.2 % 9 : Nat) : Int) ≤ 9 ∧ 0 < ((1 + p.2 % 9 : Nat) : Int) ∧ 0 ≤ ((1 + p.2 % 9 : Nat) : Int) := by omega
    generalize ((1 + p.2 % 9 : Nat) : Int) = v at *
    simp [rowW, toldF, toldB, goodB, hungB, rngB, feedB, List.takeWhile, List.dropWhile, tz, nt, d1, d2, lit_0, v_0, h9]
theorem tells_s (hn : ∀ z ∈ cs, IsName z) (nd : cs.Nodup) : Tells cs (sRow cs) (sF cs) where
  nm := fun p => rfl
  row := fun k p h _ => by
    obtain ⟨e1, e2, e3⟩ := zip_at h
    have tz := nameT (hn _ (List.mem_of_getElem? e2))
    have nt := nin_take nd e2
    unfold sRow sF
    rw [e1]
    by_cases c : 0 < k
    · rw [if_pos c]
      have ne : cs.take k ≠ [] := fun e => by
        have := congrArg List.length e
        rw [List.length_take, List.length_nil] at this
        omega
      have al : ((cs.take k).reverse).all nameB = true := List.all_eq_true.mpr fun z hz => nameT (hn z (List.mem_of_mem_take (List.mem_reverse.mp hz)))
      have nr : (cs.take k).reverse.Nodup := (List.reverse_perm _).nodup_iff.mpr (nd.sublist (List.take_sublist k cs))
      have ne2 : (cs.take k).reverse ≠ [] := by simpa using ne
      have mem : ∀ z ∈ (cs.take k).reverse, z ∈ cs.take k := fun z hz => List.mem_reverse.mp hz
      generalize (cs.take k).reverse = R at *
      generalize cs.take k = S at *
      have fb : feedB S R = true := by
        unfold feedB
        rw [Bool.and_eq_true]
        exact ⟨List.all_eq_true.mpr fun z hz => decide_eq_true (mem z hz), decide_eq_true nr⟩
      have tb : toldB ("over" :: R) = true := by simp [toldB, ne2, al]
      have tw : ("9" :: "0" :: "over" :: R : List Str).takeWhile numB = (["9", "0"] : List Str) := by
        simp [List.takeWhile, lit_9, lit_0, lit_o]
      have dw : ("9" :: "0" :: "over" :: R : List Str).dropWhile numB = ("over" : Str) :: R := by
        simp [List.dropWhile, lit_9, lit_0, lit_o]
      show rowW 2 S ("hearth" :: p.1 :: "9" :: "0" :: "over" :: R) = _
      simp only [rowW, toldF, tw, dw, tb]
      simp [goodB, tz, nt, fb, hungB, rngB, v_9, v_0]
    · rw [if_neg c]
      have k0 : k = 0 := by omega
      subst k0
      simp [rowW, toldF, toldB, goodB, hungB, rngB, feedB, List.takeWhile, List.dropWhile, tz, lit_9, lit_0, v_9, v_0]
theorem wds_p (hn : ∀ z ∈ cs, IsName z) : ∀ ws ∈ cs.zipIdx.map pRow, Wds ws := fun ws h => by
  obtain ⟨p, hp, rfl⟩ := List.mem_map.mp h
  have hz : p.1 ∈ cs := by
    obtain ⟨k, hk⟩ := List.getElem?_of_mem hp
    exact List.mem_of_getElem? (zip_at hk).2.1
  obtain ⟨_, _, d3, _⟩ := dig_ok (n := 1 + p.2 % 9) (by omega) (by omega)
  refine wds_of (hn _ hz) ?_
  simp only [List.forall_mem_cons, List.not_mem_nil, false_imp_iff, implies_true, and_true]
  exact ⟨wd_lits _ (by decide), d3⟩
theorem wds_s (hn : ∀ z ∈ cs, IsName z) : ∀ ws ∈ cs.zipIdx.map (sRow cs), Wds ws := fun ws h => by
  obtain ⟨p, hp, rfl⟩ := List.mem_map.mp h
  have hz : p.1 ∈ cs := by
    obtain ⟨k, hk⟩ := List.getElem?_of_mem hp
    exact List.mem_of_getElem? (zip_at hk).2.1
  show Wds ("hearth" :: p.1 :: "9" :: "0" :: _)
  refine wds_of (hn _ hz) fun w hw => ?_
  rcases List.mem_cons.mp hw with rfl | hw
  · exact wd_lits _ (by decide)
  rcases List.mem_cons.mp hw with rfl | hw
  · exact wd_lits _ (by decide)
  have hw : w ∈ (if 0 < p.2 then (["over"] : List Str) else []) ++ (cs.take p.2).reverse := hw
  rcases List.mem_append.mp hw with q | q
  · split at q
    · rw [List.mem_singleton.mp q]; exact wd_lits _ (by decide)
    · cases q
  · exact Wd.name (hn w (List.mem_of_mem_take (List.mem_reverse.mp q)))
theorem len_p (hn : ∀ z ∈ cs, IsName z) : ∀ ws ∈ cs.zipIdx.map pRow, (J ws).length ≤ 200 := fun ws h => by
  obtain ⟨p, hp, rfl⟩ := List.mem_map.mp h
  have hz : p.1 ∈ cs := by
    obtain ⟨k, hk⟩ := List.getElem?_of_mem hp
    exact List.mem_of_getElem? (zip_at hk).2.1
  obtain ⟨_, _, _, d4⟩ := dig_ok (n := 1 + p.2 % 9) (by omega) (by omega)
  refine Nat.le_trans (join_le (c := 6) rfl ?_) (by show 4 * 7 ≤ 200; decide)
  unfold pRow
  simp only [List.forall_mem_cons, List.not_mem_nil, false_imp_iff, implies_true, and_true]
  exact ⟨by decide, (hn _ hz).hi, by decide, by omega⟩
theorem len_s (hn : ∀ z ∈ cs, IsName z) (h17 : cs.length ≤ 17) : ∀ ws ∈ cs.zipIdx.map (sRow cs), (J ws).length ≤ 200 := fun ws h => by
  obtain ⟨p, hp, rfl⟩ := List.mem_map.mp h
  have hz : p.1 ∈ cs := by
    obtain ⟨k, hk⟩ := List.getElem?_of_mem hp
    exact List.mem_of_getElem? (zip_at hk).2.1
  have lw : (sRow cs p).length ≤ 22 := by
    unfold sRow
    rw [List.length_append, List.length_append, List.length_reverse, List.length_take]
    split <;> simp <;> omega
  refine Nat.le_trans (join_le (c := 6) rfl fun w hw => ?_) (by omega)
  unfold sRow at hw
  rcases List.mem_append.mp hw with q | q
  · simp only [List.mem_cons, List.not_mem_nil, or_false] at q
    rcases q with rfl | rfl | rfl | rfl
    · decide
    · exact (hn _ hz).hi
    · decide
    · decide
  · rcases List.mem_append.mp q with q | q
    · split at q
      · rw [List.mem_singleton.mp q]; decide
      · cases q
    · exact (hn w (List.mem_of_mem_take (List.mem_reverse.mp q))).hi
end
abbrev hd2 : Str := "stores 2"
section
variable {R : List (List Str)}
theorem JL_len (h : ∀ ws ∈ R, (J ws).length ≤ 200) (hr : R.length ≤ 20) : (JL (hd2 :: R.map J)).length ≤ 1000000 := by
  refine Nat.le_trans (join_le (c := 200) rfl fun w hw => ?_) (by show (hd2 :: R.map J).length * 201 ≤ _; simp; omega)
  rcases List.mem_cons.mp hw with rfl | hw
  · decide
  · obtain ⟨ws, q, rfl⟩ := List.mem_map.mp hw
    exact h ws q
theorem great_text (hw : ∀ ws ∈ R, Wds ws) (h : ∀ ws ∈ R, (J ws).length ≤ 200) (hr : R.length ≤ 20) : (∀ fs, readW 2 [] 1 R = .inr fs → g_p_read_web [.v (.str (JL (hd2 :: R.map J)))] = some (.ok (webS 2 fs), [])) ∧
    (∀ k, k ≤ 1000 → readW 2 [] 1 R = .inl k → g_l_refused [.v (.str (JL (hd2 :: R.map J)))] = some (.ok (.int (k : Int)), [])) := by
  have b1 : begunP hd2 = some 2 := by decide
  have b2 : 10 ∉ hd2.cps.toList := by decide
  have t := text_words b1 b2 hw
  have sp : PySem.Txt.split (JL (hd2 :: R.map J)) "\n" = hd2 :: R.map J := split_rows (by simp) fun r q => by
    rcases List.mem_cons.mp q with rfl | q
    · exact b2
    · obtain ⟨ws, qw, rfl⟩ := List.mem_map.mp q
      exact J_free (hw ws qw).2
  have b3 : ∀ w ∈ PySem.Txt.split (JL (hd2 :: R.map J)) "\n", w.length ≤ 1900 := fun w q => by
    rw [sp] at q
    rcases List.mem_cons.mp q with rfl | q
    · decide
    · obtain ⟨ws, qw, rfl⟩ := List.mem_map.mp q
      have := h ws qw
      omega
  have n : (PySem.Txt.split (JL (hd2 :: R.map J)) "\n").length ≤ 40 := by rw [sp]; simp; omega
  have l := JL_len h hr
  constructor
  · intro fs e
    have := read_gen2 l b3 n
    rw [t, textW2, e] at this
    exact this
  · intro k hk e
    have t2 : textP (JL (hd2 :: R.map J)) = .inl k := by rw [t, textW2, e]
    have := refused_gen2 l b3 n (by rw [t2]; intro j hj; cases hj; exact hk)
    rw [t2] at this
    exact this
end
end K07
set_option maxHeartbeats 2000000
namespace K07
open PySem L2 VS
theorem names_at (few : Nat) (fs : List Fire) (hl : fs.length ≤ 16) : g_m_Web_names [.v (webD few fs)] = some (.ok (.tup (fs.map fun f => .str f.name)), []) := by
  apply wF_eq
  refine w_def rfl rfl ?_
  simp only [st_v, st_l, st_n, st_0, h_m_Web_names]
  simp
  refine lc_map (fun f => .str f.name) (by omega) ?_ fun x hx => ?_
  · simp
  · simp [Fire.d]
theorem eq_rows {xss : List (List Str)} (h : ∀ xs ∈ xss, xs.length ≤ 17 ∧ ∀ z ∈ xs, IsName z) (hl : xss.length ≤ 16) : eqD (.lst (xss.map fun xs => .tup (xs.map D.str))) (.lst (xss.map fun xs => .tup (xs.map D.str))) = some (.bl true) := by
  have e1 : ∀ xs : List Str, toPy (.tup (xs.map D.str)) = some (.tuple (xs.map PyData.str)) := fun xs => by
    rw [toPy, toPys_map D.str PyData.str (fun b => rfl)]; rfl
  have ex : toPy (.lst (xss.map fun xs => .tup (xs.map D.str))) = some (.list (xss.map fun xs => PyData.tuple (xs.map PyData.str))) := by
    rw [toPy, toPys_map (fun xs => D.tup (xs.map D.str)) (fun xs : List Str => PyData.tuple (xs.map PyData.str)) e1]; rfl
  have rp : RP (.lst (xss.map fun xs => .tup (xs.map D.str))) 2000 2 := rp_lst (w := 119) (n := 1) (fun d hd => by
    obtain ⟨xs, hx, rfl⟩ := List.mem_map.mp hd
    exact rp_tup (w := 6) (n := 0) (fun d hd => by obtain ⟨y, hy, rfl⟩ := List.mem_map.mp hd; exact rp_name ((h xs hx).2 y hy)) (by rw [List.length_map]; have := (h xs hx).1; omega)) (by rw [List.length_map]; omega)
  have e := eq_rp ex ex rp rp (by decide) (by decide)
  unfold eqD
  rw [show VS.eqB (.lst (xss.map fun xs => .tup (xs.map D.str))) (.lst (xss.map fun xs => .tup (xs.map D.str))) = eqB0 (.lst (xss.map fun xs => .tup (xs.map D.str))) (.lst (xss.map fun xs => .tup (xs.map D.str))) from rfl, e]
  have ev : ∀ x y : List Str, PyData.eqv (.tuple (x.map PyData.str)) (.tuple (y.map PyData.str)) = decide (x = y) := fun x y => by
    simp only [PyData.eqv]
    rw [eqvAll_map PyData.str py_str]
  simp only [PyData.eqv]
  rw [eqvAll_map (fun xs : List Str => PyData.tuple (xs.map PyData.str)) ev]
  simp
theorem lo_L {ws : List Str} (k : Nat) (h : k ≤ ws.length) : slD (.lst (ws.map D.str)) none (some (k : Int)) = some (.lst ((ws.take k).map D.str)) := by
  have hn : ¬ ((k : Nat) : Int) < 0 := by omega
  simp only [slD]
  unfold cutD
  simp [HT.sIx, hn, List.map_take]
theorem rev_L (ws : List Str) : revD (.lst (ws.map D.str)) = some (.lst (ws.reverse.map D.str)) := by
  rw [List.map_reverse]; rfl
section
variable {cs : List Str}
theorem row_p (p : Str × Nat) : "hearth " ++ p.1 ++ " 0 " ++ num ((1 + p.2 % 9 : Nat) : Int) = J (pRow p) := by
  refine str_ext ?_
  simp only [pRow, J, join_two, join_one, app_list, List.append_assoc]
  rfl
theorem great_right (hn : ∀ z ∈ cs, IsName z) (nd : cs.Nodup) (h17 : cs.length = 17) : g_l_great_right [.v (.lst (cs.map D.str))] = some (.ok (.bl true), []) := by
  have tp := tells_p hn nd
  have ts := tells_s hn nd
  obtain ⟨p1, p2⟩ := tells_all tp h17
  obtain ⟨s1, s2⟩ := tells_all ts h17
  have wp := wds_p hn
  have ws := wds_s hn
  have lp := len_p hn
  have ls := len_s hn (by omega)
  have lz : cs.zipIdx.length = 17 := by simp [h17]
  have gp := great_text (R := cs.zipIdx.map pRow) wp lp (by simp [h17])
  have gs := great_text (R := cs.zipIdx.map (sRow cs)) ws ls (by simp [h17])
  have sub : ∀ {f : Str × Nat → List Str} {P : List Str → Prop}, (∀ x ∈ cs.zipIdx.map f, P x) → ∀ x ∈ (cs.zipIdx.take 16).map f, P x := fun h x hx => by
    obtain ⟨p, hp, rfl⟩ := List.mem_map.mp hx
    exact h _ (List.mem_map.mpr ⟨p, List.mem_of_mem_take hp, rfl⟩)
  have gp16 := great_text (R := (cs.zipIdx.take 16).map pRow) (sub wp) (sub lp) (by simp; omega)
  have gs16 := great_text (R := (cs.zipIdx.take 16).map (sRow cs)) (sub ws) (sub ls) (by simp; omega)
  have rp := gp.2 17 (by decide) p2
  have rs := gs.2 17 (by decide) s2
  have dp := gp16.1 _ p1
  have ds := gs16.1 _ s1
  have l16 : (cs.zipIdx.take 16).length = 16 := by simp [h17]
  have neF : ∀ F : Str × Nat → Fire, (cs.zipIdx.take 16).map F ≠ [] := fun F e => by
    have := congrArg List.length e
    rw [List.length_map, l16] at this
    simp at this
  rw [webS_ne (neF _)] at dp ds
  have nmF : ∀ {F : Str × Nat → Fire} {W : Str × Nat → List Str}, Tells cs W F → g_m_Web_names [.v (webD 2 ((cs.zipIdx.take 16).map F))] = some (.ok (.tup ((cs.take 16).map D.str)), []) := fun t => by
    rw [names_at 2 _ (by rw [List.length_map]; omega), ← tells_names t 16, List.map_map, List.map_map, List.map_map]; rfl
  have np := nmF tp
  have ns := nmF ts
  have lnF : ∀ F : Str × Nat → Fire, lenI 0 g_m_Web_len (webD 2 ((cs.zipIdx.take 16).map F)) = some (.int 16) := fun F => by
    have ln : g_m_Web_len [.v (webD 2 ((cs.zipIdx.take 16).map F))] = some (.ok (.int 16), []) := by
      have f2 : fldD 0 2 (webD 2 ((cs.zipIdx.take 16).map F)) = some (.tup (((cs.zipIdx.take 16).map F).map Fire.d)) := rfl
      have f3 : lenD (.tup (((cs.zipIdx.take 16).map F).map Fire.d)) = some (.int 16) := by
        have : (((cs.zipIdx.take 16).map F).map Fire.d).length = 16 := by rw [List.length_map, List.length_map, l16]
        simp only [lenD, this]; rfl
      generalize webD 2 ((cs.zipIdx.take 16).map F) = WD at *
      apply wF_eq
      refine w_def rfl rfl ?_
      simp only [st_v, st_l, st_n, st_0, h_m_Web_len]
      simp [f2, f3, h17]
    have sd : said g_m_Web_len [webD 2 ((cs.zipIdx.take 16).map F)] = some (.int 16) := by unfold said; rw [show ([webD 2 ((cs.zipIdx.take 16).map F)] : List D).map Arg.v = [Arg.v (webD 2 ((cs.zipIdx.take 16).map F))] from rfl, ln]
    have wi : webD 2 ((cs.zipIdx.take 16).map F) = .ins 0 [.dct (((cs.zipIdx.take 16).map F).map fun f => (.inr f.name, f.d)), .int 2, .tup (((cs.zipIdx.take 16).map F).map Fire.d)] := rfl
    rw [wi] at sd ⊢
    simp only [lenI, if_true]
    rw [sd]; rfl
  have wiF : ∀ F : Str × Nat → Fire, isIns 0 (webD 2 ((cs.zipIdx.take 16).map F)) = true := fun F => rfl
  have ne16 : neD (.tup ((cs.take 16).map D.str)) (.tup ((cs.take 16).map D.str)) = some (.bl false) := ne_strs (fun z hz => hn z (List.mem_of_mem_take hz)) (by rw [List.length_take]; omega)
  have c16 : slD (.lst (cs.map D.str)) none (some 16) = some (.lst ((cs.take 16).map D.str)) := lo_L (ws := cs) 16 (by omega)
  have fe : ∀ k, k < 16 → ∀ z, cs[k]? = some z → g_m_Web_feeders [.v (webD 2 ((cs.zipIdx.take 16).map (sF cs))), .v (.str z)] = some (.ok (.tup ((cs.take k).reverse.map D.str)), []) := fun k hk z hz => by
    have mem : sF cs (z, k) ∈ (cs.zipIdx.take 16).map (sF cs) := List.mem_map.mpr ⟨(z, k), by
      refine List.mem_of_getElem? (i := k) ?_
      rw [List.getElem?_take, if_pos hk, List.getElem?_zipIdx, hz]; simp, rfl⟩
    have ndF : (((cs.zipIdx.take 16).map (sF cs)).map Fire.name).Nodup := by
      rw [tells_names ts 16]
      exact nd.sublist (List.take_sublist 16 cs)
    obtain ⟨g, g1, g2, g3⟩ := fireOf_some (fs := (cs.zipIdx.take 16).map (sF cs)) (z := z) (List.mem_map.mpr ⟨_, mem, rfl⟩)
    obtain ⟨q, hq, rfl⟩ := List.mem_map.mp g2
    have q1 : q.1 = z := g3
    have q2 : q ∈ cs.zipIdx := List.mem_of_mem_take hq
    obtain ⟨j, hj⟩ := List.getElem?_of_mem q2
    obtain ⟨e1, e2, _⟩ := zip_at hj
    have jk : j = k := by
      rw [q1] at e2
      exact (List.getElem?_inj (List.getElem?_eq_some_iff.mp e2).1 nd).mp (e2.trans hz.symm)
    have := feeders_at (few := 2) g1
    rw [this]
    simp only [sF, e1, jk]
  have eqR := eq_rows (xss := (List.range 16).map fun k => (cs.take k).reverse) (fun xs hx => by
    obtain ⟨k, hk, rfl⟩ := List.mem_map.mp hx
    exact ⟨by rw [List.length_reverse, List.length_take]; omega, fun z hz => hn z (List.mem_of_mem_take (List.mem_reverse.mp hz))⟩) (by simp)
  rw [List.map_map] at eqR
  have r16 : range1D (.int 16) = some ((List.range 16).map fun k : Nat => D.int (k : Int)) := range1_n 16 (by decide)
  obtain ⟨PL, hPL⟩ : ∃ PL : List Str, PL = cs.zipIdx.map fun p => J (pRow p) := ⟨_, rfl⟩
  obtain ⟨SL, hSL⟩ : ∃ SL : List Str, SL = cs.zipIdx.map fun p => J (sRow cs p) := ⟨_, rfl⟩
  have mapJ : ∀ (f : Str × Nat → List Str) (zs : List (Str × Nat)), (zs.map f).map J = zs.map fun p => J (f p) := fun f zs => by rw [List.map_map]; rfl
  rw [mapJ] at rp rs dp ds
  rw [← hPL] at rp
  rw [← hSL] at rs
  rw [List.map_take, ← hPL] at dp
  rw [List.map_take, ← hSL] at ds
  have jl : ∀ xs : List Str, (∀ x ∈ xs, x.length ≤ 200) → xs.length ≤ 20 → joinD "\n" (.lst (xs.map D.str)) = some (.str (JL xs)) := fun xs h hl => join_ok (by
    have := sum_le 200 xs h
    have l1 : ("\n" : Str).length = 1 := rfl
    rw [l1]; omega)
  have shP : ∀ x ∈ PL, x.length ≤ 200 := fun x hx => by
    rw [hPL] at hx
    obtain ⟨p, hp, rfl⟩ := List.mem_map.mp hx
    exact lp _ (List.mem_map.mpr ⟨p, hp, rfl⟩)
  have shS : ∀ x ∈ SL, x.length ≤ 200 := fun x hx => by
    rw [hSL] at hx
    obtain ⟨p, hp, rfl⟩ := List.mem_map.mp hx
    exact ls _ (List.mem_map.mpr ⟨p, hp, rfl⟩)
  have lPL : PL.length = 17 := by rw [hPL]; simp [h17]
  have lSL : SL.length = 17 := by rw [hSL]; simp [h17]
  have sh2 : hd2.length ≤ 200 := by decide
  have both : ∀ xs : List Str, (∀ x ∈ xs, x.length ≤ 200) → xs.length = 17 → joinD "\n" (.lst ((hd2 :: xs).map D.str)) = some (.str (JL (hd2 :: xs))) ∧ slD (.lst ((hd2 :: xs).map D.str)) none (some 17) = some (.lst ((hd2 :: xs.take 16).map D.str)) ∧ joinD "\n" (.lst ((hd2 :: xs.take 16).map D.str)) = some (.str (JL (hd2 :: xs.take 16))) := fun xs h hl => by
    refine ⟨jl _ (fun x hx => ?_) (by simp; omega), ?_, jl _ (fun x hx => ?_) (by simp; omega)⟩
    · rcases List.mem_cons.mp hx with rfl | hx
      · exact sh2
      · exact h x hx
    · have := lo_L (ws := hd2 :: xs) 17 (by simp; omega)
      exact this
    · rcases List.mem_cons.mp hx with rfl | hx
      · exact sh2
      · exact h x (List.mem_of_mem_take hx)
  obtain ⟨jp1, jp2, jp3⟩ := both PL shP lPL
  obtain ⟨js1, js2, js3⟩ := both SL shS lSL
  have lcs : cs.length ≤ 1000000 := by omega
  apply wF_eq
  refine w_def rfl rfl ?_
  simp only [st_v, st_l, st_n, st_0, h_l_great_right]
  simp [-forGo_cons, -lcGo_cons]
  rw [enum_mapF]
  refine for_inv _ (fun pre post ρ => ∃ o3 o4 o5 : Option D, ρ = [some (Sl.val (.lst (cs.map D.str))), some (Sl.own false (.lst ((hd2 :: pre.map fun p => J (pRow p)).map D.str))), some (Sl.own false (.lst ((hd2 :: pre.map fun p => J (sRow cs p)).map D.str))), o3.map Sl.val, o4.map Sl.val, o5.map Sl.val, none, none]) cs.zipIdx ⟨none, none, none, rfl⟩ ?_ ?_
  · rintro ρ ⟨o3, o4, o5, rfl⟩
    rw [← hPL, ← hSL]
    have tl : ∀ xs, tupleE (.lst xs) = some (.tup xs) := fun _ => rfl
    have ix : ∀ k : Nat, k < 16 → ∃ z, cs[k]? = some z ∧ ixD (.lst (cs.map D.str)) (.int (k : Int)) = some (.str z) := fun k hk => by
      have hk2 : k < cs.length := by omega
      refine ⟨cs[k], List.getElem?_eq_getElem hk2, ?_⟩
      simp only [ixD]
      rw [VS.atI_nat, List.getElem?_map, List.getElem?_eq_getElem hk2]; rfl
    have w1 := wiF pF
    have w2 := wiF (sF cs)
    have l1 := lnF pF
    have l2 := lnF (sF cs)
    have s16 : fldD 0 0 (.int 0) = none := rfl
    generalize webD 2 ((cs.zipIdx.take 16).map pF) = WP at *
    generalize webD 2 ((cs.zipIdx.take 16).map (sF cs)) = WS at *
    generalize JL (hd2 :: PL) = TP at *
    generalize JL (hd2 :: SL) = TS at *
    generalize JL (hd2 :: PL.take 16) = TP16 at *
    generalize JL (hd2 :: SL.take 16) = TS16 at *
    generalize (hd2 :: PL).map D.str = PD at *
    generalize (hd2 :: SL).map D.str = SD at *
    generalize (hd2 :: PL.take 16).map D.str = PD16 at *
    generalize (hd2 :: SL.take 16).map D.str = SD16 at *
    generalize hC16 : (cs.take 16).map D.str = C16 at *
    obtain ⟨RG, hRG⟩ : ∃ RG, RG = List.range 16 := ⟨_, rfl⟩
    rw [← hRG] at r16
    have eqR : eqD (.lst (RG.map fun k => .tup ((cs.take k).reverse.map D.str))) (.lst (RG.map fun k => .tup ((cs.take k).reverse.map D.str))) = some (.bl true) := by rw [hRG]; exact eqR
    have lRG : RG.length ≤ 1000000 := by rw [hRG]; simp
    obtain ⟨LL, hLL⟩ : ∃ LL, LL = RG.map fun k => D.tup ((cs.take k).reverse.map D.str) := ⟨_, rfl⟩
    rw [← hLL] at eqR
    simp [tl, jp1, jp2, jp3, js1, js2, js3, dp, ds, rp, rs, np, ns, l1, l2, w1, w2, ne16, c16, r16, -List.map_take, -lcGo_cons, -VS.ix_lst, -List.map_map]
    refine lc_map (e := fun k : Nat => D.int (k : Int)) (xs := RG) (fun k => .tup ((cs.take k).reverse.map D.str)) lRG ?_ fun k hk => ?_
    rotate_left
    · have k16 : k < 16 := by rw [hRG] at hk; exact List.mem_range.mp hk
      obtain ⟨z, z1, z2⟩ := ix k k16
      have := fe k k16 z z1
      simp [z2, w2, this, -VS.ix_lst, -List.map_reverse]
    rw [← hLL]
    simp [r16, -List.map_take, -lcGo_cons, -VS.ix_lst, -List.map_map, -List.map_reverse]
    refine lc_map (e := fun k : Nat => D.int (k : Int)) (xs := RG) (fun k => .tup ((cs.take k).reverse.map D.str)) lRG ?_ fun k hk => ?_
    rotate_left
    · have k16 : k < 16 := by rw [hRG] at hk; exact List.mem_range.mp hk
      have s1 := lo_L (ws := cs) k (by omega)
      have s2 := rev_L (cs.take k)
      simp [s1, s2, tl, -List.map_take, -List.map_reverse]
    rw [← hLL]
    simp [eqR]
  · rintro pre p post ρ hx ⟨o3, o4, o5, rfl⟩
    have hp : cs.zipIdx[pre.length]? = some p := by rw [hx]; simp
    obtain ⟨e1, e2, e3⟩ := zip_at hp
    have nz := hn _ (List.mem_of_getElem? e2)
    have la := nz.hi
    have na : ∀ n, 6 ≤ n → p.1.length ≤ n := fun n h => nm_le la h
    obtain ⟨_, _, _, d4⟩ := dig_ok (n := 1 + p.2 % 9) (by omega) (by omega)
    have nl : ∀ n, 1 ≤ n → (num ((1 + p.2 % 9 : Nat) : Int)).length ≤ n := fun n h => by rw [d4]; exact h
    have md : (1 : Int) + (p.2 : Int) % 9 = ((1 + p.2 % 9 : Nat) : Int) := by omega
    have sd : strD (.int (1 + (p.2 : Int) % 9)) = some (.str (num ((1 + p.2 % 9 : Nat) : Int))) := by rw [md]; exact str_num (by omega)
    have s1 := lo_L (ws := cs) p.2 (by omega)
    have s2 := rev_L (cs.take p.2)
    have rp := row_p p
    have lpre : pre.length + 1 < 16000000 := by omega
    have mO : ∃ ov : List Str, ov = (if 0 < p.2 then (["over"] : List Str) else []) ∧ mulE (.lst [.str "over"]) (.int (if 0 < p.2 then 1 else 0)) = some (.lst (ov.map D.str)) := by
      refine ⟨_, rfl, ?_⟩
      by_cases c : 0 < p.2
      · rw [if_pos c, if_pos c]; rfl
      · rw [if_neg c, if_neg c]; rfl
    obtain ⟨ov, ov1, ov2⟩ := mO
    have a1 : addD (.lst [.str "hearth", .str p.1, .str "9", .str "0"]) (.lst (ov.map D.str)) = some (.lst (((["hearth", p.1, "9", "0"] : List Str) ++ ov).map D.str)) := by
      have : ov.length ≤ 1 := by rw [ov1]; split <;> simp
      simp only [addD]
      rw [if_pos (by simp [lim]; omega), List.map_append]; rfl
    have a2 : addD (.lst (((["hearth", p.1, "9", "0"] : List Str) ++ ov).map D.str)) (.lst ((cs.take p.2).reverse.map D.str)) = some (.lst ((sRow cs p).map D.str)) := by
      have : ov.length ≤ 1 := by rw [ov1]; split <;> simp
      simp only [addD]
      rw [if_pos (by simp [lim]; omega), ← List.map_append]
      congr 3
      unfold sRow
      rw [ov1, List.append_assoc]
    have mp : sRow cs p ∈ cs.zipIdx.map (sRow cs) := List.mem_map.mpr ⟨p, List.mem_of_getElem? hp, rfl⟩
    have jw : joinD " " (.lst ((sRow cs p).map D.str)) = some (.str (J (sRow cs p))) := join_ok (by
      have h6 : ∀ w ∈ sRow cs p, w.length ≤ 1000 := fun w hw => by
        unfold sRow at hw
        rcases List.mem_append.mp hw with q | q
        · simp only [List.mem_cons, List.not_mem_nil, or_false] at q
          rcases q with rfl | rfl | rfl | rfl
          · decide
          · omega
          · decide
          · decide
        · rcases List.mem_append.mp q with q | q
          · split at q
            · rw [List.mem_singleton.mp q]; decide
            · cases q
          · have := (hn w (List.mem_of_mem_take (List.mem_reverse.mp q))).hi
            omega
      have := sum_le 1000 _ h6
      have ln : (sRow cs p).length ≤ 30 := by
        unfold sRow
        rw [List.length_append, List.length_append, List.length_reverse, List.length_take]
        split <;> simp <;> omega
      have l1 : (" " : Str).length = 1 := rfl
      rw [l1]; omega)
    generalize hNM : num ((1 + p.2 % 9 : Nat) : Int) = NM at *
    generalize hRV : (cs.take p.2).reverse.map D.str = RV at *
    generalize hW1 : ((["hearth", p.1, "9", "0"] : List Str) ++ ov).map D.str = W1 at *
    generalize hW2 : (sRow cs p).map D.str = W2 at *
    generalize hOV : ov.map D.str = OV at *
    generalize hCT : (cs.take p.2).map D.str = CT at *
    have g1 : (pre.map fun p => J (pRow p)).length < 100 := by rw [List.length_map]; omega
    simp (config := { decide := true, maxDischargeDepth := 40 }) [addS, app_le, lit_le, na, nl, sd, s1, s2, ov2, a1, a2, jw, lpre, rp, -VS.add_lst, -List.map_take, -List.map_reverse]
    exact hide ⟨some (.int p.2), some (.str p.1), some (.lst W1), by simp⟩
end
end K07
set_option maxHeartbeats 4000000
namespace K07
open PySem L2 VS
def fX1 : Fire := ⟨"over", [1], []⟩
def fX2 : Fire := ⟨"hearth", [2], ["over"]⟩
def fX3 : Fire := ⟨"stores", [3], ["hearth", "over"]⟩
theorem nmX : IsName "over" ∧ IsName "hearth" ∧ IsName "stores" := by
  refine ⟨(nameB_iff _).mp (by decide), (nameB_iff _).mp (by decide), (nameB_iff _).mp (by decide)⟩
theorem lastX : g_p_read_web [.v (.str "stores 1\nhearth over 1\nhearth hearth 2 over over\nhearth stores 3 over hearth over")] = some (.ok (webD 1 [fX1, fX2, fX3]), []) := by
  obtain ⟨n1, n2, n3⟩ := nmX
  rw [← webS_ne (fs := [fX1, fX2, fX3]) (by simp)]
  refine readN (few := 1) (rs := [["hearth", "over", "1"], ["hearth", "hearth", "2", "over", "over"], ["hearth", "stores", "3", "over", "hearth", "over"]]) (by decide) (by decide) ?_ ?_ (by decide) (by simp) ?_
  · refine str_ext ?_
    simp only [List.map_cons, List.map_nil, JL, J, join_two, join_one, app_list, List.append_assoc]
    rfl
  · simp only [List.forall_mem_cons, List.not_mem_nil, false_imp_iff, implies_true, and_true]
    have w1 := Wd.name n1
    have w2 := Wd.name n2
    have w3 := Wd.name n3
    have l1 := wd_lits "1" (by decide)
    have l2 := wd_lits "2" (by decide)
    have l3 := wd_lits "3" (by decide)
    exact ⟨wds_of n1 (by simp [l1]), wds_of n2 (by simp [l2, w1]), wds_of n3 (by simp [l3, w1, w2])⟩
  · have t1 := nameT n1
    have t2 := nameT n2
    have t3 := nameT n3
    have d1 : ¬ (("hearth" : Str) = "over") := by decide
    have d2 : ¬ (("stores" : Str) = "over") := by decide
    have d3 : ¬ (("stores" : Str) = "hearth") := by decide
    have d4 : numB "hearth" = false := by decide
    simp [readW, rowW, toldF, toldB, goodB, hungB, rngB, feedB, List.takeWhile, List.dropWhile, t1, t2, t3, d1, d2, d3, d4, lit_1, lit_2, lit_3, lit_o, v_1, v_2, v_3, fX1, fX2, fX3]
theorem okX : RowsOk 1 [fX1, fX2, fX3] := by
  obtain ⟨n1, n2, n3⟩ := nmX
  intro f hf
  simp only [List.mem_cons, List.not_mem_nil, or_false] at hf
  rcases hf with rfl | rfl | rfl
  · exact ⟨n1, ⟨rfl, by simp [fX1], ⟨1, by simp [fX1], by decide⟩⟩, by simp [fX1], by simp [fX1]⟩
  · exact ⟨n2, ⟨rfl, by simp [fX2], ⟨2, by simp [fX2], by decide⟩⟩, by simp [fX2], by simp [fX2, n1]⟩
  · exact ⟨n3, ⟨rfl, by simp [fX3], ⟨3, by simp [fX3], by decide⟩⟩, by simp [fX3], by simp [fX3, n1, n2]⟩
theorem math (ns : List Int) (hl : ns.length ≤ 63) : g_law_ [.v (.frl (ns.map D.int))] = some (.ok (.bl true), []) := by
  have al : ∀ n : Nat, allD (.lst (List.replicate n (D.bl true))) = some (.bl true) := fun n => by
    have := all_bls (List.replicate n true)
    rw [List.map_replicate] at this
    rw [this]; simp
  have cst : ∀ xs : List Str, (xs.map fun _ => D.bl true) = List.replicate xs.length (D.bl true) := fun xs => List.map_const' ..
  have hd := heads_list
  have lh : headsS.length ≤ 1000000 := by decide
  have eq := eq_fires (by decide) (by decide) (by simp) (by simp) okX okX
  have eD : D.tup (List.map Fire.d [fX1, fX2, fX3]) = .tup [.tup [.str "over", .tup [.int 1], .tup []], .tup [.str "hearth", .tup [.int 2], .tup [.str "over"]], .tup [.str "stores", .tup [.int 3], .tup [.str "hearth", .str "over"]]] := rfl
  have f2 : fldD 0 2 (webD 1 [fX1, fX2, fX3]) = some (.tup (List.map Fire.d [fX1, fX2, fX3])) := rfl
  rw [eD] at eq f2
  have eq : eqD (.tup [.tup [.str "over", .tup [.int 1], .tup []], .tup [.str "hearth", .tup [.int 2], .tup [.str "over"]], .tup [.str "stores", .tup [.int 3], .tup [.str "hearth", .str "over"]]]) (.tup [.tup [.str "over", .tup [.int 1], .tup []], .tup [.str "hearth", .tup [.int 2], .tup [.str "over"]], .tup [.str "stores", .tup [.int 3], .tup [.str "hearth", .str "over"]]]) = some (.bl true) := by rw [eq]; simp
  have rd := lastX
  generalize webD 1 [fX1, fX2, fX3] = WX at *
  apply wF_eq
  refine w_def rfl rfl ?_
  simp only [st_v, st_l, st_n, st_0, h_law_]
  have e5 : ∃ k : Nat, k ≤ 4 ∧ (if 2 < (if (ns.length : Int) < 4 then (ns.length : Int) else 4) then (if (ns.length : Int) < 4 then (ns.length : Int) else 4) else 2) = (k : Int) := by
    refine ⟨max 2 (min ns.length 4), by omega, ?_⟩
    split <;> split <;> omega
  obtain ⟨k, hk, ek⟩ := e5
  simp [hd, -lcGo_cons, -forGo_cons]
  refine lc_map (e := D.str) (xs := headsS) (fun _ => .bl true) lh ?_ fun r hr => ?_
  rotate_left
  · simp [head_1 hr]
  rw [cst]
  simp [al, hd, -VS.all_lst, -lcGo_cons, -forGo_cons]
  refine lc_map (e := D.str) (xs := headsS) (fun _ => .bl true) lh ?_ fun r hr => ?_
  rotate_left
  · have a1 : addD (.str r) (.str "\nhearth a 1") = some (.str (r ++ "\nhearth a 1")) := addS (by have := (heads_ok r hr).2.2; omega) (by decide)
    simp [a1, head_2 hr]
  rw [cst]
  simp [al, -VS.all_lst, -lcGo_cons, -forGo_cons]
  rw [ek, range1_n k (by omega)]
  refine for_inv _ (fun pre post ρ => ∃ (o1 : Option D) (o2 : Option MO) (o3 : Option D), ρ = [some (.val (.frl (ns.map .int))), o1.map Sl.val, o2.map (Sl.own false), o3.map Sl.val, none, none]) (List.range k) ⟨none, none, none, rfl⟩ ?_ ?_
  · rintro ρ ⟨o1, o2, o3, rfl⟩
    simp [rd, f2, eq]
  · rintro pre j post ρ hx ⟨o1, o2, o3, rfl⟩
    have hj : j ≤ 1000 := by
      have : j ∈ List.range k := by rw [hx]; simp
      rw [List.mem_range] at this; omega
    obtain ⟨z, hz⟩ := cell_ok ns j hj
    obtain ⟨m0, a1, a2⟩ := hand_ok z
    obtain ⟨m1, cs, b1, b2, b3, b4, b5⟩ := calls_ok (n := 100) (m := m0) (many := 17) (by decide) (a1.mono (by decide))
    have ix : ∀ k : Nat, (h : k < 17) → ixD (.lst (cs.map D.str)) (.int (k : Int)) = some (.str cs[k]) := fun k h => by
      simp only [ixD]
      rw [VS.atI_nat, List.getElem?_map, List.getElem?_eq_getElem (by omega)]; rfl
    have i0 : ixD (.lst (cs.map D.str)) (.int 0) = some (.str cs[0]) := ix 0 (by decide)
    have i1 : ixD (.lst (cs.map D.str)) (.int 1) = some (.str cs[1]) := ix 1 (by decide)
    have i2 : ixD (.lst (cs.map D.str)) (.int 2) = some (.str cs[2]) := ix 2 (by decide)
    have i3 : ixD (.lst (cs.map D.str)) (.int 3) = some (.str cs[3]) := ix 3 (by decide)
    have i4 : ixD (.lst (cs.map D.str)) (.int 4) = some (.str cs[4]) := ix 4 (by decide)
    have nm : ∀ k, (h : k < cs.length) → IsName cs[k] := fun k h => b4 _ (List.getElem_mem h)
    have un : ∀ i j, (hi : i < cs.length) → (hj : j < cs.length) → i ≠ j → cs[i] ≠ cs[j] := fun i j hi hj ne e => ne ((List.getElem?_inj hi b3).mp (by rw [List.getElem?_eq_getElem hi, List.getElem?_eq_getElem hj, e]))
    have r1 := small_right (nm 0 (by omega)) (nm 1 (by omega)) (nm 2 (by omega)) (un 0 1 (by omega) (by omega) (by decide)) (un 1 2 (by omega) (by omega) (by decide)) (un 0 2 (by omega) (by omega) (by decide))
    have r2 := stores_right (nm 3 (by omega)) (nm 4 (by omega)) (un 3 4 (by omega) (by omega) (by decide))
    have r3 := great_right b4 b3 b2
    have b5 : g_l_calls [Arg.l m0, Arg.v (.int 17)] = some (Res.nw (MO.lst (cs.map D.str)), [m1]) := b5
    generalize cs.map D.str = CS at *
    simp [hz, a2, b5, i0, i1, i2, i3, i4, r1, r2, r3, -VS.ix_lst]
    exact hide ⟨some (.int j), some m1, some (.lst CS), rfl⟩
end K07
set_option maxHeartbeats 0
namespace K07
open PySem L2 PySem.Spec PyProof.Rows VS
theorem law_sp {K : PySem.W.Frag} (H : Hp) (a : Addr) (ns : List Int) (hl : ns.length ≤ 63) (hS : SqL K H a (ns.map V.int)) : spG K (TX K) g_law_ 1 [.ref a] H (fun v _ => v = .bl true) fun _ _ _ => False := by
  refine ⟨H, fun _ => none, [.v (.frl (ns.map D.int))], .ok (.bl true), [], rfl, ?_, math ns hl, fun v F' H' e r p => p⟩
  have own0 : ∀ (i : Nat) (l : Bool) (m : MO), ¬ (([VS.Arg.v (.frl (ns.map D.int))] : List VS.Arg).map slotOf)[i]? = some (some (Sl.own l m)) := fun i l m q => by
    cases i with
    | zero => cases q
    | succ i => simp at q
  refine ⟨Ex.refl H, (fun b u q => nomatch (show (none : Option HO) = some u from q)), fun b u q => rfl, rfl, fun i d q => ?_, fun i l m q => ?_, fun i j l m l' m' b q1 => ?_, fun i b q => ?_, ⟨fun i k io b ⟨l, c, fs, a, o, h1, _⟩ => (own0 i l _ h1).elim, fun i k io b j l m ⟨l', c, fs, a, o, h1, _⟩ => (own0 i l' _ h1).elim, fun i k io b j k' io' ⟨l', c, fs, a, o, h1, _⟩ => (own0 i l' _ h1).elim⟩⟩
  · cases i with
    | zero => cases q; exact ⟨.ref a, rfl, a, _, rfl, hS, reps_ints ns⟩
    | succ i => simp at q
  · cases i with
    | zero => cases q
    | succ i => simp at q
  · cases i with
    | zero => cases q1
    | succ i => simp at q1
  · cases i with
    | zero => cases q
    | succ i => simp [lentOf] at q
end K07
open PySem PySem.W PySem.Calls PyProof.Rows
theorem PySem.Challenge.cw_kindlestair_k07_texts_at_their_bounds_holds : PySem.Challenge.rw_kindlestair_k07_texts_at_their_bounds.Holds := by
  w_on; o_law
  refine HandSHeadRun.head_any (r := OpenLaw.row PySem.Challenge.rw_kindlestair_k07_texts_at_their_bounds) (q := view (OpenLaw.row PySem.Challenge.rw_kindlestair_k07_texts_at_their_bounds).prog [41]) (H := K07.hk) (ob := K07.ob) (M := 14000) (loose := K07.loose) (d := HandSHeadRun.topDef (OpenLaw.row PySem.Challenge.rw_kindlestair_k07_texts_at_their_bounds).prog 41) (kwd := []) K07.ob_eq
    (by kernel_rfl) (fun s => by kernel_rfl) K07.run (by kernel_rfl) (by kernel_rfl) (by kernel_rfl) (by rfl) (by first | assumption | decide +kernel) (by decide +kernel) ⟨rfl, rfl, rfl, rfl, rfl, by decide +kernel⟩ ?hw ?hc
  case hw => w_witness2
  case hc =>
    refine VS.walkG (l := PySem.Challenge.rw_kindlestair_k07_texts_at_their_bounds) (n := 63) (k := 40) (x := "_law_script") rfl (by decide) (by kernel_rfl) ⟨rfl, by decide, by decide⟩ ?F
    intro w mg fa h Y G hmg0
    obtain ⟨K, KX, c⟩ := Y
    have hmg : mg ("law" : PySem.Str) = some (.ref fa) := by
      have e : (HandSHeadRun.topDef (OpenLaw.row PySem.Challenge.rw_kindlestair_k07_texts_at_their_bounds).prog 41).name = ("law" : PySem.Str) := by kernel_rfl
      rw [← e]
      exact hmg0
    obtain ⟨fd, hb, hF⟩ := K07.facts (P := (PySem.Challenge.rw_kindlestair_k07_texts_at_their_bounds).prog) (w := w) KX G hmg c
    exact ⟨K, fd, _, ⟨KX, hb, fun H a ns hl hS => K07.law_sp H a ns hl hS, fun base h1 h2 => (hF base h1 h2).mono (by decide)⟩⟩
